import Derived.WalkKit
import Derived.Laws.CopyOwn
import Derived.Deep.WholeRow
/- The plain numbers behind Derive: no walk here. -/
namespace Go.Proofs.YtkpebabbnndopaaGreatDoor
open Go.RowKit

def Mix (h b : Int) : Int := IntKind.u64.wrap (bits BinOp.xor IntKind.u64 h b * 1099511628211)
def Fin3 (h : Int) : Int := Mix h (h / 4294967296)
theorem fold_mix (h b : Int) : IntKind.u64.wrap (bits BinOp.xor IntKind.u64 h b * 1099511628211) = Mix h b := rfl
theorem fold_fin (h : Int) : Mix h (h / 4294967296) = Fin3 h := rfl
def MixS (s : Nat → Int) : Int := Mix (Mix (Mix (Mix (Mix (Mix (Mix (Mix 14695981039346656037 (s 0)) (s 1)) (s 2)) (s 3)) (s 4)) (s 5)) (s 6)) (s 7)
def MixL (h : Int) (l : List UInt8) : Int := l.foldl (fun a c => Mix a c.toNat) h
def MixN (h n : Int) : Int := Mix (Mix (Mix (Mix h (n / 16777216 % 256)) (n / 65536 % 256)) (n / 256 % 256)) (n % 256)
def Der (s : Nat → Int) (l : List UInt8) (n : Int) : Int := Fin3 (Fin3 (Fin3 (MixN (MixL (MixS s) l) (n % 4294967296))))
def Byt (h : Int) : Nat → Int
  | 0 => h / 72057594037927936 % 256
  | 1 => h / 281474976710656 % 256
  | 2 => h / 1099511627776 % 256
  | 3 => h / 4294967296 % 256
  | 4 => h / 16777216 % 256
  | 5 => h / 65536 % 256
  | 6 => h / 256 % 256
  | _ => h % 256
def DerB (s : Nat → Int) (l : List UInt8) (n : Int) (i : Nat) : Int := Byt (Der s l n) i

/-- eight bytes as a value -/
abbrev Agg8 (s : Nat → Int) : Value := .agg #[.int .u8 (s 0), .int .u8 (s 1), .int .u8 (s 2), .int .u8 (s 3), .int .u8 (s 4), .int .u8 (s 5), .int .u8 (s 6), .int .u8 (s 7)]

abbrev Cells8 (s : Nat → Int) : Array Value := #[.int .u8 (s 0), .int .u8 (s 1), .int .u8 (s 2), .int .u8 (s 3), .int .u8 (s 4), .int .u8 (s 5), .int .u8 (s 6), .int .u8 (s 7)]
theorem Mix_bd (h b : Int) : 0 ≤ Mix h b ∧ Mix h b < 18446744073709551616 := by
  unfold Mix; rw [IntKind.wrap_u64]; omega
theorem Byt_bd (h : Int) (i : Nat) : 0 ≤ Byt h i ∧ Byt h i < 256 := by unfold Byt; split <;> omega
theorem MixL_snoc (h : Int) (l : List UInt8) (c : UInt8) : MixL h (l ++ [c]) = Mix (MixL h l) c.toNat := by
  unfold MixL; rw [List.foldl_append]; rfl
theorem take_snoc (s : ByteArray) (k : Nat) (h : k < s.size) : s.data.toList.take (k + 1) = s.data.toList.take k ++ [s[k]] := by
  rw [List.take_succ_eq_append_getElem (by simpa using h)]; rfl
theorem MixL_step (h : Int) (s : ByteArray) (k : Nat) (hk : k < s.size) : MixL h (s.data.toList.take (k + 1)) = Mix (MixL h (s.data.toList.take k)) s[k].toNat := by
  rw [take_snoc s k hk, MixL_snoc]
theorem byte_bd (c : UInt8) : 0 ≤ (c.toNat : Int) ∧ (c.toNat : Int) < 256 := by have := c.toNat_lt; omega
def DerW (s : Nat → Int) (l : List UInt8) (n : Int) : Int := Fin3 (Fin3 (Fin3 (Mix (Mix (Mix (Mix (MixL (MixS s) l) (n % 4294967296 / 16777216 % 256)) (n % 4294967296 / 65536 % 256)) (n % 4294967296 / 256 % 256)) (n % 256))))
theorem DerW_eq (s : Nat → Int) (l : List UInt8) (n : Int) : Byt (DerW s l n) = DerB s l n := by
  have e : n % 4294967296 % 256 = n % 256 := by omega
  funext i
  unfold DerB DerW Der MixN
  rw [e]
def DerR (L n : Int) : Int := Fin3 (Fin3 (Fin3 (Mix (Mix (Mix (Mix L (n % 4294967296 / 16777216)) (n % 4294967296 * 256 % 4294967296 / 16777216)) (n % 4294967296 * 256 % 4294967296 * 256 % 4294967296 / 16777216)) (n % 4294967296 * 256 % 4294967296 * 256 % 4294967296 * 256 % 4294967296 / 16777216))))
theorem DerR_eq (s : Nat → Int) (l : List UInt8) (n : Int) : Byt (DerR (MixL (MixS s) l) n) = DerB s l n := by
  have e0 : n % 4294967296 / 16777216 = n % 4294967296 / 16777216 % 256 := by omega
  have e1 : n % 4294967296 * 256 % 4294967296 / 16777216 = n % 4294967296 / 65536 % 256 := by omega
  have e2 : n % 4294967296 * 256 % 4294967296 * 256 % 4294967296 / 16777216 = n % 4294967296 / 256 % 256 := by omega
  have e3 : n % 4294967296 * 256 % 4294967296 * 256 % 4294967296 * 256 % 4294967296 / 16777216 = n % 4294967296 % 256 := by omega
  funext i
  unfold DerB Der DerR MixN
  rw [e1, e2, e3, ← e0]
/-- a secret out of a text: its first eight bytes, noughts behind -/
def SecL (l : List UInt8) (i : Nat) : Int := ((l.getD i 0).toNat : Int)
theorem SecL_bd (l : List UInt8) (i : Nat) : 0 ≤ SecL l i ∧ SecL l i < 256 := byte_bd _
theorem SecL_cells (l : List UInt8) :
    ((l.take 8).map fun b => Value.int .u8 (b.toNat : Int)) ++ [Value.int .u8 0, .int .u8 0, .int .u8 0, .int .u8 0, .int .u8 0, .int .u8 0, .int .u8 0, .int .u8 0].drop (l.take 8).length
      = [Value.int .u8 (SecL l 0), .int .u8 (SecL l 1), .int .u8 (SecL l 2), .int .u8 (SecL l 3), .int .u8 (SecL l 4), .int .u8 (SecL l 5), .int .u8 (SecL l 6), .int .u8 (SecL l 7)] := by
  rcases l with _ | ⟨a, _ | ⟨b, _ | ⟨c, _ | ⟨d, _ | ⟨e, _ | ⟨f, _ | ⟨g, _ | ⟨h, r⟩⟩⟩⟩⟩⟩⟩⟩ <;> simp [SecL, List.getD]
end Go.Proofs.YtkpebabbnndopaaGreatDoor

/- The tree and the ratchet, as plain functions: no walk here. -/
namespace Go.Proofs.YtkpebabbnndopaaGreatDoor
open Go.RowKit

def lLeft : List UInt8 := [108, 101, 102, 116]
def lRight : List UInt8 := [114, 105, 103, 104, 116]
def lRatchet : List UInt8 := [114, 97, 116, 99, 104, 101, 116]
def lNext : List UInt8 := [110, 101, 120, 116]
def lKey : List UInt8 := [107, 101, 121]

/-- the greatest power of 2 below n, from 2 to 16 -/
def SplitI (n : Int) : Int := if n ≤ 2 then 1 else if n ≤ 4 then 2 else if n ≤ 8 then 4 else 8
theorem SplitI_bd (n : Int) (h : 2 ≤ n) : 1 ≤ SplitI n ∧ SplitI n < n := by
  unfold SplitI; split <;> (try split) <;> (try split) <;> omega

/-- the secret of member m within the part from f to t, whose secret is s (k: at least as many halvings as there are) -/
def LeafB : Nat → (Nat → Int) → Int → Int → Int → (Nat → Int)
  | 0, s, _, _, _ => s
  | k + 1, s, f, t, m => if t - f ≤ 1 then s else if m < f + SplitI (t - f) then LeafB k (DerB s lLeft 0) f (f + SplitI (t - f)) m else LeafB k (DerB s lRight 0) (f + SplitI (t - f)) t m
theorem LeafB_one (k : Nat) (s : Nat → Int) (f t m : Int) (h : t - f ≤ 1) : LeafB k s f t m = s := by
  cases k with
  | zero => rfl
  | succ k => rw [LeafB, if_pos h]
theorem LeafB_left (k : Nat) (s : Nat → Int) (f t m : Int) (h : 1 < t - f) (hm : m < f + SplitI (t - f)) : LeafB (k + 1) s f t m = LeafB k (DerB s lLeft 0) f (f + SplitI (t - f)) m := by
  rw [LeafB, if_neg (by omega), if_pos hm]
theorem LeafB_right (k : Nat) (s : Nat → Int) (f t m : Int) (h : 1 < t - f) (hm : ¬ m < f + SplitI (t - f)) : LeafB (k + 1) s f t m = LeafB k (DerB s lRight 0) (f + SplitI (t - f)) t m := by
  rw [LeafB, if_neg (by omega), if_neg hm]
theorem DerB_bd (s : Nat → Int) (l : List UInt8) (n : Int) (i : Nat) : 0 ≤ DerB s l n i ∧ DerB s l n i < 256 := Byt_bd _ _
theorem LeafB_bd (k : Nat) (s : Nat → Int) (f t m : Int) (hs : ∀ i, 0 ≤ s i ∧ s i < 256) : ∀ i, 0 ≤ LeafB k s f t m i ∧ LeafB k s f t m i < 256 := by
  induction k generalizing s f t with
  | zero => exact hs
  | succ k ih =>
    rw [LeafB]
    split
    · exact hs
    · split
      · exact ih _ _ _ (DerB_bd _ _ _)
      · exact ih _ _ _ (DerB_bd _ _ _)

/-- a ratchet's secret at a generation -/
def RatB (s : Nat → Int) : Nat → (Nat → Int)
  | 0 => s
  | n + 1 => DerB (RatB s n) lNext n
theorem RatB_bd (s : Nat → Int) (hs : ∀ i, 0 ≤ s i ∧ s i < 256) (n : Nat) : ∀ i, 0 ≤ RatB s n i ∧ RatB s n i < 256 := by
  cases n with
  | zero => exact hs
  | succ n => exact DerB_bd _ _ _
/-- a member's leaf; its ratchet; its key -/
def LeafM (s : Nat → Int) (n m : Int) : Nat → Int := LeafB 16 s 0 n m
def RatM (s : Nat → Int) (n m : Int) (g : Nat) : Nat → Int := RatB (DerB (LeafM s n m) lRatchet 0) g
def KeyM (s : Nat → Int) (n m : Int) (g : Nat) : Nat → Int := DerB (RatM s n m g) lKey g
end Go.Proofs.YtkpebabbnndopaaGreatDoor

/- The plain bytes behind Seal and Open: no walk here. -/
namespace Go.Proofs.YtkpebabbnndopaaGreatDoor
open Go.RowKit

/-! sums -/
def SumB (h b : Int) : Int := bits BinOp.xor IntKind.u32 h b * 16777619 % 4294967296
theorem fold_sum (h b : Int) : bits BinOp.xor IntKind.u32 h b * 16777619 % 4294967296 = SumB h b := rfl
theorem SumB_bd (h b : Int) : 0 ≤ SumB h b ∧ SumB h b < 4294967296 := by unfold SumB; omega
def SumL (h : Int) (l : List UInt8) : Int := l.foldl (fun a c => SumB a c.toNat) h
theorem SumL_snoc (h : Int) (l : List UInt8) (c : UInt8) : SumL h (l ++ [c]) = SumB (SumL h l) c.toNat := by
  unfold SumL; rw [List.foldl_append]; rfl
theorem SumL_step (h : Int) (l : List UInt8) (k : Nat) (hk : k < l.length) : SumL h (l.take (k + 1)) = SumB (SumL h (l.take k)) l[k].toNat := by
  rw [List.take_succ_eq_append_getElem hk, SumL_snoc]
theorem SumL_append (h : Int) (l m : List UInt8) : SumL h (l ++ m) = SumL (SumL h l) m := by unfold SumL; rw [List.foldl_append]
def SumAll (l m : List UInt8) : Int := SumL (SumB (SumL 2166136261 l) 0) m
theorem SumAll_eq (l m : List UInt8) : SumL 2166136261 (l ++ [0] ++ m) = SumAll l m := by
  rw [SumL_append, SumL_append]; rfl

def TagN (S : Int) : Int := wrap64 (bits BinOp.and IntKind.u32 S 2147483647)

/-! the stream -/
def lStream : List UInt8 := [115, 116, 114, 101, 97, 109]
def lTag : List UInt8 := [116, 97, 103]
def Blk (s : Nat → Int) (i : Nat) : Nat → Int := DerB s lStream (i : Int)
def XB (c : UInt8) (b : Int) : UInt8 := UInt8.ofNat (bits BinOp.xor IntKind.u8 c.toNat b).toNat
theorem XB_toNat (c : UInt8) (b : Int) (h0 : 0 ≤ b) (h1 : b < 256) : bits BinOp.xor IntKind.u8 c.toNat b = ((XB c b).toNat : Int) := by
  have hc := c.toNat_lt
  unfold XB
  rw [u8_xor _ _ (by omega) (by omega) h0 h1]
  have hlt : (c.toNat : Int).toNat ^^^ b.toNat < 2 ^ 8 := Nat.xor_lt_two_pow (by omega) (by omega)
  simp only [Int.toNat_natCast] at hlt ⊢
  rw [UInt8.toNat_ofNat', Nat.mod_eq_of_lt hlt]
def MixT (s : Nat → Int) (l : List UInt8) : List UInt8 := l.mapIdx fun i c => XB c (Blk s (i / 8) (i % 8))
theorem MixT_length (s : Nat → Int) (l : List UInt8) : (MixT s l).length = l.length := by simp [MixT]
theorem MixT_step (s : Nat → Int) (l : List UInt8) (k : Nat) (hk : k < l.length) : MixT s (l.take (k + 1)) = MixT s (l.take k) ++ [XB l[k] (Blk s (k / 8) (k % 8))] := by
  unfold MixT
  rw [List.take_succ_eq_append_getElem hk, List.mapIdx_append]
  simp [Nat.min_eq_left (Nat.le_of_lt hk)]
theorem XB_XB (c : UInt8) (b : Int) (h0 : 0 ≤ b) (h1 : b < 256) : XB (XB c b) b = c := by
  have hc := c.toNat_lt
  have e := XB_toNat (XB c b) b h0 h1
  have e2 := XB_toNat c b h0 h1
  rw [u8_xor _ _ (by omega) (by omega) h0 h1] at e2
  rw [← e2, u8_xor _ _ (by omega) (by have := (XB c b).toNat_lt; omega) h0 h1] at e
  apply UInt8.toNat_inj.1
  have e3 := Int.ofNat_inj.1 e
  rw [← e3]
  simp [Nat.xor_assoc]
theorem Blk_bd (s : Nat → Int) (i j : Nat) : 0 ≤ Blk s i j ∧ Blk s i j < 256 := Byt_bd _ _
theorem MixT_MixT (s : Nat → Int) (l : List UInt8) : MixT s (MixT s l) = l := by
  unfold MixT
  apply List.ext_getElem
  · simp
  · intro i h1 h2
    simp only [List.getElem_mapIdx]
    exact XB_XB _ _ (Blk_bd _ _ _).1 (Blk_bd _ _ _).2

/-- bytes, then noughts up to n -/
def RowB (m : List UInt8) (n : Nat) : Array Value := (m.map (fun c => Value.int .u8 (c.toNat : Int)) ++ List.replicate (n - m.length) (Value.int .u8 0)).toArray
theorem RowB_size (m : List UInt8) (n : Nat) (h : m.length ≤ n) : (RowB m n).size = n := by simp [RowB]; omega
theorem RowB_nil (n : Nat) : madeCells #[Value.int .u8 0] n = RowB [] n := by
  apply Array.ext'
  rw [toList_madeCells_one]
  simp [RowB]
theorem RowB_set (m : List UInt8) (n : Nat) (c : UInt8) (h : m.length < n) : (RowB m n).setIfInBounds m.length (.int .u8 (c.toNat : Int)) = RowB (m ++ [c]) n := by
  apply Array.ext'
  obtain ⟨r, hr⟩ : ∃ r, n - m.length = r + 1 := ⟨n - m.length - 1, by omega⟩
  have hr2 : n - (m.length + 1) = r := by omega
  simp [RowB, hr, hr2, List.replicate_succ]
theorem RowB_at (m : List UInt8) (n i : Nat) (h : i < m.length) : (RowB m n)[i]? = some (.int .u8 (m[i].toNat : Int)) := by
  simp only [RowB, List.getElem?_toArray]
  rw [List.getElem?_append_left (by simpa using h)]
  simp [h]
/-- a slice's bytes: nothing is asked of one without any -/
def Bts (w : World) (a : Option Addr) (l : List UInt8) : Prop :=
  l = [] ∨ ∃ b o, a = some ⟨b, o, none⟩ ∧ ∀ i (h : i < l.length), w.cell? ⟨b, o + i, none⟩ = some (.int .u8 (l[i].toNat : Int))
theorem Bts.below {w w' : World} {a : Option Addr} {l : List UInt8} (h : Bts w a l) (hb : Below w.heap.size w w') : Bts w' a l := by
  rcases h with h | ⟨b, o, rfl, hc⟩
  · exact .inl h
  · refine .inr ⟨b, o, rfl, fun i hi => ?_⟩
    have hci := hc i hi
    have hlt : b < w.heap.size := block_lt_of_cell hci
    rw [hb.cell (p := ⟨b, o + i, none⟩) hlt, hci]
theorem Cells8_at (B : Nat → Int) (j : Nat) (h : j < 8) : (Cells8 B)[j]? = some (.int .u8 (B j)) := by
  have h8 : j = 0 ∨ j = 1 ∨ j = 2 ∨ j = 3 ∨ j = 4 ∨ j = 5 ∨ j = 6 ∨ j = 7 := by omega
  rcases h8 with rfl | rfl | rfl | rfl | rfl | rfl | rfl | rfl <;> rfl
theorem Cells8_one (B : Nat → Int) : (Cells8 B).all (·.oneCell') = true := by simp [Value.oneCell']
theorem RowB_some (m : List UInt8) (n i : Nat) (hm : m.length ≤ n) (h : i < n) : ∃ v, (RowB m n)[i]? = some v := by
  have hs := RowB_size m n hm
  exact ⟨_, Array.getElem?_eq_getElem (by omega)⟩
theorem RowB_of_bytes (s : ByteArray) (cap : Nat) : bytesRow s cap = RowB s.data.toList cap := by
  apply Array.ext'
  simp [bytesRow, RowB]
/-- what stands in the row behind k rounds of the other's loop -/
def Half (s : Nat → Int) (l : List UInt8) (k : Nat) : List UInt8 := MixT s (l.take k) ++ l.drop k
theorem Half_length (s : Nat → Int) (l : List UInt8) (k : Nat) (h : k ≤ l.length) : (Half s l k).length = l.length := by simp [Half, MixT_length]; omega
theorem Half_zero (s : Nat → Int) (l : List UInt8) : Half s l 0 = l := by simp [Half, MixT]
theorem Half_all (s : Nat → Int) (l : List UInt8) : Half s l l.length = MixT s l := by simp [Half]
theorem Half_at (s : Nat → Int) (l : List UInt8) (k : Nat) (h : k < l.length) (h2 : k < (Half s l k).length) : (Half s l k)[k] = l[k] := by
  have e : (MixT s (l.take k)).length = k := by rw [MixT_length, List.length_take]; omega
  simp only [Half]
  rw [List.getElem_append_right (by omega)]
  simp [e]
theorem Half_set (s : Nat → Int) (l : List UInt8) (k : Nat) (h : k < l.length) : (Half s l k).set k (XB l[k] (Blk s (k / 8) (k % 8))) = Half s l (k + 1) := by
  have e : (MixT s (l.take k)).length = k := by rw [MixT_length, List.length_take]; omega
  simp only [Half]
  rw [MixT_step s l k h, List.set_append_right _ _ (by omega), e, Nat.sub_self, List.drop_eq_getElem_cons h, List.set_cons_zero, List.append_assoc]
  rfl
theorem RowB_put (m : List UInt8) (n k : Nat) (c : UInt8) (h : k < m.length) : (RowB m n).setIfInBounds k (.int .u8 (c.toNat : Int)) = RowB (m.set k c) n := by
  apply Array.ext'
  simp only [RowB, Array.toList_setIfInBounds, List.length_set]
  rw [List.set_append_left _ _ (by simpa using h), List.map_set]
theorem bcell {W w1 : World} (hb : Below W.heap.size W w1) : (∀ b o, b < W.heap.size → w1.cell? ⟨b, o, none⟩ = W.cell? ⟨b, o, none⟩) ∧ (∀ b o, b < W.heap.size → w1.frozen? ⟨b, o, none⟩ = W.frozen? ⟨b, o, none⟩) :=
  ⟨fun b o h => hb.cell (p := ⟨b, o, none⟩) h, fun b o h => hb.frozen (p := ⟨b, o, none⟩) h⟩
theorem TagN_eq (S : Int) : IntKind.i64.wrap (bits BinOp.and IntKind.u32 S 2147483647) = TagN S := by
  unfold TagN wrap64
  rw [IntKind.wrap_i64]
abbrev Cells4 (D : Nat → Int) : Array Value := #[.int .u8 (D 0), .int .u8 (D 1), .int .u8 (D 2), .int .u8 (D 3)]
/-- eight stores into one row, one by one -/
theorem stores8_row (w : World) (g : Nat) (t : TypeId) (x : Nat → Int) (D : Nat → Int) (hg : w.heap[g]? = some (.cells (Cells8 x) t (0, 0))) :
    ((((((((w.setCell ⟨g, 0, none⟩ (.int .u8 (D 0))).setCell ⟨g, 1, none⟩ (.int .u8 (D 1))).setCell ⟨g, 2, none⟩ (.int .u8 (D 2))).setCell ⟨g, 3, none⟩ (.int .u8 (D 3))).setCell ⟨g, 4, none⟩ (.int .u8 (D 4))).setCell ⟨g, 5, none⟩ (.int .u8 (D 5))).setCell ⟨g, 6, none⟩ (.int .u8 (D 6))).setCell ⟨g, 7, none⟩ (.int .u8 (D 7))) = w.setRow g (Cells8 D) := by
  rw [setCell_eq_setRow w g 0 _ t (0, 0) _ hg]
  rw [setCell_eq_setRow _ g 1 _ t (0, 0) _ (setRow_heap w g _ _ t (0, 0) hg), setRow_setRow]
  rw [setCell_eq_setRow _ g 2 _ t (0, 0) _ (setRow_heap w g _ _ t (0, 0) hg), setRow_setRow]
  rw [setCell_eq_setRow _ g 3 _ t (0, 0) _ (setRow_heap w g _ _ t (0, 0) hg), setRow_setRow]
  rw [setCell_eq_setRow _ g 4 _ t (0, 0) _ (setRow_heap w g _ _ t (0, 0) hg), setRow_setRow]
  rw [setCell_eq_setRow _ g 5 _ t (0, 0) _ (setRow_heap w g _ _ t (0, 0) hg), setRow_setRow]
  rw [setCell_eq_setRow _ g 6 _ t (0, 0) _ (setRow_heap w g _ _ t (0, 0) hg), setRow_setRow]
  rw [setCell_eq_setRow _ g 7 _ t (0, 0) _ (setRow_heap w g _ _ t (0, 0) hg), setRow_setRow]
  simp
theorem stores8 (w : World) (g : Nat) (t : TypeId) (x : Nat → Int) (D : Nat → Int) (hg : w.heap[g]? = some (.cells (Cells8 x) t (0, 0))) :
    ∃ W, ((((((((w.setCell ⟨g, 0, none⟩ (.int .u8 (D 0))).setCell ⟨g, 1, none⟩ (.int .u8 (D 1))).setCell ⟨g, 2, none⟩ (.int .u8 (D 2))).setCell ⟨g, 3, none⟩ (.int .u8 (D 3))).setCell ⟨g, 4, none⟩ (.int .u8 (D 4))).setCell ⟨g, 5, none⟩ (.int .u8 (D 5))).setCell ⟨g, 6, none⟩ (.int .u8 (D 6))).setCell ⟨g, 7, none⟩ (.int .u8 (D 7))) = W ∧
      W.heap[g]? = some (.cells (Cells8 D) t (0, 0)) ∧ (∀ k, k ≠ g → W.heap[k]? = w.heap[k]?) ∧ W.heap.size = w.heap.size ∧ (∀ B w0, Below B w0 w → B ≤ g → Below B w0 W) := by
  refine ⟨_, stores8_row w g t x D hg, setRow_heap w g _ _ t (0, 0) hg, fun k hk => setRow_other _ _ _ _ hk, by simp, fun B w0 hb hB => below_setRow hb hB _⟩
end Go.Proofs.YtkpebabbnndopaaGreatDoor

/- Worlds that differ within some blocks alone; the state of a group as plain data. -/
namespace Go.Proofs.YtkpebabbnndopaaGreatDoor
open Go.RowKit

/-- outside the blocks S (and what is new) the world w' is as w was -/
structure Outside (S : List Nat) (w w' : World) : Prop where
  os : w'.os = w.os
  tape : w'.tape = w.tape
  output : w'.output = w.output
  size : w.heap.size ≤ w'.heap.size
  block : ∀ k, k < w.heap.size → k ∉ S → w'.heap[k]? = w.heap[k]?
theorem Outside.refl (S : List Nat) (w : World) : Outside S w w := ⟨rfl, rfl, rfl, Nat.le_refl _, fun _ _ _ => rfl⟩
theorem Outside.trans {S S' : List Nat} {a b c : World} (h : Outside S a b) (k : Outside S' b c) (hs : ∀ i, i ∈ S' → i < a.heap.size → i ∈ S) : Outside S a c :=
  ⟨k.os.trans h.os, k.tape.trans h.tape, k.output.trans h.output, Nat.le_trans h.size k.size, fun i hi hn => (k.block i (Nat.lt_of_lt_of_le hi h.size) (fun hm => hn (hs i hm hi))).trans (h.block i hi hn)⟩
theorem Outside.mono {S S' : List Nat} {a b : World} (h : Outside S a b) (hs : ∀ i, i ∈ S → i < a.heap.size → i ∈ S') : Outside S' a b :=
  ⟨h.os, h.tape, h.output, h.size, fun i hi hn => h.block i hi (fun hm => hn (hs i hm hi))⟩
theorem Outside.below {S : List Nat} {a b c : World} (h : Outside S a b) (k : Below b.heap.size b c) : Outside S a c :=
  ⟨k.os.trans h.os, k.tape.trans h.tape, k.output.trans h.output, Nat.le_trans h.size k.size, fun i hi hn => (k.block i (Nat.lt_of_lt_of_le hi h.size)).trans (h.block i hi hn)⟩
theorem Outside.ofBelow {S : List Nat} {a b : World} (k : Below a.heap.size a b) : Outside S a b := (Outside.refl S a).below k
theorem Outside.drew {S : List Nat} {a b : World} (h : Outside S a b) : Outside S a b.drew := ⟨h.os, h.tape, h.output, h.size, h.block⟩
theorem Outside.alloc {S : List Nat} {a b : World} (h : Outside S a b) (o : Obj) : Outside S a (b.alloc o) := h.below ((Below.refl _ _).alloc (Nat.le_refl _) o)
theorem Outside.setRow {S : List Nat} {a b : World} (h : Outside S a b) (g : Nat) (hg : g < a.heap.size → g ∈ S) (cs : Array Value) : Outside S a (b.setRow g cs) := by
  have k := below_setRow (Below.refl 0 b) (Nat.zero_le g) cs
  refine ⟨k.os.trans h.os, k.tape.trans h.tape, k.output.trans h.output, Nat.le_trans h.size k.size, fun i hi hn => ?_⟩
  rw [setRow_other _ _ _ _ (fun e => by subst e; exact hn (hg hi))]
  exact h.block i hi hn
theorem Outside.setCell {S : List Nat} {a b : World} (h : Outside S a b) (p : Addr) (hg : p.block < a.heap.size → p.block ∈ S) (u : Value) : Outside S a (b.setCell p u) := by
  have k := (Below.refl 0 b).setCell (p := p) (Nat.zero_le _) u
  refine ⟨k.os.trans h.os, k.tape.trans h.tape, k.output.trans h.output, Nat.le_trans h.size k.size, fun i hi hn => ?_⟩
  rw [Below.heap_setCell b p u i (fun e => by subst e; exact hn (hg hi))]
  exact h.block i hi hn
theorem Outside.toBelow {S : List Nat} {a b : World} (h : Outside S a b) (B : Nat) (hB : B ≤ a.heap.size) (hS : ∀ i, i ∈ S → B ≤ i) : Below B a b :=
  ⟨h.os, h.tape, h.output, h.size, fun k hk => h.block k (Nat.lt_of_lt_of_le hk hB) (fun hm => by have := hS k hm; omega)⟩
theorem Outside.row {S : List Nat} {a b : World} (h : Outside S a b) {k : Nat} {o : Obj} (hk : a.heap[k]? = some o) (hn : k ∉ S) : b.heap[k]? = some o := by
  rw [h.block k (Array.getElem?_eq_some_iff.1 hk).1 hn, hk]

/-- a member, as another knows it -/
structure Mem where
  begun : Bool
  next : Nat
  over : List Nat
/-- the state of a group -/
structure St where
  s : Nat → Int
  n : Nat
  own : Nat
  mem : List Mem
  closed : Bool
structure St.Ok (st : St) : Prop where
  hs : ∀ i, 0 ≤ st.s i ∧ st.s i < 256
  n1 : 1 ≤ st.n
  n16 : st.n ≤ 16
  own : st.own < st.n
  len : st.mem.length = st.n
  mem : ∀ m, m ∈ st.mem → m.next ≤ 65536 ∧ m.over.length ≤ 4 ∧ (∀ x, x ∈ m.over → x ≤ 65535) ∧ (m.begun = false → m.next = 0 ∧ m.over = [])
def St.new (s : Nat → Int) (n own : Nat) : St := ⟨s, n, own, List.replicate n ⟨false, 0, []⟩, false⟩
def St.m (st : St) (i : Nat) : Mem := st.mem.getD i ⟨false, 0, []⟩
theorem St.Ok.m {st : St} (h : st.Ok) (i : Nat) : (st.m i).next ≤ 65536 ∧ (st.m i).over.length ≤ 4 ∧ (∀ x, x ∈ (st.m i).over → x ≤ 65535) ∧ ((st.m i).begun = false → (st.m i).next = 0 ∧ (st.m i).over = []) := by
  unfold St.m
  by_cases hi : i < st.mem.length
  · rw [List.getD_eq_getElem?_getD, List.getElem?_eq_getElem hi]; exact h.mem _ (List.getElem_mem hi)
  · rw [List.getD_eq_getElem?_getD, List.getElem?_eq_none (by omega)]; exact ⟨by simp, by simp, by simp, by simp⟩
/-- how many halvings -/
def DepB : Nat → Nat → Nat → Nat
  | 0, _, _ => 0
  | k + 1, n, m => if n ≤ 1 then 0 else if m < (SplitI n).toNat then 1 + DepB k (SplitI n).toNat m else 1 + DepB k (n - (SplitI n).toNat) (m - (SplitI n).toNat)
theorem DepB_le (k : Nat) : ∀ n m, DepB k n m ≤ k := by
  induction k with
  | zero => intro n m; exact Nat.le_refl _
  | succ k ih =>
    intro n m
    rw [DepB]
    split
    · omega
    · split
      · have := ih (SplitI n).toNat m; omega
      · have := ih (n - (SplitI n).toNat) (m - (SplitI n).toNat); omega
/-- P14's bound -/
def St.bound (st : St) (who gen len : Nat) : Nat := 4 + 2 * DepB 16 st.n who + 2 * (gen + 1 - (st.m who).next) + (len + 7) / 8
def HeadB (who gen : Nat) : List UInt8 := [UInt8.ofNat who, UInt8.ofNat (gen / 256), UInt8.ofNat gen]
/-- P8 -/
def St.protErr (st : St) (len : Nat) : Int := if st.closed then 9 else if 40 < len then 2 else if 65535 < (st.m st.own).next then 8 else 0
def St.setM (st : St) (i : Nat) (m : Mem) : St := { st with mem := st.mem.set i m }
def St.protNext (st : St) : St := st.setM st.own ⟨true, (st.m st.own).next + 1, (st.m st.own).over⟩
end Go.Proofs.YtkpebabbnndopaaGreatDoor
