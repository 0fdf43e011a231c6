/- The plain numbers behind Derive: no walk here. -/
import Derived.WalkKit
namespace Go.Proofs.Ytkpebabbnndopaa
open Go.RowKit

def Mix (h b : Int) : Int := IntKind.u64.wrap (bits BinOp.xor IntKind.u64 h b * 1099511628211)
def Fin3 (h : Int) : Int := Mix h (h / 4294967296)
theorem fold_mix (h b : Int) : IntKind.u64.wrap (bits BinOp.xor IntKind.u64 h b * 1099511628211) = Mix h b := rfl
theorem fold_fin (h : Int) : Mix h (h / 4294967296) = Fin3 h := rfl
def MixS (s : Nat → Int) : Int := Mix (Mix (Mix (Mix (Mix (Mix (Mix (Mix 14695981039346656037 (s 0)) (s 1)) (s 2)) (s 3)) (s 4)) (s 5)) (s 6)) (s 7)
def MixL (h : Int) (l : List UInt8) : Int := l.foldl (fun a c => Mix a c.toNat) h
def MixN (h n : Int) : Int := Mix (Mix (Mix (Mix h (n / 16777216 % 256)) (n / 65536 % 256)) (n / 256 % 256)) (n % 256)
def Der (s : Nat → Int) (l : List UInt8) (n : Int) : Int := Fin3 (Fin3 (Fin3 (MixN (MixL (MixS s) l) (n % 4294967296))))
def Byt (h : Int) : Nat → Int
  | 0 => h / 72057594037927936 % 256
  | 1 => h / 281474976710656 % 256
  | 2 => h / 1099511627776 % 256
  | 3 => h / 4294967296 % 256
  | 4 => h / 16777216 % 256
  | 5 => h / 65536 % 256
  | 6 => h / 256 % 256
  | _ => h % 256
def DerB (s : Nat → Int) (l : List UInt8) (n : Int) (i : Nat) : Int := Byt (Der s l n) i

/-- eight bytes as a value -/
abbrev Agg8 (s : Nat → Int) : Value := .agg #[.int .u8 (s 0), .int .u8 (s 1), .int .u8 (s 2), .int .u8 (s 3), .int .u8 (s 4), .int .u8 (s 5), .int .u8 (s 6), .int .u8 (s 7)]

abbrev Cells8 (s : Nat → Int) : Array Value := #[.int .u8 (s 0), .int .u8 (s 1), .int .u8 (s 2), .int .u8 (s 3), .int .u8 (s 4), .int .u8 (s 5), .int .u8 (s 6), .int .u8 (s 7)]
theorem Mix_bd (h b : Int) : 0 ≤ Mix h b ∧ Mix h b < 18446744073709551616 := by
  unfold Mix; rw [IntKind.wrap_u64]; omega
theorem Byt_bd (h : Int) (i : Nat) : 0 ≤ Byt h i ∧ Byt h i < 256 := by unfold Byt; split <;> omega
theorem MixL_snoc (h : Int) (l : List UInt8) (c : UInt8) : MixL h (l ++ [c]) = Mix (MixL h l) c.toNat := by
  unfold MixL; rw [List.foldl_append]; rfl
theorem take_snoc (s : ByteArray) (k : Nat) (h : k < s.size) : s.data.toList.take (k + 1) = s.data.toList.take k ++ [s[k]] := by
  rw [List.take_succ_eq_append_getElem (by simpa using h)]; rfl
theorem MixL_step (h : Int) (s : ByteArray) (k : Nat) (hk : k < s.size) : MixL h (s.data.toList.take (k + 1)) = Mix (MixL h (s.data.toList.take k)) s[k].toNat := by
  rw [take_snoc s k hk, MixL_snoc]
theorem byte_bd (c : UInt8) : 0 ≤ (c.toNat : Int) ∧ (c.toNat : Int) < 256 := by have := c.toNat_lt; omega
def DerW (s : Nat → Int) (l : List UInt8) (n : Int) : Int := Fin3 (Fin3 (Fin3 (Mix (Mix (Mix (Mix (MixL (MixS s) l) (n % 4294967296 / 16777216 % 256)) (n % 4294967296 / 65536 % 256)) (n % 4294967296 / 256 % 256)) (n % 256))))
theorem DerW_eq (s : Nat → Int) (l : List UInt8) (n : Int) : Byt (DerW s l n) = DerB s l n := by
  have e : n % 4294967296 % 256 = n % 256 := by omega
  funext i
  unfold DerB DerW Der MixN
  rw [e]
def DerR (L n : Int) : Int := Fin3 (Fin3 (Fin3 (Mix (Mix (Mix (Mix L (n % 4294967296 / 16777216)) (n % 4294967296 * 256 % 4294967296 / 16777216)) (n % 4294967296 * 256 % 4294967296 * 256 % 4294967296 / 16777216)) (n % 4294967296 * 256 % 4294967296 * 256 % 4294967296 * 256 % 4294967296 / 16777216))))
theorem DerR_eq (s : Nat → Int) (l : List UInt8) (n : Int) : Byt (DerR (MixL (MixS s) l) n) = DerB s l n := by
  have e0 : n % 4294967296 / 16777216 = n % 4294967296 / 16777216 % 256 := by omega
  have e1 : n % 4294967296 * 256 % 4294967296 / 16777216 = n % 4294967296 / 65536 % 256 := by omega
  have e2 : n % 4294967296 * 256 % 4294967296 * 256 % 4294967296 / 16777216 = n % 4294967296 / 256 % 256 := by omega
  have e3 : n % 4294967296 * 256 % 4294967296 * 256 % 4294967296 * 256 % 4294967296 / 16777216 = n % 4294967296 % 256 := by omega
  funext i
  unfold DerB Der DerR MixN
  rw [e1, e2, e3, ← e0]
/-- a secret out of a text: its first eight bytes, noughts behind -/
def SecL (l : List UInt8) (i : Nat) : Int := ((l.getD i 0).toNat : Int)
theorem SecL_bd (l : List UInt8) (i : Nat) : 0 ≤ SecL l i ∧ SecL l i < 256 := byte_bd _
theorem SecL_cells (l : List UInt8) :
    ((l.take 8).map fun b => Value.int .u8 (b.toNat : Int)) ++ [Value.int .u8 0, .int .u8 0, .int .u8 0, .int .u8 0, .int .u8 0, .int .u8 0, .int .u8 0, .int .u8 0].drop (l.take 8).length
      = [Value.int .u8 (SecL l 0), .int .u8 (SecL l 1), .int .u8 (SecL l 2), .int .u8 (SecL l 3), .int .u8 (SecL l 4), .int .u8 (SecL l 5), .int .u8 (SecL l 6), .int .u8 (SecL l 7)] := by
  rcases l with _ | ⟨a, _ | ⟨b, _ | ⟨c, _ | ⟨d, _ | ⟨e, _ | ⟨f, _ | ⟨g, _ | ⟨h, r⟩⟩⟩⟩⟩⟩⟩⟩ <;> simp [SecL, List.getD]
end Go.Proofs.Ytkpebabbnndopaa
