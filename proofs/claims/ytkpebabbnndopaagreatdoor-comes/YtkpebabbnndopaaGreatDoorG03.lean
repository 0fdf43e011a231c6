import Derived.Test.YtkpebabbnndopaaGreatDoorG02
import Derived.WalkKit
import Derived.WalkSpells
import Derived.WalkLawsBesides
/- Two members of a group, call by call; a frame of the one's, at the other. -/
namespace Go.Proofs.YtkpebabbnndopaaGreatDoor
open Go.RowKit
set_option linter.unusedVariables false
set_option linter.unusedSimpArgs false

/-- a text of at most 40 bytes -/
def TextB (s : ByteArray) : ByteArray := if 40 < s.size then s.extract 0 40 else s
theorem TextB_le (s : ByteArray) : (TextB s).size ≤ 40 := by
  unfold TextB
  split
  · simp [ByteArray.size_extract]; omega
  · omega
theorem text_any (s : ByteArray) (w : World) : Calls Tryz.prog 18 #[.string s] w fun e w' => e = .returned (.string (TextB s)) ∧ w' = w := by
  unfold TextB
  by_cases h : 40 < s.size
  · have h1 : (40 : Int) < (s.size : Int) := by omega
    have h2 : (40 : Int) ≤ (s.size : Int) := by omega
    rw [if_pos h]
    clear h
    go_enter Tryz.func18, Tryz.ntmps18
    go_wp2_with fail
    go_ret
    exact ⟨rfl, rfl⟩
  · have h1 : ¬ (40 : Int) < (s.size : Int) := by omega
    rw [if_neg h]
    clear h
    go_enter Tryz.func18, Tryz.ntmps18
    go_wp2_with fail
    go_ret
    exact ⟨rfl, rfl⟩
/-- two members' groups, in blocks U that are new since w0 -/
structure Duo (Rep : World → List Nat → Value → St → Nat → Prop) (w0 w : World) (U : List Nat) (b c : Nat) (s1 s2 : St) (k1 k2 : Nat) : Prop where
  parts : ∃ S T, U = S ++ T ∧ Rep w S (.pointer (some ⟨b, 0, none⟩)) s1 k1 ∧ Rep w T (.pointer (some ⟨c, 0, none⟩)) s2 k2 ∧ ∀ k, k ∈ S → k ∉ T
  fresh : ∀ k, k ∈ U → w0.heap.size ≤ k
  below : Below w0.heap.size w0 w
  ok1 : s1.Ok
  ok2 : s2.Ok
  glob : Glob w0
section
variable {Rep : World → List Nat → Value → St → Nat → Prop} {w0 w w' : World} {U : List Nat} {b c : Nat} {s1 s2 s' : St} {k1 k2 k' : Nat}
theorem Duo.gl (h : Duo Rep w0 w U b c s1 s2 k1 k2) : Glob w := h.glob.belowB h.below h.glob.pos
theorem Duo.lt (C : Code Rep) (h : Duo Rep w0 w U b c s1 s2 k1 k2) : ∀ k, k ∈ U → k < w.heap.size := fun k hk => by
  obtain ⟨S, T, rfl, r1, r2, _⟩ := h.parts
  rcases List.mem_append.1 hk with hk | hk
  · exact C.lt r1 k hk
  · exact C.lt r2 k hk
theorem Duo.to (C : Code Rep) (h : Duo Rep w0 w U b c s1 s2 k1 k2) (hb : Below w.heap.size w w') : Duo Rep w0 w' U b c s1 s2 k1 k2 := by
  obtain ⟨S, T, rfl, r1, r2, hd⟩ := h.parts
  exact ⟨⟨S, T, rfl, C.keep r1 hb.size (fun k hk _ => hb.block k hk), C.keep r2 hb.size (fun k hk _ => hb.block k hk), hd⟩, h.fresh, h.below.trans (hb.mono h.below.size), h.ok1, h.ok2, h.glob⟩
/-- a call on the first -/
theorem Duo.left (C : Code Rep) {S T S' : List Nat} (h : Duo Rep w0 w (S ++ T) b c s1 s2 k1 k2) (hd : ∀ k, k ∈ S → k ∉ T) (r1 : Rep w S (.pointer (some ⟨b, 0, none⟩)) s1 k1) (r2 : Rep w T (.pointer (some ⟨c, 0, none⟩)) s2 k2) (ho : Outside S w w') (hf : Fresh w S S') (hr : Rep w' S' (.pointer (some ⟨b, 0, none⟩)) s' k') (ok : s'.Ok) :
    Duo Rep w0 w' (S' ++ T) b c s' s2 k' k2 ∧ Outside (S ++ T) w w' ∧ Fresh w (S ++ T) (S' ++ T) := by
  have hz := h.below.size
  have hTl := C.lt r2
  refine ⟨⟨⟨S', T, rfl, hr, C.keep r2 ho.size (fun k hk hm => ho.block k hk (fun hs => hd k hs hm)), fun k hk hm => ?_⟩, fun k hk => ?_, h.below.trans (ho.toBelow w0.heap.size hz (fun i hi => h.fresh i (List.mem_append_left _ hi))), ok, h.ok2, h.glob⟩, ho.mono (fun i hi _ => List.mem_append_left _ hi), fun k hk => ?_⟩
  · rcases hf k hk with e | e
    · exact hd k e hm
    · have := hTl k hm; omega
  · rcases List.mem_append.1 hk with hk | hk
    · rcases hf k hk with e | e
      · exact h.fresh k (List.mem_append_left _ e)
      · omega
    · exact h.fresh k (List.mem_append_right _ hk)
  · rcases List.mem_append.1 hk with hk | hk
    · rcases hf k hk with e | e
      · exact .inl (List.mem_append_left _ e)
      · exact .inr e
    · exact .inl (List.mem_append_right _ hk)
/-- a call on the second -/
theorem Duo.right (C : Code Rep) {S T T' : List Nat} (h : Duo Rep w0 w (S ++ T) b c s1 s2 k1 k2) (hd : ∀ k, k ∈ S → k ∉ T) (r1 : Rep w S (.pointer (some ⟨b, 0, none⟩)) s1 k1) (r2 : Rep w T (.pointer (some ⟨c, 0, none⟩)) s2 k2) (ho : Outside T w w') (hf : Fresh w T T') (hr : Rep w' T' (.pointer (some ⟨c, 0, none⟩)) s' k') (ok : s'.Ok) :
    Duo Rep w0 w' (S ++ T') b c s1 s' k1 k' ∧ Outside (S ++ T) w w' ∧ Fresh w (S ++ T) (S ++ T') := by
  have hz := h.below.size
  have hSl := C.lt r1
  refine ⟨⟨⟨S, T', rfl, C.keep r1 ho.size (fun k hk hm => ho.block k hk (fun hs => hd k hm hs)), hr, fun k hk hm => ?_⟩, fun k hk => ?_, h.below.trans (ho.toBelow w0.heap.size hz (fun i hi => h.fresh i (List.mem_append_right _ hi))), h.ok1, ok, h.glob⟩, ho.mono (fun i hi _ => List.mem_append_right _ hi), fun k hk => ?_⟩
  · rcases hf k hm with e | e
    · exact hd k hk e
    · have := hSl k hk; omega
  · rcases List.mem_append.1 hk with hk | hk
    · exact h.fresh k (List.mem_append_left _ hk)
    · rcases hf k hk with e | e
      · exact h.fresh k (List.mem_append_right _ e)
      · omega
  · rcases List.mem_append.1 hk with hk | hk
    · exact .inl (List.mem_append_left _ hk)
    · rcases hf k hk with e | e
      · exact .inl (List.mem_append_right _ e)
      · exact .inr e
end
/-- bytes that lie beside the groups -/
def Buf (w : World) (U : List Nat) (a : Option Addr) (l : List UInt8) : Prop := Bts w a l ∧ ∀ b o, a = some ⟨b, o, none⟩ → b ∉ U ∧ b < w.heap.size
theorem Buf.step {w w' : World} {U U' : List Nat} {a : Option Addr} {l : List UInt8} (h : Buf w U a l) (ho : Outside U w w') (hf : Fresh w U U') : Buf w' U' a l :=
  ⟨h.1.out ho (fun b o e => (h.2 b o e).1), fun b o e => ⟨fun hm => by
    rcases hf b hm with e1 | e1
    · exact (h.2 b o e).1 e1
    · have := (h.2 b o e).2; omega, by have := (h.2 b o e).2; have := ho.size; omega⟩⟩
theorem Buf.below {w w' : World} {U : List Nat} {a : Option Addr} {l : List UInt8} (h : Buf w U a l) (hb : Below w.heap.size w w') : Buf w' U a l := h.step (Outside.ofBelow hb) (Fresh.refl _ _)
theorem Buf.new {w : World} {U : List Nat} {a : Option Addr} {l : List UInt8} (h : Bts w a l) {n : Nat} (hn : ∀ b o, a = some ⟨b, o, none⟩ → n ≤ b ∧ b < w.heap.size) (hU : ∀ k, k ∈ U → k < n) : Buf w U a l := ⟨h, fun b o e => ⟨fun hm => by have := hU b hm; have := hn b o e; omega, (hn b o e).2⟩⟩
section
variable {Rep : World → List Nat → Value → St → Nat → Prop} (C : Code Rep) {w0 w : World} {U : List Nat} {b c : Nat} {s1 s2 : St} {k1 k2 : Nat}
include C
/-- Protect, of the first -/
theorem Duo.prot1 (h : Duo Rep w0 w U b c s1 s2 k1 k2) (a : Option Addr) (t : List UInt8) (cp : Nat) (hb : Buf w U a t) (he : s1.protErr t.length = 0) :
    Calls Tryz.prog 17 #[.pointer (some ⟨b, 0, none⟩), .slice a t.length cp] w fun e w' => ∃ f o cap, e = .returned (.tuple #[.slice (some ⟨f, o, none⟩) (s1.frame t).length cap, .int .i64 0]) ∧ ∃ U' k1', Duo Rep w0 w' U' b c s1.protNext s2 k1' k2 ∧ Outside U w w' ∧ Fresh w U U' ∧ (k1 < k1' ∧ k1' ≤ k1 + 100) ∧ (s1.frame t).length ≤ cap ∧ Buf w' U' (some ⟨f, o, none⟩) (s1.frame t) := by
  obtain ⟨S, T, rfl, r1, r2, hd⟩ := h.parts
  obtain ⟨e1, e2⟩ := protErr_zero he
  have hbd := bound_le s1 t.length e1
  refine (C.prot h.ok1 r1 a t cp (by omega) hb.1 (fun b o e hm => (hb.2 b o e).1 (List.mem_append_left _ hm)) he).mono fun e w' ⟨h1, S', wk', f, o, cap, h2, h3, h4, h5, h6, h7, h8, h9, h10, h11⟩ => ?_
  obtain ⟨x1, x2, x3⟩ := h.left C hd r1 r2 h1 h2 h3 (h.ok1.protNext e2)
  refine ⟨f, o, cap, h6, S' ++ T, wk', x1, x2, x3, ⟨h4, by omega⟩, h9, h10, fun b' o' e => ?_⟩
  cases e
  refine ⟨fun hm => ?_, ?_⟩
  · rcases List.mem_append.1 hm with hm | hm
    · exact h8 hm
    · have := C.lt r2 f hm; omega
  · rcases h10 with hn | ⟨b', o', e, hc⟩
    · exfalso
      have : (s1.frame t).length = 0 := by rw [hn]; rfl
      unfold St.frame at this
      rw [List.length_append, SealT_length] at this
      omega
    · cases e
      refine block_lt_of_cell (hc 0 ?_)
      unfold St.frame
      rw [List.length_append, SealT_length]
      omega
theorem Duo.protErr1 (h : Duo Rep w0 w U b c s1 s2 k1 k2) (a : Option Addr) (t : List UInt8) (cp : Nat) (hl : t.length ≤ 100000) (hb : Buf w U a t) (he : s1.protErr t.length ≠ 0) :
    Calls Tryz.prog 17 #[.pointer (some ⟨b, 0, none⟩), .slice a t.length cp] w fun e w' => e = .returned (.tuple #[.slice none 0 0, .int .i64 (s1.protErr t.length)]) ∧ ∃ U', Duo Rep w0 w' U' b c s1 s2 k1 k2 ∧ Outside U w w' ∧ Fresh w U U' := by
  obtain ⟨S, T, rfl, r1, r2, hd⟩ := h.parts
  refine (C.protErr h.ok1 r1 h.gl a t cp hl hb.1 (fun b o e hm => (hb.2 b o e).1 (List.mem_append_left _ hm)) he).mono fun e w' ⟨h1, h2, S', h3, h4⟩ => ?_
  obtain ⟨x1, x2, x3⟩ := h.left C hd r1 r2 h2 h3 h4 h.ok1
  exact ⟨h1, _, x1, x2, x3⟩
theorem Duo.work1 (h : Duo Rep w0 w U b c s1 s2 k1 k2) (hk : k1 ≤ 1000000000000) :
    Calls Tryz.prog 23 #[.pointer (some ⟨b, 0, none⟩)] w fun e w' => e = .returned (.int .i64 k1) ∧ ∃ U', Duo Rep w0 w' U' b c s1 s2 k1 k2 ∧ Outside U w w' ∧ Fresh w U U' := by
  obtain ⟨S, T, rfl, r1, r2, hd⟩ := h.parts
  refine (C.work h.ok1 hk r1).mono fun e w' ⟨h1, h2, S', h3, h4⟩ => ?_
  obtain ⟨x1, x2, x3⟩ := h.left C hd r1 r2 h2 h3 h4 h.ok1
  exact ⟨h1, _, x1, x2, x3⟩
theorem Duo.close1 (h : Duo Rep w0 w U b c s1 s2 k1 k2) (hc : s1.closed = false) :
    Calls Tryz.prog 24 #[.pointer (some ⟨b, 0, none⟩)] w fun e w' => e = .returned (.int .i64 0) ∧ ∃ U', Duo Rep w0 w' U' b c s1.shut s2 k1 k2 ∧ Outside U w w' ∧ Fresh w U U' := by
  obtain ⟨S, T, rfl, r1, r2, hd⟩ := h.parts
  refine (C.close h.ok1 r1 h.gl hc).mono fun e w' ⟨h1, h2, S', h3, h4⟩ => ?_
  obtain ⟨x1, x2, x3⟩ := h.left C hd r1 r2 h2 h3 h4 h.ok1.shut
  exact ⟨h1, _, x1, x2, x3⟩
theorem Duo.closeErr1 (h : Duo Rep w0 w U b c s1 s2 k1 k2) (hc : s1.closed = true) :
    Calls Tryz.prog 24 #[.pointer (some ⟨b, 0, none⟩)] w fun e w' => e = .returned (.int .i64 9) ∧ ∃ U', Duo Rep w0 w' U' b c s1 s2 k1 k2 ∧ Outside U w w' ∧ Fresh w U U' := by
  obtain ⟨S, T, rfl, r1, r2, hd⟩ := h.parts
  refine (C.closeErr h.ok1 r1 h.gl hc).mono fun e w' ⟨h1, h2, S', h3, h4⟩ => ?_
  obtain ⟨x1, x2, x3⟩ := h.left C hd r1 r2 h2 h3 h4 h.ok1
  exact ⟨h1, _, x1, x2, x3⟩
/-- Unprotect that does not open, of the first; of the second -/
theorem Duo.unErr1 (h : Duo Rep w0 w U b c s1 s2 k1 k2) (a : Option Addr) (l : List UInt8) (cp : Nat) (hlc : l.length ≤ cp) (hb : Buf w U a l) (he : s1.unErr l ≠ 0) :
    Calls Tryz.prog 20 #[.pointer (some ⟨b, 0, none⟩), .slice a l.length cp] w fun e w' => e = .returned (.tuple #[.agg #[.int .i64 0, .int .i64 0, .slice none 0 0], .int .i64 (s1.unErr l)]) ∧ ∃ U' k', Duo Rep w0 w' U' b c s1 s2 k' k2 ∧ Outside U w w' ∧ Fresh w U U' ∧ k1 ≤ k' ∧ k' ≤ k1 + (if s1.unPre l = 0 then s1.bound (unWho l) (unGen l) (l.length - 7) else 0) := by
  obtain ⟨S, T, rfl, r1, r2, hd⟩ := h.parts
  refine (C.unErr h.ok1 r1 h.gl a l cp hlc hb.1 (fun b o e hm => (hb.2 b o e).1 (List.mem_append_left _ hm)) he).mono fun e w' ⟨h1, h2, S', wk', h3, h4, h5, h6⟩ => ?_
  obtain ⟨x1, x2, x3⟩ := h.left C hd r1 r2 h2 h3 h4 h.ok1
  exact ⟨h1, _, wk', x1, x2, x3, h5, h6⟩
theorem Duo.unErr2 (h : Duo Rep w0 w U b c s1 s2 k1 k2) (a : Option Addr) (l : List UInt8) (cp : Nat) (hlc : l.length ≤ cp) (hb : Buf w U a l) (he : s2.unErr l ≠ 0) :
    Calls Tryz.prog 20 #[.pointer (some ⟨c, 0, none⟩), .slice a l.length cp] w fun e w' => e = .returned (.tuple #[.agg #[.int .i64 0, .int .i64 0, .slice none 0 0], .int .i64 (s2.unErr l)]) ∧ ∃ U' k', Duo Rep w0 w' U' b c s1 s2 k1 k' ∧ Outside U w w' ∧ Fresh w U U' := by
  obtain ⟨S, T, rfl, r1, r2, hd⟩ := h.parts
  refine (C.unErr h.ok2 r2 h.gl a l cp hlc hb.1 (fun b o e hm => (hb.2 b o e).1 (List.mem_append_right _ hm)) he).mono fun e w' ⟨h1, h2, S', wk', h3, h4, h5, h6⟩ => ?_
  obtain ⟨x1, x2, x3⟩ := h.right C hd r1 r2 h2 h3 h4 h.ok2
  exact ⟨h1, _, wk', x1, x2, x3⟩
/-- Unprotect that opens, of the second -/
theorem Duo.un2 (h : Duo Rep w0 w U b c s1 s2 k1 k2) (a : Option Addr) (l : List UInt8) (cp : Nat) (hlc : l.length ≤ cp) (hb : Buf w U a l) (he : s2.unErr l = 0) (ok : (s2.unNext l).Ok) :
    Calls Tryz.prog 20 #[.pointer (some ⟨c, 0, none⟩), .slice a l.length cp] w fun e w' => ∃ f o cap, e = .returned (.tuple #[.agg #[.int .i64 (unWho l), .int .i64 (unGen l), .slice (some ⟨f, o, none⟩) (l.length - 7) cap], .int .i64 0]) ∧ ∃ U' k', Duo Rep w0 w' U' b c s1 (s2.unNext l) k1 k' ∧ Outside U w w' ∧ Fresh w U U' ∧ l.length - 7 ≤ cap ∧ Buf w' U' (some ⟨f, o, none⟩) (s2.unText l) := by
  obtain ⟨S, T, rfl, r1, r2, hd⟩ := h.parts
  refine (C.un h.ok2 r2 h.gl a l cp hlc hb.1 (fun b o e hm => (hb.2 b o e).1 (List.mem_append_right _ hm)) he).mono fun e w' ⟨h1, S', wk', f, o, cap, h2, h3, h4, h5, h6, h7, h8, h9, h10, h11, h12⟩ => ?_
  obtain ⟨x1, x2, x3⟩ := h.right C hd r1 r2 h1 h2 h3 ok
  refine ⟨f, o, cap, h6, S ++ S', wk', x1, x2, x3, h10, h11, fun b' o' e => ?_⟩
  cases e
  refine ⟨fun hm => ?_, h8⟩
  rcases List.mem_append.1 hm with hm | hm
  · have := C.lt r1 f hm; omega
  · exact h9 hm
/-- Dump, of the first; of the second -/
theorem Duo.dump1 (h : Duo Rep w0 w U b c s1 s2 k1 k2) (hdm : s1.dump = []) :
    Calls Tryz.prog 21 #[.pointer (some ⟨b, 0, none⟩)] w fun e w' => ∃ p cap, e = .returned (.slice p 0 cap) ∧ ∃ U', Duo Rep w0 w' U' b c s1 s2 k1 k2 ∧ Outside U w w' ∧ Fresh w U U' := by
  obtain ⟨S, T, rfl, r1, r2, hd⟩ := h.parts
  refine (C.dump h.ok1 r1).mono fun e w' ⟨h1, S', p, cap, h2, h3, h4, h5⟩ => ?_
  obtain ⟨x1, x2, x3⟩ := h.left C hd r1 r2 h1 h2 h3 h.ok1
  rw [hdm] at h4
  exact ⟨p, cap, h4, _, x1, x2, x3⟩
end
/-- a list of items that lies beside the groups -/
def ItBuf (w : World) (U : List Nat) (p : Option Addr) (l : List It) (cap : Nat) : Prop := l = [] ∨ ∃ b o, p = some ⟨b, o, none⟩ ∧ l.length ≤ cap ∧ b ∉ U ∧ b < w.heap.size ∧ ∀ j u, (itCells l)[j]? = some u → w.cell? ⟨b, o + j, none⟩ = some u
theorem ItBuf.step {w w' : World} {U U' : List Nat} {p : Option Addr} {l : List It} {cap : Nat} (h : ItBuf w U p l cap) (ho : Outside U w w') (hf : Fresh w U U') : ItBuf w' U' p l cap := by
  rcases h with h | ⟨b, o, h1, h2, h3, h4, h5⟩
  · exact .inl h
  · refine .inr ⟨b, o, h1, h2, fun hm => ?_, by have := ho.size; omega, fun j u hu => ?_⟩
    · rcases hf b hm with e | e
      · exact h3 e
      · omega
    · rw [← h5 j u hu]
      exact World.cell?_of_block (w := w) (ho.block b h4 h3)
theorem Duo.dump2 {Rep : World → List Nat → Value → St → Nat → Prop} (C : Code Rep) {w0 w : World} {U : List Nat} {b c : Nat} {s1 s2 : St} {k1 k2 : Nat} (h : Duo Rep w0 w U b c s1 s2 k1 k2) :
    Calls Tryz.prog 21 #[.pointer (some ⟨c, 0, none⟩)] w fun e w' => ∃ p cap, e = .returned (.slice p s2.dump.length cap) ∧ ∃ U', Duo Rep w0 w' U' b c s1 s2 k1 k2 ∧ Outside U w w' ∧ Fresh w U U' ∧ ItBuf w' U' p s2.dump cap := by
  obtain ⟨S, T, rfl, r1, r2, hd⟩ := h.parts
  refine (C.dump h.ok2 r2).mono fun e w' ⟨h1, T', p, cap, h2, h3, h4, h5⟩ => ?_
  obtain ⟨x1, x2, x3⟩ := h.right C hd r1 r2 h1 h2 h3 h.ok2
  refine ⟨p, cap, h4, _, x1, x2, x3, ?_⟩
  rcases h5 with h5 | ⟨f, o, y1, y2, y3, y4, y5, y6⟩
  · exact .inl h5
  · by_cases hn : s2.dump = []
    · exact .inl hn
    · refine .inr ⟨f, o, y1, y2, fun hm => ?_, ?_, y5⟩
      · rcases List.mem_append.1 hm with hm | hm
        · have := C.lt r1 f hm; omega
        · exact y4 hm
      · have hp : 0 < (itCells s2.dump).length := by rw [itCells_length]; have := List.length_pos_iff.2 hn; omega
        exact block_lt_of_cell (y5 0 _ (List.getElem?_eq_getElem hp))
/-- a frame of the one's, as the other reads it -/
theorem frame_un {s1 s2 : St} (hs : s2.s = s1.s) (hn : s2.n = s1.n) (ho : s1.own < 16) (hx : (s1.m s1.own).next ≤ 65535) (t : List UInt8) : unWho (s1.frame t) = s1.own ∧ unGen (s1.frame t) = (s1.m s1.own).next ∧ (s1.frame t).length = t.length + 7 ∧ s2.unOk (s1.frame t) = true ∧ s2.unText (s1.frame t) = t := by
  have e1 : unWho (s1.frame t) = s1.own := by
    show (UInt8.ofNat s1.own).toNat = _
    rw [UInt8.toNat_ofNat']; omega
  have e2 : unGen (s1.frame t) = (s1.m s1.own).next := by
    show (UInt8.ofNat ((s1.m s1.own).next / 256)).toNat * 256 + (UInt8.ofNat (s1.m s1.own).next).toNat = _
    rw [UInt8.toNat_ofNat', UInt8.toNat_ofNat']; omega
  have ek : s2.unKey (s1.frame t) = s1.keyAt s1.own (s1.m s1.own).next := by unfold St.unKey St.keyAt; rw [e1, e2, hs, hn]
  have et : (s1.frame t).take 3 = HeadB s1.own (s1.m s1.own).next := rfl
  have ed : (s1.frame t).drop 3 = SealT (s1.keyAt s1.own (s1.m s1.own).next) (HeadB s1.own (s1.m s1.own).next) t := rfl
  refine ⟨e1, e2, ?_, ?_, ?_⟩
  · unfold St.frame
    rw [List.length_append, SealT_length]
    show 3 + (t.length + 4) = _
    omega
  · unfold St.unOk
    rw [ek, et, ed]
    exact (seal_open _ _ _).1
  · unfold St.unText
    rw [ek, ed]
    exact (seal_open _ (HeadB s1.own (s1.m s1.own).next) _).2
end Go.Proofs.YtkpebabbnndopaaGreatDoor
