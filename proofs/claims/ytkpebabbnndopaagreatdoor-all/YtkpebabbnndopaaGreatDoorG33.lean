import Derived.Test.YtkpebabbnndopaaGreatDoorG32
import Derived.Test.YtkpebabbnndopaaGreatDoorG22
import Derived.WalkKit
import Derived.WalkSpells
import Derived.WalkLawsBesides
import Derived.Deep.WholeRow
import Derived.Deep.MidRow
import Derived.Deep.LoopGhost
import Derived.Test.YtkpebabbnndopaaGreatDoorC03
/- Unprotect, of a group, where it is tried to open. -/
namespace Go.Proofs.YtkpebabbnndopaaGreatDoor
open Go.RowKit
set_option linter.unusedVariables false

theorem opened_shape {w : World} {b pm : Nat} {st st' : St} {wk N : Nat} {B : PlI → Nat} {l : List UInt8} {K : Nat → Int} {v u : Value} {w' : World} (h : OpenedTo w b pm st st' wk N B l K (.returned (.tuple #[v, u])) w') : ((∃ p n c, v = .slice p n c) ∧ u = .nilIface) ∨ ∃ E s, u = faultV E s := by
  obtain ⟨n, cs', _, _, ⟨_, h1, _⟩ | ⟨_, _, _, B', f, _, _, _, h1, _⟩⟩ := h
  · simp at h1
    exact .inr ⟨7, strSeal, h1.2⟩
  · simp at h1
    exact .inl ⟨⟨_, _, _, h1.1⟩, h1.2⟩
theorem unText_len (st : St) {l : List UInt8} (h : 7 ≤ l.length) : (st.unText l).length = l.length - 7 := by
  unfold St.unText OpenT
  rw [MixT_length, List.length_take, List.length_drop]
  omega
/-- what Unprotect leaves where it is tried -/
def Tried (w : World) (S : List Nat) (b pm : Nat) (B : PlI → Nat) (st : St) (wk : Nat) (l : List UInt8) (e : Ending) (w' : World) : Prop :=
  Outside S w w' ∧ ∃ n, (0 < n ∧ n ≤ st.bound (unWho l) (unGen l) (l.length - 7)) ∧
    ((st.unOk l = false ∧ e = .returned (.tuple #[.agg #[.int .i64 0, .int .i64 0, .slice none 0 0], .int .i64 7]) ∧ ∃ cs', GrpIn w' S b pm cs' B st (wk + n)) ∨
     (st.unOk l = true ∧ ∃ S' cs' B' f, Fresh w S S' ∧ GrpIn w' S' b pm cs' B' (st.unNext l) (wk + n) ∧ e = .returned (.tuple #[.agg #[.int .i64 (unWho l), .int .i64 (unGen l), .slice (some ⟨f, 0, none⟩) (l.length - 7) (l.length - 7)], .int .i64 0]) ∧ w.heap.size ≤ f ∧ f ∉ S' ∧ w'.heap[f]? = some (.cells (RowB (st.unText l) (l.length - 7)) 5 (0, 0))))
theorem un_try {w : World} {S : List Nat} {b pm : Nat} {cs : Array Value} {B : PlI → Nat} {st : St} {wk : Nat} (ok : st.Ok) (h : GrpIn w S b pm cs B st wk) (hGl : Glob w) (a : Option Addr) (l : List UInt8) (c : Nat) (hlc : l.length ≤ c) (hbt : Bts w a l) (hna : ∀ b o, a = some ⟨b, o, none⟩ → b ∉ S) (hE : st.unPre l = 0) :
    Calls Tryz.prog 20 #[.pointer (some ⟨b, 0, none⟩), .slice a l.length c] w fun e w' => Tried w S b pm B st wk l e w' := by
  have hb : b ∈ S := by rw [h.blocks]; simp
  have h0 := h.zero hGl
  obtain ⟨hcl, h7, h47, hwn, hwo, hgo, hgf⟩ := unPre_zero hE
  have hgl := unGen_lt l
  obtain ⟨fb, fo, rfl, hl⟩ := bts_cells hbt (by omega)
  have hfS := hna fb fo rfl
  have hfl : fb < w.heap.size := block_lt_of_cell (hl 0 (by omega))
  have hG : GrpAt cs st wk pm 0 := by
    rcases h.cells with ⟨_, hG⟩ | ⟨hc, _⟩
    · exact hG
    · rw [hcl] at hc; cases hc
  have hkl := kl_open hcl
  have hk := h.keep
  have hap := h.apart
  have hSb := h.blocks
  rw [hkl] at hk hap hSb
  have hbl := h.home.lt
  have hpl := hk.lt
  have hBl : ∀ y, y ∈ keptL st st.n → B y < w.heap.size := fun y hy => (Array.getElem?_eq_some_iff.1 (hk.row y hy)).1
  have hG1 := hG.locked 1
  have hlk := hG.head.1
  obtain ⟨NN, hNN⟩ : ∃ NN, 2 * DepB 16 st.n (unWho l) + 4 + 2 * (unGen l - (st.m (unWho l)).next) + l.length / 8 = NN := ⟨_, rfl⟩
  have hNB : NN ≤ st.bound (unWho l) (unGen l) (l.length - 7) := by rw [← hNN]; unfold St.bound; omega
  refine (un_raw h.home hlk (.slice (some ⟨fb, fo, none⟩) l.length c) (fun W m g v N w' => ∃ v' u, OpenedTo W b pm st (st.unNext l) wk NN B l (st.unKey l) (.returned (.tuple #[v', u])) w' ∧ ((u = .nilIface ∧ v = v' ∧ m = unWho l ∧ g = unGen l ∧ N = 0) ∨ ((∃ E s, u = faultV E s) ∧ m = 0 ∧ g = 0 ∧ v = .slice none 0 0 ∧ N = 7))) (fun W hW hsz hWb => ?_) (fun W m g v N w' hW hR => ?_)).mono fun e w' ⟨m, g, v, N, he, W, w2, cs2, q1, q2, q3, ⟨v', u, q4, q5⟩, q6, q7, q8⟩ => ?_
  · have hH : Home (some b) b 112 (cs.setIfInBounds 0 (i32 1)) W := Home.own hWb ⟨wk, hG1.cnt⟩
    have hz := hW.size
    have hlW : ∀ i (h : i < l.length), W.cell? ⟨fb, fo + i, none⟩ = some (cellB l[i]) := fun i hi => by
      rw [← hl i hi]
      exact World.cell?_of_block (w := w) (hW.block fb hfl (by simp; exact fun e => hfS (e ▸ hb)))
    have hkW : KeepAt W pm (keptL st st.n) B st.keyP := hk.keep fun k hk' hm => hW.block k hk' (by
      rcases hm with rfl | hm
      · simpa using fun e => h.ne e.symm
      · obtain ⟨y, hy, rfl⟩ := List.mem_map.1 hm
        simpa using hap y hy)
    refine (read_open (m := unWho l) (g := unGen l) hH hG1 (.slice (some ⟨fb, fo, none⟩) l.length c) (fun W' hW' => (place_any fb fo c l h7 h47 hlc st.n ok.n1 ok.n16 W' (fun i hi => by rw [hW'.cell (p := ⟨fb, fo + i, none⟩) (by show fb < W.heap.size; omega)]; exact hlW i hi)).mono fun e w' ⟨p1, p2⟩ => ?_) (fun W' v u w' => OpenedTo W' b pm st (st.unNext l) wk NN B l (st.unKey l) (.returned (.tuple #[v, u])) w') (fun W' hW' => ?_) (fun W' v u w' hW' hR k hk1 hk2 => ?_)).mono fun e w' ⟨y, z, h1, W', v, u, w2, h2, h3, h4, h5, h6⟩ => ?_
    · rcases p2 with ⟨p3, _⟩ | ⟨_, p3⟩
      · omega
      · exact ⟨p3, p1⟩
    · have ht := openAt_try (m := unWho l) (g := unGen l) ok h.asc hwn hwo hgo hgf (by omega) (hH.below hW') hG1 (hkW.below hW') (fun e => h.ne e.symm) hap fb fo c l h7 h47 hlc (fun i hi => by rw [hW'.cell (p := ⟨fb, fo + i, none⟩) (by show fb < W.heap.size; omega)]; exact hlW i hi) (fun e => hfS (e ▸ hb))
      rw [hNN] at ht
      exact ht.mono fun e w' ⟨v, u, x1, x2⟩ => ⟨v, u, x1, x2, opened_shape x2⟩
    · exact hR.blocks k hk2 (by omega) (by omega) (fun y hy => by have := hBl y hy; omega)
    · have hback : OpenedTo W b pm st (st.unNext l) wk NN B l (st.unKey l) (.returned (.tuple #[v, u])) w' := h4.back (Outside.ofBelow h2) h5 (fun k hk => by simp at hk; omega) (by omega) (by omega) (fun y hy => by have := hBl y hy; omega)
      rcases h6 with ⟨x1, x2, x3⟩ | ⟨E, s, x1, x2, x3⟩
      · have hv : ∃ p n c, v = .slice p n c := by
          rcases opened_shape h4 with ⟨hv, _⟩ | ⟨E, s, hu⟩
          · exact hv
          · rw [x1] at hu; cases hu
        exact ⟨unWho l, unGen l, v, z, 0, by rw [h1, x2], hv, .inl ⟨x3, rfl⟩, v, u, hback, .inl ⟨x1, rfl, rfl, rfl, rfl⟩⟩
      · have hE7 : E = 7 := by
          obtain ⟨n, cs', _, _, ⟨_, g1, _⟩ | ⟨_, _, _, B', f, _, _, _, g1, _⟩⟩ := h4
          · simp at g1
            have g2 := g1.2.symm.trans x1
            have g3 := Value.agg.inj (Value.iface.inj g2).2
            simp at g3
            exact g3.1.symm
          · simp at g1
            rw [x1] at g1
            cases g1.2
        subst hE7
        exact ⟨0, 0, .slice none 0 0, z, 7, by rw [h1, x2], ⟨_, _, _, rfl⟩, .inr (.inr ⟨_, _, s, x3⟩), v, u, hback, .inr ⟨⟨7, s, x1⟩, rfl, rfl, rfl, rfl⟩⟩
  · obtain ⟨v', u, q4, _⟩ := hR
    have hz := hW.size
    have hO : Outside S w w' := by
      obtain ⟨n, cs', _, _, ⟨_, _, g1, _⟩ | ⟨_, g1, _⟩⟩ := q4
      · exact (hW.trans g1 (fun _ hi _ => hi)).mono (fun i hi _ => by rw [show i = b by simpa using hi]; exact hb)
      · rw [hSb]; exact (hW.mono (S' := b :: pm :: (keptL st st.n).map B) (fun i hi _ => by simp at hi; simp [hi])).trans g1 (fun _ hi _ => hi)
    refine ⟨fun k hk1 hk2 => q4.blocks k hk2 (by omega) (by omega) (fun y hy => by have := hBl y hy; omega), hGl.out hO h0, ?_⟩
    obtain ⟨n, cs', _, hh, ⟨_, _, _, g1, _⟩ | ⟨_, _, g1, _⟩⟩ := q4
    · exact ⟨cs', hh.row, g1.head.1⟩
    · exact ⟨cs', hh.row, g1.head.1⟩
  · have hz := q1.size
    obtain ⟨n, cs', hn, hh, hc⟩ := q4
    have e2 : cs2 = cs' := by
      have := hh.row
      rw [q6] at this
      cases this; rfl
    subst e2
    have hok : st.unOk l = OpenOk (st.unKey l) (l.take 3) (l.drop 3) := rfl
    have hkeyP : (st.unNext l).keyP = st.keyP := rfl
    have hoff : ∀ {L : List PlI} {B2 : PlI → Nat} {k2 : PlI → Nat → Int}, KeepAt w2 pm L B2 k2 → (∀ y, y ∈ L → B2 y ≠ b ∧ B2 y ≠ w.heap.size) → KeepAt w' pm L B2 k2 := fun {L B2 k2} hK hB2 => hK.keep fun k hk' hm => q8.block k hk' (by
      rcases hm with rfl | hm
      · simp; exact ⟨fun e => h.ne e.symm, by omega⟩
      · obtain ⟨y, hy, rfl⟩ := List.mem_map.1 hm
        simp; exact hB2 y hy)
    rcases hc with ⟨g1, g2, g3, g4, g5⟩ | ⟨g1, g2, g3, B', f, g4, g5, g6, g7, g8, g9⟩
    · have hu : ∃ E s, u = faultV E s := by simp at g2; exact ⟨7, strSeal, g2.2⟩
      rcases q5 with ⟨x1, _⟩ | ⟨_, x2, x3, x4, x5⟩
      · obtain ⟨E, s, hu⟩ := hu; rw [x1] at hu; cases hu
      · have gl := g4.locked 0
        refine ⟨?_, n, ⟨hn.1, by omega⟩, .inl ⟨by rw [hok]; exact g1, by rw [he, x2, x3, x4, x5], cs2.setIfInBounds 0 (i32 0), h.blocks, h.ne, h.apart, Home.own q7 ⟨wk + n, gl.cnt⟩, ?_, h.asc, .inl ⟨hcl, gl⟩⟩⟩
        · refine ((q1.mono (S' := S) (fun i hi _ => by simp at hi; rw [hi]; exact hb)).trans g3 (fun i hi _ => by simp at hi; rw [hi]; exact hb)).trans q8 (fun i hi hl => ?_)
          simp at hi
          rcases hi with rfl | rfl
          · exact hb
          · omega
        · rw [hkl]
          exact hoff g5 (fun y hy => ⟨hap y hy, by have := hBl y hy; omega⟩)
    · rcases q5 with ⟨x1, x2, x3, x4, x5⟩ | ⟨⟨E, s, x1⟩, _⟩
      · have gl := g3.locked 0
        have hcl2 : (st.unNext l).closed = false := hcl
        have hkl2 : (st.unNext l).kl = keptL (st.unNext l) st.n := kl_open hcl2
        have hB'b : ∀ y, y ∈ keptL (st.unNext l) st.n → B' y ≠ b ∧ B' y ≠ w.heap.size := fun y hy => by
          rcases g5 y hy with ⟨p1, p2⟩ | p1
          · have := hap y p1; have := hBl y p1; omega
          · omega
        have hv : v = .slice (some ⟨f, 0, none⟩) (l.length - 7) (l.length - 7) := by simp at g7; rw [x2]; exact g7.1
        refine ⟨?_, n, ⟨hn.1, by omega⟩, .inr ⟨by rw [hok]; exact g1, b :: pm :: (keptL (st.unNext l) st.n).map B', cs2.setIfInBounds 0 (i32 0), B', f, fun k hk' => ?_, ⟨by rw [hkl2], h.ne, by rw [hkl2]; exact fun y hy => (hB'b y hy).1, Home.own q7 ⟨wk + n, gl.cnt⟩, ?_, h.asc.unNext ok hwn (fun hno => ?_), .inl ⟨hcl2, gl⟩⟩, by rw [he, x3, x4, x5, hv], by omega, fun hf => ?_, ?_⟩⟩
        · rw [hSb]
          refine ((q1.mono (S' := b :: pm :: (keptL st st.n).map B) (fun i hi _ => by simp at hi; simp [hi])).trans g2 (fun _ hi _ => hi)).trans q8 (fun i hi hl => ?_)
          simp at hi
          rcases hi with rfl | rfl
          · simp
          · omega
        · rw [hSb]
          simp only [List.mem_cons] at hk' ⊢
          rcases hk' with e | e | e
          · exact .inl (.inl e)
          · exact .inl (.inr (.inl e))
          · obtain ⟨y, hy, rfl⟩ := List.mem_map.1 e
            rcases g5 y hy with ⟨p1, p2⟩ | p1
            · exact .inl (.inr (.inr (List.mem_map.2 ⟨y, p1, p2.symm⟩)))
            · exact .inr (by omega)
        · rw [hkl2, hkeyP]
          exact hoff g4 hB'b
        · exact Classical.byContradiction fun hc => hno (hgo (by omega))
        · simp only [List.mem_cons] at hf
          rcases hf with e | e | e
          · omega
          · omega
          · obtain ⟨y, hy, e⟩ := List.mem_map.1 e
            exact g6 y hy e
        · rw [q8.block f (Array.getElem?_eq_some_iff.1 g9).1 (by simp; omega)]
          exact g9
      · simp at g7
        rw [x1] at g7
        cases g7.2
/-- Unprotect that answers with an error -/
theorem grp_unErr {w : World} {S : List Nat} {g : Value} {st : St} {wk : Nat} (ok : st.Ok) (h : Grp w S g st wk) (hGl : Glob w) (a : Option Addr) (l : List UInt8) (c : Nat) (hlc : l.length ≤ c) (hbt : Bts w a l) (hna : ∀ b o, a = some ⟨b, o, none⟩ → b ∉ S) (hE : st.unErr l ≠ 0) :
    Calls Tryz.prog 20 #[g, .slice a l.length c] w fun e w' => e = .returned (.tuple #[.agg #[.int .i64 0, .int .i64 0, .slice none 0 0], .int .i64 (st.unErr l)]) ∧ Outside S w w' ∧ ∃ S' wk', Fresh w S S' ∧ Grp w' S' g st wk' ∧ wk ≤ wk' ∧ wk' ≤ wk + (if st.unPre l = 0 then st.bound (unWho l) (unGen l) (l.length - 7) else 0) := by
  obtain ⟨b, pm, cs, B, rfl, h⟩ := h
  by_cases hp : st.unPre l = 0
  · have hok : st.unOk l = false := by
      cases ho : st.unOk l with
      | false => rfl
      | true =>
        unfold St.unErr at hE
        rw [if_neg (by omega), ho, if_pos rfl] at hE
        exact absurd rfl hE
    have e7 : st.unErr l = 7 := by unfold St.unErr; rw [if_neg (by omega), hok]; rfl
    rw [if_pos hp, e7]
    refine (un_try ok h hGl a l c hlc hbt hna hp).mono fun e w' ⟨h1, n, hn, h2⟩ => ?_
    rcases h2 with ⟨_, h3, cs', h4⟩ | ⟨h3, _⟩
    · exact ⟨h3, h1, S, wk + n, Fresh.refl _ _, ⟨b, pm, cs', B, rfl, h4⟩, by omega, by omega⟩
    · rw [hok] at h3; cases h3
  · have e7 : st.unErr l = st.unPre l := by unfold St.unErr; rw [if_pos hp]
    rw [if_neg hp, e7]
    exact (un_pre ok h hGl a l c hlc hbt hna hp).mono fun e w' ⟨h1, h2, h3⟩ => ⟨h1, h2, S, wk, Fresh.refl _ _, ⟨b, pm, cs, B, rfl, h3⟩, Nat.le_refl _, by omega⟩
/-- Unprotect that opens -/
theorem grp_un {w : World} {S : List Nat} {g : Value} {st : St} {wk : Nat} (ok : st.Ok) (h : Grp w S g st wk) (hGl : Glob w) (a : Option Addr) (l : List UInt8) (c : Nat) (hlc : l.length ≤ c) (hbt : Bts w a l) (hna : ∀ b o, a = some ⟨b, o, none⟩ → b ∉ S) (hE : st.unErr l = 0) :
    Calls Tryz.prog 20 #[g, .slice a l.length c] w fun e w' => Outside S w w' ∧ ∃ S' wk' f o cap, Fresh w S S' ∧ Grp w' S' g (st.unNext l) wk' ∧ wk < wk' ∧ wk' ≤ wk + st.bound (unWho l) (unGen l) (l.length - 7) ∧
      e = .returned (.tuple #[.agg #[.int .i64 (unWho l), .int .i64 (unGen l), .slice (some ⟨f, o, none⟩) (l.length - 7) cap], .int .i64 0]) ∧ w.heap.size ≤ f ∧ f < w'.heap.size ∧ f ∉ S' ∧ l.length - 7 ≤ cap ∧ Bts w' (some ⟨f, o, none⟩) (st.unText l) ∧ ∀ i, i < l.length - 7 → w'.frozen? ⟨f, o + i, none⟩ = false := by
  obtain ⟨b, pm, cs, B, rfl, h⟩ := h
  have hp : st.unPre l = 0 := by
    unfold St.unErr at hE
    by_cases hp : st.unPre l = 0
    · exact hp
    · rw [if_pos hp] at hE; exact hE
  have hok : st.unOk l = true := by
    cases ho : st.unOk l with
    | true => rfl
    | false =>
      unfold St.unErr at hE
      rw [if_neg (by omega), ho] at hE
      simp at hE
  have h7 := (unPre_zero hp).2.1
  refine (un_try ok h hGl a l c hlc hbt hna hp).mono fun e w' ⟨h1, n, hn, h2⟩ => ?_
  rcases h2 with ⟨h3, _⟩ | ⟨_, S', cs', B', f, h4, h5, h6, h8, h9, h10⟩
  · rw [hok] at h3; cases h3
  · have hlen := unText_len st h7
    refine ⟨h1, S', wk + n, f, 0, l.length - 7, h4, ⟨b, pm, cs', B', rfl, h5⟩, by omega, by omega, h6, h8, (Array.getElem?_eq_some_iff.1 h10).1, h9, Nat.le_refl _, .inr ⟨f, 0, rfl, fun i hi => ?_⟩, fun i hi => by simp [World.frozen?, h10]⟩
    rw [Nat.zero_add, cell_of_row _ _ _ _ _ _ h10, RowB_at _ _ _ hi]
end Go.Proofs.YtkpebabbnndopaaGreatDoor

/- What Dump reads. -/
namespace Go.Proofs.YtkpebabbnndopaaGreatDoor
open Go.RowKit
set_option linter.unusedVariables false
set_option linter.unusedSimpArgs false

theorem index_rat (RA : Array Value) (h : RA.size = 160) (i : Nat) (hi : i < 16) : ∀ w, (Instr.index 105 (.agg RA) (.int .i64 i)).run Tryz.prog w = .ok (.agg (RA.extract (i * 10) (i * 10 + 10))) w := fun w => by
  have h0 : (0 : Int) ≤ i := by omega
  have h1 : (i : Int) < 16 := by omega
  have hs : (sizeOf 104).run Tryz.prog w = .ok 10 w := by kernel_rfl
  have ha : (isAgg 104).run Tryz.prog w = .ok true w := by kernel_rfl
  simp [Instr.index, part, asIntOf, run_underlying Tryz.underlying105, h0, h1, hs, ha]
  intro hc
  omega
/-- the nodes of a list of parts, as items -/
theorem map_node (st : St) (k : Nat) : ∀ f t x, x ∈ st.parts k f t → x = ⟨0, x.f, x.t, 0, x.s⟩ := by
  induction k with
  | zero =>
    intro f t x hx
    unfold St.parts at hx
    split at hx
    · cases hx
    · simp at hx; rw [hx]
  | succ k ih =>
    intro f t x hx
    rw [St.parts] at hx
    split at hx
    · split at hx
      · cases hx
      · rcases List.mem_append.1 hx with h | h
        · exact ih _ _ x h
        · exact ih _ _ x h
    · simp at hx; rw [hx]
/-- the ratchets' cells in a row -/
def ratCells (bg : Nat → Bool) (nx : Nat → Nat) (ss : Nat → Nat → Int) : Nat → List Value
  | 0 => []
  | i + 1 => ratCells bg nx ss i ++ (CellsR (bg i) (nx i) (ss i)).toList
theorem ratCells_len (bg : Nat → Bool) (nx : Nat → Nat) (ss : Nat → Nat → Int) (n : Nat) : (ratCells bg nx ss n).length = n * 10 := by
  induction n with
  | zero => rfl
  | succ n ih => rw [ratCells, List.length_append, ih]; show n * 10 + 10 = _; omega
theorem ratCells_at (bg : Nat → Bool) (nx : Nat → Nat) (ss : Nat → Nat → Int) (cs : Array Value) (o : Nat) (n : Nat) (h : ∀ i, i < n → RatAt cs (o + i * 10) (bg i) (nx i) (ss i)) : AtL cs o (ratCells bg nx ss n) := by
  induction n with
  | zero => intro j v hv; simp [ratCells] at hv
  | succ n ih =>
    rw [ratCells]
    refine AtL.append.2 ⟨ih fun i hi => h i (by omega), ?_⟩
    rw [ratCells_len]
    exact h n (by omega)
theorem ratCells_get (bg : Nat → Bool) (nx : Nat → Nat) (ss : Nat → Nat → Int) (n i : Nat) (hi : i < n) : ((ratCells bg nx ss n).toArray.extract (i * 10) (i * 10 + 10)) = CellsR (bg i) (nx i) (ss i) := by
  induction n with
  | zero => omega
  | succ n ih =>
    have hl := ratCells_len bg nx ss n
    by_cases hn : i < n
    · rw [← ih hn]
      apply Array.ext_getElem?
      intro j
      simp only [Array.getElem?_extract, List.getElem?_toArray, List.size_toArray]
      rw [ratCells_len, ratCells_len]
      by_cases hj : j < 10
      · rw [if_pos (by omega), if_pos (by omega), ratCells, List.getElem?_append_left (by omega)]
      · rw [if_neg (by omega), if_neg (by omega)]
    · obtain rfl : i = n := by omega
      apply Array.ext_getElem?
      intro j
      simp only [Array.getElem?_extract, List.getElem?_toArray, List.size_toArray]
      rw [ratCells_len]
      by_cases hj : j < 10
      · rw [if_pos (by omega), ratCells, List.getElem?_append_right (by omega), hl, show i * 10 + j - i * 10 = j by omega, Array.getElem?_toList]
      · rw [if_neg (by omega), List.getElem?_eq_none (by show 10 ≤ j; omega)]
/-- the ratchets' secrets as items -/
def headsG (bg : Nat → Bool) (nx : Nat → Nat) (ss : Nat → Nat → Int) : Nat → List It
  | 0 => []
  | i + 1 => headsG bg nx ss i ++ (if bg i && decide (nx i ≤ 65535) then [⟨1, i, i + 1, nx i, ss i⟩] else [])
theorem headsG_len (bg : Nat → Bool) (nx : Nat → Nat) (ss : Nat → Nat → Int) (n : Nat) : (headsG bg nx ss n).length ≤ n := by
  induction n with
  | zero => exact Nat.le_refl _
  | succ n ih => rw [headsG, List.length_append]; split <;> simp <;> omega
theorem heads_eq (st : St) (n : Nat) : st.heads n = headsG (fun i => (st.m i).begun) (fun i => (st.m i).next) st.ratS n := by
  induction n with
  | zero => rfl
  | succ n ih =>
    rw [St.heads, headsG, ih]
    by_cases h : ((st.m n).begun && decide ((st.m n).next ≤ 65535)) = true
    · have hr : st.ratS n = st.ratAt n (st.m n).next := by unfold St.ratS; rw [if_pos h]
      rw [if_pos h, if_pos h, hr]
    · rw [if_neg h, if_neg h]
abbrev itemC (k f t g : Int) (s : Nat → Int) : Array Value := #[.int .i64 k, .int .i64 f, .int .i64 t, .int .i64 g, .int .u8 (s 0), .int .u8 (s 1), .int .u8 (s 2), .int .u8 (s 3), .int .u8 (s 4), .int .u8 (s 5), .int .u8 (s 6), .int .u8 (s 7)]
theorem itemC_eq (x : It) : x.cells.toArray = itemC x.kind x.f x.t x.g x.s := rfl
end Go.Proofs.YtkpebabbnndopaaGreatDoor

/- keptItem. -/
namespace Go.Proofs.YtkpebabbnndopaaGreatDoor
open Go.RowKit
set_option linter.unusedVariables false
set_option linter.unusedSimpArgs false

theorem keptItem_any (m g : Nat) (hm : m < 16) (s : Nat → Int) (w : World) :
    Calls Tryz.prog 56 #[encP (m, g), Agg8 s] w fun e w' => e = .returned (.agg (It.cells ⟨2, m, m + 1, g, s⟩).toArray) ∧ Below w.heap.size w w' := by
  have hwr : wrap64 ((m : Int) + 1) = ((m + 1 : Nat) : Int) := by simp only [wrap64]; omega
  have hwr2 : IntKind.i64.wrap ((m : Int) + 1) = ((m + 1 : Nat) : Int) := by rw [IntKind.wrap_i64]; omega
  obtain ⟨M, hM⟩ : ∃ M : Int, (m : Int) = M := ⟨_, rfl⟩
  obtain ⟨M1, hM1⟩ : ∃ M : Int, ((m + 1 : Nat) : Int) = M := ⟨_, rfl⟩
  have e1 : It.cells ⟨2, m, m + 1, g, s⟩ = [.int .i64 2, .int .i64 M, .int .i64 M1, .int .i64 g, .int .u8 (s 0), .int .u8 (s 1), .int .u8 (s 2), .int .u8 (s 3), .int .u8 (s 4), .int .u8 (s 5), .int .u8 (s 6), .int .u8 (s 7)] := by unfold It.cells; rw [hM, hM1]; rfl
  rw [e1]
  rw [hM, hM1] at hwr hwr2
  show Calls Tryz.prog 56 #[.agg #[.int .i64 (m : Int), .int .i64 (g : Int)], Agg8 s] w _
  rw [hM]
  clear hM hM1 e1 hm
  go_enter Tryz.func56, Tryz.ntmps56
  go_wp2_with fail
  refine bodyPost_ret (v := .agg [.int .i64 2, .int .i64 M, .int .i64 M1, .int .i64 g, .int .u8 (s 0), .int .u8 (s 1), .int .u8 (s 2), .int .u8 (s 3), .int .u8 (s 4), .int .u8 (s 5), .int .u8 (s 6), .int .u8 (s 7)].toArray) (results_cell_row rfl _ _ (w.heap.size + 1 + 1) 53 _ (0, 0) _ rfl ?_ Tryz.underlying53 rfl (by kernel_rfl)) rfl ⟨rfl, (((Below.refl _ w).alloc (Nat.le_refl _) _).alloc (by simp) _).alloc (by simp; omega) _⟩
  have e := (MapKept.heap_alloc ((w.alloc (.cells #[.int .i64 M, .int .i64 g] 123)).alloc (.cells (Cells8 s) 51)) (.cells [.int .i64 2, .int .i64 M, .int .i64 M1, .int .i64 g, .int .u8 (s 0), .int .u8 (s 1), .int .u8 (s 2), .int .u8 (s 3), .int .u8 (s 4), .int .u8 (s 5), .int .u8 (s 6), .int .u8 (s 7)].toArray 53)).1
  simp only [World.size_alloc] at e
  exact e
end Go.Proofs.YtkpebabbnndopaaGreatDoor
