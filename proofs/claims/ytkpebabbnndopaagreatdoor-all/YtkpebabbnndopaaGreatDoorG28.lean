import Derived.Test.YtkpebabbnndopaaGreatDoorG27
import Derived.WalkKit
import Derived.WalkSpells
import Derived.WalkLawsBesides
import Derived.Deep.WholeRow
import Derived.Deep.QuietTactic
import Derived.BigQuiet
import Derived.BigRegion
/- openAhead: what it leaves. -/
namespace Go.Proofs.YtkpebabbnndopaaGreatDoor
open Go.RowKit
set_option linter.unusedVariables false

/-- what opening leaves: st' behind what opens -/
def OpenedTo (w : World) (b pm : Nat) (st st' : St) (wk N : Nat) (B : PlI → Nat) (l : List UInt8) (K : Nat → Int) (e : Ending) (w' : World) : Prop :=
  ∃ n cs', (0 < n ∧ n ≤ N) ∧ Home (some b) b 112 cs' w' ∧
    ((OpenOk K (l.take 3) (l.drop 3) = false ∧ e = .returned (.tuple #[.slice none 0 0, faultV 7 strSeal]) ∧ Outside [b] w w' ∧ GrpAt cs' st (wk + n) pm 1 ∧ KeepAt w' pm (keptL st st.n) B st.keyP) ∨
     (OpenOk K (l.take 3) (l.drop 3) = true ∧ Outside (b :: pm :: (keptL st st.n).map B) w w' ∧ GrpAt cs' st' (wk + n) pm 1 ∧ ∃ B' f, KeepAt w' pm (keptL st' st.n) B' st.keyP ∧ (∀ x, x ∈ keptL st' st.n → (x ∈ keptL st st.n ∧ B' x = B x) ∨ w.heap.size ≤ B' x) ∧ (∀ x, x ∈ keptL st' st.n → B' x ≠ f) ∧
       e = .returned (.tuple #[.slice (some ⟨f, 0, none⟩) (l.length - 7) (l.length - 7), .nilIface]) ∧ w.heap.size ≤ f ∧ w'.heap[f]? = some (.cells (RowB (OpenT K (l.drop 3)) (l.length - 7)) 5 (0, 0))))
theorem ahead_any {w : World} {b : Nat} {cs : Array Value} {st : St} {wk pm : Nat} {m g : Nat} {B : PlI → Nat} (ok : st.Ok) (asc : Asc st) (hm : m < st.n) (hle : (st.m m).next ≤ g) (h5 : g - (st.m m).next ≤ 5) (hg : g ≤ 65535)
    (hh : Home (some b) b 112 cs w) (hG : GrpAt cs st wk pm 1) (hk : KeepAt w pm (keptL st st.n) B st.keyP) (hpb : pm ≠ b) (hBb : ∀ y, y ∈ keptL st st.n → B y ≠ b) (fb fo c : Nat) (l : List UInt8) (h7 : 7 ≤ l.length) (h47 : l.length ≤ 47) (hc : l.length ≤ c) (hl : ∀ i (h : i < l.length), w.cell? ⟨fb, fo + i, none⟩ = some (cellB l[i])) (hnb : b ≠ fb) :
    Calls Tryz.prog 126 #[.pointer (some ⟨b, 0, none⟩), .agg #[.int .i64 m, .int .i64 g], .slice (some ⟨fb, fo, none⟩) l.length c] w fun e w' => OpenedTo w b pm st (st.passTo m g) wk (2 * DepB 16 st.n m + 4 + 2 * (g - (st.m m).next) + l.length / 8) B l (st.keyAt m g) e w' := by
  have hb0 := hh.lt
  have hpl := hk.lt
  have hBl : ∀ y, y ∈ keptL st st.n → B y < w.heap.size := fun y hy => (Array.getElem?_eq_some_iff.1 (hk.row y hy)).1
  have hkW : ∀ {W : World}, Outside [b] w W → KeepAt W pm (keptL st st.n) B st.keyP := fun {W} ho => hk.keep fun k hk hm => ho.block k hk (by
    rcases hm with rfl | hm
    · simpa using hpb
    · obtain ⟨y, hy, rfl⟩ := List.mem_map.1 hm
      simpa using hBb y hy)
  refine (ahead_raw ok hm hle h5 hg hh hG fb fo c l h7 h47 hc hl hnb (fun n W W' => w.heap.size + 1 < W.heap.size ∧ Outside [b] w W ∧ Settled W b (w.heap.size + 1) pm st (wk + n) m g B W') (fun W n ct pl hA hT ho => ?_) (fun n W W' hR => ?_)).mono fun e w' ⟨n, kb, W, ct, pl, hn, hA, hkb1, hkb2, hcase⟩ => ?_
  · obtain ⟨cs3, h3, m3⟩ := hA.home
    refine (settle_any ok asc hm hle hg h3 (hG.tick m3) (hA.trial hT.size) (by omega) hT ho (hkW hA.out) hpb (by omega) (fun y hy => ⟨hBb y hy, by have := hBl y hy; omega⟩)).mono fun e w' ⟨h1, h2⟩ => ⟨h1, (Array.getElem?_eq_some_iff.1 hA.row).1, hA.out, h2⟩
  · obtain ⟨hlt, hO, csN, ct', n2, B', _, _, _, h4, h5', _, _, h8⟩ := hR
    refine ⟨fun k h1 h2 h3 => h8.block k h2 (fun hm => ?_), ct', h4, h5'⟩
    simp only [List.mem_cons] at hm
    rcases hm with rfl | rfl | rfl | hm
    · omega
    · exact h3 rfl
    · omega
    · obtain ⟨y, hy, rfl⟩ := List.mem_map.1 hm
      have := hBl y hy
      omega
  · have hoth : ∀ (W : World) (r1 r2 : Array Value) (k : Nat), k ≠ kb → k ≠ w.heap.size + 1 → ((W.setRow kb r1).setRow (w.heap.size + 1) r2).heap[k]? = W.heap[k]? := fun W r1 r2 k h1 h2 => by
      rw [setRow_other _ _ _ _ h2, setRow_other _ _ _ _ h1]
    rcases hcase with ⟨h1, h2, h3⟩ | ⟨h1, f, W', h2, h3, h4, h6, h8, ⟨_, _, hS⟩, h9⟩
    · obtain ⟨cs3, x3, m3⟩ := hA.home
      have ho : Outside [b] w w' := by rw [h3]; exact (hA.out.setRow kb (fun hl => by omega) _).setRow _ (fun hl => by omega) _
      refine ⟨n, cs3, ⟨hn.1, by omega⟩, Home.own (by rw [h3, hoth W _ _ b (by omega) (by omega)]; exact x3.row) x3.cnt, .inl ⟨h1, h2, ho, hG.tick m3, hkW ho⟩⟩
    · obtain ⟨csN, ct', n2, B', s1, s2, s3, s4, s5, s6, s7, s8⟩ := hS
      have hzW : w.heap.size ≤ W.heap.size := hA.out.size
      have hbn : b ≠ kb ∧ b ≠ w.heap.size + 1 := ⟨by omega, by omega⟩
      have hk' : KeepAt w' pm (keptL (st.passTo m g) st.n) B' st.keyP := s6.keep fun k hk hm => by
        rw [h9]
        refine hoth W' _ _ k ?_ ?_
        · rcases hm with rfl | hm
          · omega
          · obtain ⟨y, hy, rfl⟩ := List.mem_map.1 hm
            rcases s7 y hy with ⟨q1, q2⟩ | q1
            · have := hBl y q1; omega
            · omega
        · rcases hm with rfl | hm
          · omega
          · obtain ⟨y, hy, rfl⟩ := List.mem_map.1 hm
            rcases s7 y hy with ⟨q1, q2⟩ | q1
            · have := hBl y q1; omega
            · omega
      refine ⟨n + n2, csN, ⟨by omega, by omega⟩, Home.own (by rw [h9, hoth W' _ _ b hbn.1 hbn.2]; exact s2.row) s2.cnt, .inr ⟨h1, ?_, by rw [← Nat.add_assoc]; exact s3, B', f, hk', fun x hx => ?_, fun x hx => ?_, h2, by omega, ?_⟩⟩
      · rw [h9]
        refine ((((hA.out.mono (S' := b :: pm :: (keptL st st.n).map B) (fun i hi _ => by simp at hi; simp [hi])).trans s8 (fun i hi hl => ?_)).setRow kb (fun hl => by omega) _).setRow _ (fun hl => by omega) _)
        simp only [List.mem_cons] at hi ⊢
        rcases hi with h | h | h
        · exact .inl h
        · omega
        · exact .inr h
      · rcases s7 x hx with q | q
        · exact .inl q
        · exact .inr (by omega)
      · rcases s7 x hx with ⟨q1, q2⟩ | q
        · have := hBl x q1; omega
        · omega
      · rw [h9, hoth W' _ _ f h6 (by omega), s8.block f h4 (fun hm => ?_)]
        · exact h8
        · simp only [List.mem_cons] at hm
          rcases hm with rfl | rfl | rfl | hm
          · omega
          · omega
          · omega
          · obtain ⟨y, hy, rfl⟩ := List.mem_map.1 hm
            have := hBl y hy
            omega
/-- openBehind, of a key that is kept -/
theorem behind_any {w : World} {b : Nat} {cs : Array Value} {st : St} {wk pm : Nat} {m g : Nat} {B : PlI → Nat} (ok : st.Ok) (asc : Asc st) (hm : m < st.n) (hov : g ∈ (st.m m).over)
    (hh : Home (some b) b 112 cs w) (hG : GrpAt cs st wk pm 1) (hk : KeepAt w pm (keptL st st.n) B st.keyP) (hpb : pm ≠ b) (hBb : ∀ y, y ∈ keptL st st.n → B y ≠ b) (fb fo c : Nat) (l : List UInt8) (h7 : 7 ≤ l.length) (h47 : l.length ≤ 47) (hc : l.length ≤ c) (hl : ∀ i (h : i < l.length), w.cell? ⟨fb, fo + i, none⟩ = some (cellB l[i])) (hnb : b ≠ fb) :
    Calls Tryz.prog 125 #[.pointer (some ⟨b, 0, none⟩), .agg #[.int .i64 m, .int .i64 g], .slice (some ⟨fb, fo, none⟩) l.length c] w fun e w' => OpenedTo w b pm st (st.useKey m g) wk (l.length / 8 + 1) B l (st.keyAt m g) e w' := by
  have hx : (((m : Int), (g : Int)) : PlI) ∈ keptL st st.n := keptL_pair.2 ⟨hm, hov⟩
  have hBl : ∀ y, y ∈ keptL st st.n → B y < w.heap.size := fun y hy => (Array.getElem?_eq_some_iff.1 (hk.row y hy)).1
  refine (behind_yes hk hh hG.passed (fun e => hpb e.symm) hBb ((m : Int), (g : Int)) hx (DerB_bd _ _ _) fb fo c l h7 h47 hc hl hnb).mono fun e w' ⟨cs', n, hn, hmv, hho, hcase⟩ => ⟨n, cs', hn, hho, ?_⟩
  have hGn := hG.tick hmv
  rcases hcase with ⟨h1, h2, h3, h4⟩ | ⟨h1, h2, h3, f, h4, h6, h8⟩
  · exact .inl ⟨h1, h2, h3, hGn, h4⟩
  · have hp := erase_perm ok asc (g := g) hm
    have hsub : ∀ x, x ∈ keptL (st.useKey m g) st.n → x ∈ keptL st st.n := fun x hx => List.mem_of_mem_erase (hp.mem_iff.2 hx)
    refine .inr ⟨h1, h2.mono (fun i hi _ => ?_), ?_, B, f, h3.perm hp, fun x hx => .inl ⟨hsub x hx, rfl⟩, fun x hx e => ?_, h4, h6, h8⟩
    · simp only [List.mem_cons, List.not_mem_nil, or_false] at hi
      rcases hi with rfl | rfl | rfl
      · simp
      · simp
      · simp only [List.mem_cons]
        exact .inr (.inr (List.mem_map.2 ⟨_, hx, rfl⟩))
    · have hun := useKey_m ok hm g
      have hbg : (st.m m).begun = true := by
        cases hb : (st.m m).begun with
        | true => rfl
        | false =>
          have := ((ok.m m).2.2.2 hb).2
          rw [this] at hov; cases hov
      have hp2 : ∀ f t, (st.useKey m g).parts 16 f t = st.parts 16 f t := parts_same (st := st) (st' := st.useKey m g) rfl rfl (fun i => by rw [hun]; split <;> simp_all) 16
      refine ⟨hGn.size, hGn.members, hGn.own, hGn.over, ?_, fun i hi => ?_, hGn.passed, hGn.cnt, hGn.ones, hGn.head⟩
      · show TreeAt cs' 8 (((st.useKey m g).parts 16 0 st.n).map itPart)
        rw [hp2]; exact hGn.tree
      · have e1 : ((st.useKey m g).m i).begun = (st.m i).begun := by rw [hun]; split <;> simp_all
        have e2 : ((st.useKey m g).m i).next = (st.m i).next := by rw [hun]; split <;> simp_all
        have e3 : (st.useKey m g).ratS i = st.ratS i := by unfold St.ratS; rw [e1, e2]; rfl
        rw [e1, e2, e3]
        exact hGn.rat i hi
    · have := hBl x (hsub x hx)
      omega
end Go.Proofs.YtkpebabbnndopaaGreatDoor

/- openAt. -/
namespace Go.Proofs.YtkpebabbnndopaaGreatDoor
open Go.RowKit
set_option linter.unusedVariables false
set_option linter.unusedSimpArgs false

theorem OpenedTo.from {w0 w : World} {b pm : Nat} {st st' : St} {wk N N' : Nat} {B : PlI → Nat} {l : List UInt8} {K : Nat → Int} {e : Ending} {w' : World} (h : OpenedTo w b pm st st' wk N B l K e w') (hb : Below w0.heap.size w0 w) (hN : N ≤ N') : OpenedTo w0 b pm st st' wk N' B l K e w' := by
  obtain ⟨n, cs', hn, hh, hc⟩ := h
  have hz := hb.size
  refine ⟨n, cs', ⟨hn.1, by omega⟩, hh, ?_⟩
  rcases hc with ⟨h1, h2, h3, h4, h5⟩ | ⟨h1, h2, h3, B', f, h4, h5, h6, h7, h8, h9⟩
  · exact .inl ⟨h1, h2, (Outside.ofBelow hb).trans h3 (fun _ hi _ => hi), h4, h5⟩
  · refine .inr ⟨h1, (Outside.ofBelow hb).trans h2 (fun _ hi _ => hi), h3, B', f, h4, fun x hx => ?_, h6, h7, by omega, h9⟩
    rcases h5 x hx with q | q
    · exact .inl q
    · exact .inr (by omega)
set_option maxHeartbeats 2000000 in
set_option maxRecDepth 20000 in
theorem openAt_no {w : World} {b : Nat} {cs : Array Value} {st : St} {wk pm : Nat} {m g : Nat} {B : PlI → Nat} {E : Int} (ok : st.Ok) (hm : m < st.n) (hg : g ≤ 65535)
    (hh : Home (some b) b 112 cs w) (hG : GrpAt cs st wk pm 1) (hk : KeepAt w pm (keptL st st.n) B st.keyP) (sv : Value)
    (hE : (m = st.own ∧ E = 4) ∨ (m ≠ st.own ∧ g < (st.m m).next ∧ g ∉ (st.m m).over ∧ E = 5) ∨ (m ≠ st.own ∧ ¬ g < (st.m m).next ∧ (st.m m).next + 5 < g ∧ E = 6)) :
    Calls Tryz.prog 92 #[.pointer (some ⟨b, 0, none⟩), .agg #[.int .i64 m, .int .i64 g], sv] w fun e w' => ∃ s, e = .returned (.tuple #[.slice none 0 0, faultV E s]) ∧ Below w.heap.size w w' := by
  have h16 : m < 16 := by have := ok.n16; omega
  have ix := ratIndex b m h16
  have hnx := (ok.m m).1
  obtain ⟨P, hP⟩ : ∃ P, 169 + m * 10 = P := ⟨_, rfl⟩
  rw [hP] at ix
  have cn := ((hG.rat m h16).facts hh).2.1
  rw [hP] at cn
  have co : w.cell? ⟨b, 6, none⟩ = some (.int .i64 st.own) := by rw [hh.cells.1]; exact hG.own
  have HBN : Hid (g < (st.m m).next → g ∉ (st.m m).over → ∀ W, Below w.heap.size w W → Calls Tryz.prog 125 #[.pointer (some ⟨b, 0, none⟩), .agg #[.int .i64 m, .int .i64 g], sv] W fun e w' => ∃ s, e = .returned (.tuple #[.slice none 0 0, faultV 5 s]) ∧ Below W.heap.size W w') := fun _ h2 W hW =>
    behind_no (hk.below hW) (by rw [(hh.below hW).cells.1]; exact hG.passed) ((m : Int), (g : Int)) (pl_wf h16 (by omega)) (fun hx => h2 (keptL_pair.1 hx).2) sv
  obtain ⟨M, hM⟩ : ∃ M : Int, (m : Int) = M := ⟨_, rfl⟩
  obtain ⟨G, hGG⟩ : ∃ G : Int, (g : Int) = G := ⟨_, rfl⟩
  obtain ⟨NX, hNX⟩ : ∃ NX : Int, ((st.m m).next : Int) = NX := ⟨_, rfl⟩
  obtain ⟨OW, hOW⟩ : ∃ OW : Int, (st.own : Int) = OW := ⟨_, rfl⟩
  rw [hM] at ix HBN
  rw [hGG] at HBN
  rw [hNX] at cn
  rw [hOW] at co
  rw [hM, hGG]
  have hE2 : (M = OW ∧ E = 4) ∨ (M ≠ OW ∧ G < NX ∧ (g < (st.m m).next ∧ g ∉ (st.m m).over) ∧ E = 5) ∨ (M ≠ OW ∧ ¬ G < NX ∧ 5 < G - NX ∧ E = 6) := by
    rcases hE with ⟨h1, h2⟩ | ⟨h1, h2, h3, h4⟩ | ⟨h1, h2, h3, h4⟩
    · exact .inl ⟨by omega, h2⟩
    · exact .inr (.inl ⟨by omega, by omega, ⟨h2, h3⟩, h4⟩)
    · exact .inr (.inr ⟨by omega, by omega, by omega, h4⟩)
  have hG0 : 0 ≤ G := by omega
  have hG1 : G ≤ 65535 := by omega
  have hN0 : 0 ≤ NX := by omega
  have hN1 : NX ≤ 65536 := by omega
  have hbl := hh.lt
  obtain ⟨w1, hw1⟩ : ∃ w1, w.alloc (.cells #[.int .i64 M, .int .i64 G] 123) = w1 := ⟨_, rfl⟩
  have b1 : Below w.heap.size w w1 := by rw [← hw1]; exact (Below.refl _ w).alloc (Nat.le_refl _) _
  have k1 : w1.heap[w.heap.size]? = some (.cells #[.int .i64 M, .int .i64 G] 123 (0, 0)) := by rw [← hw1]; exact (MapKept.heap_alloc _ _).1
  have hA : ∀ o, w1.cell? ⟨w.heap.size, o, none⟩ = #[Value.int .i64 M, .int .i64 G][o]? := fun o => cell_of_row _ _ _ _ _ _ k1
  have cn1 : w1.cell? ⟨b, P + 1, none⟩ = some (.int .i64 NX) := by rw [b1.cell (p := ⟨b, P + 1, none⟩) hbl]; exact cn
  have co1 : w1.cell? ⟨b, 6, none⟩ = some (.int .i64 OW) := by rw [b1.cell (p := ⟨b, 6, none⟩) hbl]; exact co
  have HB : Hid (Below w.heap.size w w1) := b1
  have HW : Hid (w.alloc (.cells #[.int .i64 M, .int .i64 G] 123) = w1) := hw1
  clear hh hG hk cn co hM hGG hNX hOW hP b1 k1 hw1 hE hnx hbl h16 ok hm hg
  rcases hE2 with ⟨h1, rfl⟩ | ⟨h1, h2, h3, rfl⟩ | ⟨h1, h2, h3, rfl⟩
  · subst h1
    clear HBN
    go_enter Tryz.func92, Tryz.ntmps92
    go_upto_region 1 with fail
    rw [HW.out]
    go_quiet (fail)
    go_upto_region 2 with fail
    go_quiet (fail)
    go_wp2_with fail
    go_ret2
    exact ⟨_, rfl, by first | exact below_drewQ HB.out _ | exact below_drewQ (below_drewQ HB.out _) _⟩
  · have e1 : (M == OW) = false := by simpa using h1
    have HBN2 := HBN.out h3.1 h3.2
    have HB2 : Hid (∀ W, Below w.heap.size w W → Calls Tryz.prog 125 #[.pointer (some ⟨b, 0, none⟩), .agg #[.int .i64 M, .int .i64 G], sv] W fun e w' => ∃ s, e = .returned (.tuple #[.slice none 0 0, faultV 5 s]) ∧ Below w.heap.size w w') := fun W hW => (HBN2 W hW).mono fun e w' ⟨s, h8, h9⟩ => ⟨s, h8, hW.trans (h9.mono hW.size)⟩
    clear HBN HBN2 h3 h1
    go_enter Tryz.func92, Tryz.ntmps92
    go_upto_region 1 with fail
    rw [HW.out]
    go_quiet (fail)
    go_upto_region 2 with fail
    go_quiet (fail)
    go_wp2_with fail
    refine (HB2.out _ (below_drewQ HB.out _)).mono ?_
    rintro e w2 ⟨s, rfl, b2⟩
    have HF : Hid (Below w.heap.size w w2) := b2
    clear b2 HB2 hA cn1 co1
    go_wp2_with fail
    go_ret2
    exact ⟨s, rfl, HF.out⟩
  · have e1 : (M == OW) = false := by simpa using h1
    clear HBN h1
    go_enter Tryz.func92, Tryz.ntmps92
    go_upto_region 1 with fail
    rw [HW.out]
    go_quiet (fail)
    go_upto_region 2 with fail
    go_quiet (fail)
    go_wp2_with fail
    go_ret2
    first | exact ⟨_, rfl, below_drewQ HB.out _⟩ | exact ⟨⟨_, rfl⟩, below_drewQ HB.out _⟩
set_option maxHeartbeats 2000000 in
set_option maxRecDepth 20000 in
theorem openAt_try {w : World} {b : Nat} {cs : Array Value} {st : St} {wk pm : Nat} {m g : Nat} {B : PlI → Nat} (ok : st.Ok) (asc : Asc st) (hm : m < st.n) (hmo : m ≠ st.own) (hle : g < (st.m m).next → g ∈ (st.m m).over) (h5 : g ≤ (st.m m).next + 5) (hg : g ≤ 65535)
    (hh : Home (some b) b 112 cs w) (hG : GrpAt cs st wk pm 1) (hk : KeepAt w pm (keptL st st.n) B st.keyP) (hpb : pm ≠ b) (hBb : ∀ y, y ∈ keptL st st.n → B y ≠ b) (fb fo c : Nat) (l : List UInt8) (h7 : 7 ≤ l.length) (h47 : l.length ≤ 47) (hc : l.length ≤ c) (hl : ∀ i (h : i < l.length), w.cell? ⟨fb, fo + i, none⟩ = some (cellB l[i])) (hnb : b ≠ fb) :
    Calls Tryz.prog 92 #[.pointer (some ⟨b, 0, none⟩), .agg #[.int .i64 m, .int .i64 g], .slice (some ⟨fb, fo, none⟩) l.length c] w fun e w' => ∃ v u, e = .returned (.tuple #[v, u]) ∧ OpenedTo w b pm st (st.setM m (unMem (st.m m) g)) wk (2 * DepB 16 st.n m + 4 + 2 * (g - (st.m m).next) + l.length / 8) B l (st.keyAt m g) (.returned (.tuple #[v, u])) w' := by
  have h16 : m < 16 := by have := ok.n16; omega
  have ix := ratIndex b m h16
  have hnx := (ok.m m).1
  obtain ⟨P, hP⟩ : ∃ P, 169 + m * 10 = P := ⟨_, rfl⟩
  rw [hP] at ix
  have cn := ((hG.rat m h16).facts hh).2.1
  rw [hP] at cn
  have co : w.cell? ⟨b, 6, none⟩ = some (.int .i64 st.own) := by rw [hh.cells.1]; exact hG.own
  obtain ⟨N, hN⟩ : ∃ N, 2 * DepB 16 st.n m + 4 + 2 * (g - (st.m m).next) + l.length / 8 = N := ⟨_, rfl⟩
  have hfl : fb < w.heap.size := block_lt_of_cell (hl 0 (by omega))
  have HAN : Hid (∀ W, Below w.heap.size w W → (g < (st.m m).next → Calls Tryz.prog 125 #[.pointer (some ⟨b, 0, none⟩), .agg #[.int .i64 m, .int .i64 g], .slice (some ⟨fb, fo, none⟩) l.length c] W fun e w' => ∃ v u, e = .returned (.tuple #[v, u]) ∧ Hid (OpenedTo w b pm st (st.setM m (unMem (st.m m) g)) wk N B l (st.keyAt m g) (.returned (.tuple #[v, u])) w')) ∧
      (¬ g < (st.m m).next → Calls Tryz.prog 126 #[.pointer (some ⟨b, 0, none⟩), .agg #[.int .i64 m, .int .i64 g], .slice (some ⟨fb, fo, none⟩) l.length c] W fun e w' => ∃ v u, e = .returned (.tuple #[v, u]) ∧ Hid (OpenedTo w b pm st (st.setM m (unMem (st.m m) g)) wk N B l (st.keyAt m g) (.returned (.tuple #[v, u])) w'))) := fun W hW => by
    have hlW : ∀ i (h : i < l.length), W.cell? ⟨fb, fo + i, none⟩ = some (cellB l[i]) := fun i hi => by rw [hW.cell (p := ⟨fb, fo + i, none⟩) hfl]; exact hl i hi
    have two : ∀ {st' : St} {N' : Nat} {e : Ending} {w' : World}, N' ≤ N → OpenedTo W b pm st st' wk N' B l (st.keyAt m g) e w' → ∃ v u, e = .returned (.tuple #[v, u]) ∧ Hid (OpenedTo w b pm st st' wk N B l (st.keyAt m g) (.returned (.tuple #[v, u])) w') := fun {st' N' e w'} hN' h => by
      have h0 := h.from hW hN'
      have h1 := h0
      obtain ⟨n, cs', _, _, ⟨_, rfl, _⟩ | ⟨_, _, _, B', f, _, _, _, rfl, _⟩⟩ := h1
      · exact ⟨_, _, rfl, h0⟩
      · exact ⟨_, _, rfl, h0⟩
    refine ⟨fun hlt => ?_, fun hge => ?_⟩
    · have hov := hle hlt
      have e1 : st.setM m (unMem (st.m m) g) = st.useKey m g := by unfold unMem St.useKey; rw [if_pos hov]
      rw [e1]
      exact (behind_any ok asc hm hov (hh.below hW) hG (hk.below hW) hpb hBb fb fo c l h7 h47 hc hlW hnb).mono fun e w' h => two (by omega) h
    · have hov : g ∉ (st.m m).over := fun h => hge (asc.below m g h)
      have e1 : st.setM m (unMem (st.m m) g) = st.passTo m g := by unfold unMem St.passTo; rw [if_neg hov]
      rw [e1]
      exact (ahead_any ok asc hm (by omega) (by omega) hg (hh.below hW) hG (hk.below hW) hpb hBb fb fo c l h7 h47 hc hlW hnb).mono fun e w' h => two (by omega) h
  rw [hN]
  obtain ⟨POST, hPOST⟩ : ∃ POST : Value → Value → World → Prop, POST = fun v u w' => OpenedTo w b pm st (st.setM m (unMem (st.m m) g)) wk N B l (st.keyAt m g) (.returned (.tuple #[v, u])) w' := ⟨_, rfl⟩
  have HAN2 : Hid (∀ W, Below w.heap.size w W → (g < (st.m m).next → Calls Tryz.prog 125 #[.pointer (some ⟨b, 0, none⟩), .agg #[.int .i64 m, .int .i64 g], .slice (some ⟨fb, fo, none⟩) l.length c] W fun e w' => ∃ v u, e = .returned (.tuple #[v, u]) ∧ Hid (POST v u w')) ∧
      (¬ g < (st.m m).next → Calls Tryz.prog 126 #[.pointer (some ⟨b, 0, none⟩), .agg #[.int .i64 m, .int .i64 g], .slice (some ⟨fb, fo, none⟩) l.length c] W fun e w' => ∃ v u, e = .returned (.tuple #[v, u]) ∧ Hid (POST v u w'))) := by rw [hPOST]; exact HAN.out
  show Calls Tryz.prog 92 #[.pointer (some ⟨b, 0, none⟩), .agg #[.int .i64 m, .int .i64 g], .slice (some ⟨fb, fo, none⟩) l.length c] w fun e w' => ∃ v u, e = .returned (.tuple #[v, u]) ∧ (fun v u w' => OpenedTo w b pm st (st.setM m (unMem (st.m m) g)) wk N B l (st.keyAt m g) (.returned (.tuple #[v, u])) w') v u w'
  rw [← hPOST]
  clear HAN hPOST hN
  obtain ⟨M, hM⟩ : ∃ M : Int, (m : Int) = M := ⟨_, rfl⟩
  obtain ⟨G, hGG⟩ : ∃ G : Int, (g : Int) = G := ⟨_, rfl⟩
  obtain ⟨NX, hNX⟩ : ∃ NX : Int, ((st.m m).next : Int) = NX := ⟨_, rfl⟩
  obtain ⟨OW, hOW⟩ : ∃ OW : Int, (st.own : Int) = OW := ⟨_, rfl⟩
  obtain ⟨LL, hLL⟩ : ∃ LL, l.length = LL := ⟨_, rfl⟩
  rw [hLL] at HAN2 ⊢
  rw [hM] at ix HAN2
  rw [hGG] at HAN2
  rw [hNX] at cn
  rw [hOW] at co
  rw [hM, hGG]
  have hMO : M ≠ OW := by omega
  have e1 : (M == OW) = false := by simpa using hMO
  have hG0 : 0 ≤ G := by omega
  have hG1 : G ≤ 65535 := by omega
  have hN0 : 0 ≤ NX := by omega
  have hN1 : NX ≤ 65536 := by omega
  have HCM : Hid ((G < NX ↔ g < (st.m m).next) ∧ G - NX ≤ 5) := ⟨by omega, by omega⟩
  have hbl := hh.lt
  obtain ⟨w1, hw1⟩ : ∃ w1, w.alloc (.cells #[.int .i64 M, .int .i64 G] 123) = w1 := ⟨_, rfl⟩
  have b1 : Below w.heap.size w w1 := by rw [← hw1]; exact (Below.refl _ w).alloc (Nat.le_refl _) _
  have k1 : w1.heap[w.heap.size]? = some (.cells #[.int .i64 M, .int .i64 G] 123 (0, 0)) := by rw [← hw1]; exact (MapKept.heap_alloc _ _).1
  have hA : ∀ o, w1.cell? ⟨w.heap.size, o, none⟩ = #[Value.int .i64 M, .int .i64 G][o]? := fun o => cell_of_row _ _ _ _ _ _ k1
  have cn1 : w1.cell? ⟨b, P + 1, none⟩ = some (.int .i64 NX) := by rw [b1.cell (p := ⟨b, P + 1, none⟩) hbl]; exact cn
  have co1 : w1.cell? ⟨b, 6, none⟩ = some (.int .i64 OW) := by rw [b1.cell (p := ⟨b, 6, none⟩) hbl]; exact co
  have HB : Hid (Below w.heap.size w w1) := b1
  have HW : Hid (w.alloc (.cells #[.int .i64 M, .int .i64 G] 123) = w1) := hw1
  clear hh hG hk cn co hM hGG hNX hOW hP b1 k1 hw1 hnx hbl h16 ok hm hg hle h5 hl hfl hnb hc h7 h47 hLL hBb hpb asc hmo hMO
  by_cases hlt : G < NX
  · have HAN3 := fun W hW => (HAN2.out W hW).1 (HCM.out.1.1 hlt)
    have HAN4 : Hid (∀ W, Below w.heap.size w W → Calls Tryz.prog 125 #[.pointer (some ⟨b, 0, none⟩), .agg #[.int .i64 M, .int .i64 G], .slice (some ⟨fb, fo, none⟩) LL c] W fun e w' => ∃ v u, e = .returned (.tuple #[v, u]) ∧ Hid (POST v u w')) := HAN3
    clear HAN2 HAN3
    go_enter Tryz.func92, Tryz.ntmps92
    go_upto_region 1 with fail
    rw [HW.out]
    go_quiet (fail)
    go_upto_region 2 with fail
    go_quiet (fail)
    go_wp2_with fail
    refine (HAN4.out _ (below_drewQ HB.out _)).mono ?_
    rintro e w2 ⟨v, u, rfl, hp⟩
    clear HAN4 hA cn1 co1
    go_wp2_with fail
    go_ret2
    exact ⟨v, u, rfl, hp.out⟩
  · have HAN3 := fun W hW => (HAN2.out W hW).2 (fun h => hlt (HCM.out.1.2 h))
    have HAN4 : Hid (∀ W, Below w.heap.size w W → Calls Tryz.prog 126 #[.pointer (some ⟨b, 0, none⟩), .agg #[.int .i64 M, .int .i64 G], .slice (some ⟨fb, fo, none⟩) LL c] W fun e w' => ∃ v u, e = .returned (.tuple #[v, u]) ∧ Hid (POST v u w')) := HAN3
    have h5' : ¬ 5 < G - NX := by have := HCM.out.2; omega
    clear HAN2 HAN3
    go_enter Tryz.func92, Tryz.ntmps92
    go_upto_region 1 with fail
    rw [HW.out]
    go_quiet (fail)
    go_upto_region 2 with fail
    go_quiet (fail)
    go_wp2_with fail
    refine (HAN4.out _ (below_drewQ HB.out _)).mono ?_
    rintro e w2 ⟨v, u, rfl, hp⟩
    clear HAN4 hA cn1 co1
    go_wp2_with fail
    go_ret2
    exact ⟨v, u, rfl, hp.out⟩
end Go.Proofs.YtkpebabbnndopaaGreatDoor
