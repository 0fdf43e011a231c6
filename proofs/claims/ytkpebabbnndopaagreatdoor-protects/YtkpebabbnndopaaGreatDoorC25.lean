import Derived.Test.YtkpebabbnndopaaGreatDoorC24
import Derived.WalkKit
import Derived.WalkSpells
import Derived.WalkLawsBesides
import Derived.Deep.WholeRow
import Derived.Deep.QuietTactic
import Derived.BigQuiet
import Derived.BigRegion
import Derived.Test.YtkpebabbnndopaaGreatDoorC15
import Derived.Test.YtkpebabbnndopaaGreatDoorC02
import Derived.Test.YtkpebabbnndopaaGreatDoorC09
import Derived.Test.YtkpebabbnndopaaGreatDoorC04
import Derived.Deep.DeepCutAuto
/- openAhead: what it leaves. -/
namespace Go.Proofs.YtkpebabbnndopaaGreatDoor
open Go.RowKit
set_option linter.unusedVariables false

/-- what opening leaves: st' behind what opens -/
def OpenedTo (w : World) (b pm : Nat) (st st' : St) (wk N : Nat) (B : PlI → Nat) (l : List UInt8) (K : Nat → Int) (e : Ending) (w' : World) : Prop :=
  ∃ n cs', (0 < n ∧ n ≤ N) ∧ Home (some b) b 112 cs' w' ∧
    ((OpenOk K (l.take 3) (l.drop 3) = false ∧ e = .returned (.tuple #[.slice none 0 0, faultV 7 strSeal]) ∧ Outside [b] w w' ∧ GrpAt cs' st (wk + n) pm 1 ∧ KeepAt w' pm (keptL st st.n) B st.keyP) ∨
     (OpenOk K (l.take 3) (l.drop 3) = true ∧ Outside (b :: pm :: (keptL st st.n).map B) w w' ∧ GrpAt cs' st' (wk + n) pm 1 ∧ ∃ B' f, KeepAt w' pm (keptL st' st.n) B' st.keyP ∧ (∀ x, x ∈ keptL st' st.n → (x ∈ keptL st st.n ∧ B' x = B x) ∨ w.heap.size ≤ B' x) ∧ (∀ x, x ∈ keptL st' st.n → B' x ≠ f) ∧
       e = .returned (.tuple #[.slice (some ⟨f, 0, none⟩) (l.length - 7) (l.length - 7), .nilIface]) ∧ w.heap.size ≤ f ∧ w'.heap[f]? = some (.cells (RowB (OpenT K (l.drop 3)) (l.length - 7)) 5 (0, 0))))
theorem ahead_any {w : World} {b : Nat} {cs : Array Value} {st : St} {wk pm : Nat} {m g : Nat} {B : PlI → Nat} (ok : st.Ok) (asc : Asc st) (hm : m < st.n) (hle : (st.m m).next ≤ g) (h5 : g - (st.m m).next ≤ 5) (hg : g ≤ 65535)
    (hh : Home (some b) b 112 cs w) (hG : GrpAt cs st wk pm 1) (hk : KeepAt w pm (keptL st st.n) B st.keyP) (hpb : pm ≠ b) (hBb : ∀ y, y ∈ keptL st st.n → B y ≠ b) (fb fo c : Nat) (l : List UInt8) (h7 : 7 ≤ l.length) (h47 : l.length ≤ 47) (hc : l.length ≤ c) (hl : ∀ i (h : i < l.length), w.cell? ⟨fb, fo + i, none⟩ = some (cellB l[i])) (hnb : b ≠ fb) :
    Calls Tryz.prog 126 #[.pointer (some ⟨b, 0, none⟩), .agg #[.int .i64 m, .int .i64 g], .slice (some ⟨fb, fo, none⟩) l.length c] w fun e w' => OpenedTo w b pm st (st.passTo m g) wk (2 * DepB 16 st.n m + 4 + 2 * (g - (st.m m).next) + l.length / 8) B l (st.keyAt m g) e w' := by
  have hb0 := hh.lt
  have hpl := hk.lt
  have hBl : ∀ y, y ∈ keptL st st.n → B y < w.heap.size := fun y hy => (Array.getElem?_eq_some_iff.1 (hk.row y hy)).1
  have hkW : ∀ {W : World}, Outside [b] w W → KeepAt W pm (keptL st st.n) B st.keyP := fun {W} ho => hk.keep fun k hk hm => ho.block k hk (by
    rcases hm with rfl | hm
    · simpa using hpb
    · obtain ⟨y, hy, rfl⟩ := List.mem_map.1 hm
      simpa using hBb y hy)
  refine (ahead_raw ok hm hle h5 hg hh hG fb fo c l h7 h47 hc hl hnb (fun n W W' => w.heap.size + 1 < W.heap.size ∧ Outside [b] w W ∧ Settled W b (w.heap.size + 1) pm st (wk + n) m g B W') (fun W n ct pl hA hT ho => ?_) (fun n W W' hR => ?_)).mono fun e w' ⟨n, kb, W, ct, pl, hn, hA, hkb1, hkb2, hcase⟩ => ?_
  · obtain ⟨cs3, h3, m3⟩ := hA.home
    refine (settle_any ok asc hm hle hg h3 (hG.tick m3) (hA.trial hT.size) (by omega) hT ho (hkW hA.out) hpb (by omega) (fun y hy => ⟨hBb y hy, by have := hBl y hy; omega⟩)).mono fun e w' ⟨h1, h2⟩ => ⟨h1, (Array.getElem?_eq_some_iff.1 hA.row).1, hA.out, h2⟩
  · obtain ⟨hlt, hO, csN, ct', n2, B', _, _, _, h4, h5', _, _, h8⟩ := hR
    refine ⟨fun k h1 h2 h3 => h8.block k h2 (fun hm => ?_), ct', h4, h5'⟩
    simp only [List.mem_cons] at hm
    rcases hm with rfl | rfl | rfl | hm
    · omega
    · exact h3 rfl
    · omega
    · obtain ⟨y, hy, rfl⟩ := List.mem_map.1 hm
      have := hBl y hy
      omega
  · have hoth : ∀ (W : World) (r1 r2 : Array Value) (k : Nat), k ≠ kb → k ≠ w.heap.size + 1 → ((W.setRow kb r1).setRow (w.heap.size + 1) r2).heap[k]? = W.heap[k]? := fun W r1 r2 k h1 h2 => by
      rw [setRow_other _ _ _ _ h2, setRow_other _ _ _ _ h1]
    rcases hcase with ⟨h1, h2, h3⟩ | ⟨h1, f, W', h2, h3, h4, h6, h8, ⟨_, _, hS⟩, h9⟩
    · obtain ⟨cs3, x3, m3⟩ := hA.home
      have ho : Outside [b] w w' := by rw [h3]; exact (hA.out.setRow kb (fun hl => by omega) _).setRow _ (fun hl => by omega) _
      refine ⟨n, cs3, ⟨hn.1, by omega⟩, Home.own (by rw [h3, hoth W _ _ b (by omega) (by omega)]; exact x3.row) x3.cnt, .inl ⟨h1, h2, ho, hG.tick m3, hkW ho⟩⟩
    · obtain ⟨csN, ct', n2, B', s1, s2, s3, s4, s5, s6, s7, s8⟩ := hS
      have hzW : w.heap.size ≤ W.heap.size := hA.out.size
      have hbn : b ≠ kb ∧ b ≠ w.heap.size + 1 := ⟨by omega, by omega⟩
      have hk' : KeepAt w' pm (keptL (st.passTo m g) st.n) B' st.keyP := s6.keep fun k hk hm => by
        rw [h9]
        refine hoth W' _ _ k ?_ ?_
        · rcases hm with rfl | hm
          · omega
          · obtain ⟨y, hy, rfl⟩ := List.mem_map.1 hm
            rcases s7 y hy with ⟨q1, q2⟩ | q1
            · have := hBl y q1; omega
            · omega
        · rcases hm with rfl | hm
          · omega
          · obtain ⟨y, hy, rfl⟩ := List.mem_map.1 hm
            rcases s7 y hy with ⟨q1, q2⟩ | q1
            · have := hBl y q1; omega
            · omega
      refine ⟨n + n2, csN, ⟨by omega, by omega⟩, Home.own (by rw [h9, hoth W' _ _ b hbn.1 hbn.2]; exact s2.row) s2.cnt, .inr ⟨h1, ?_, by rw [← Nat.add_assoc]; exact s3, B', f, hk', fun x hx => ?_, fun x hx => ?_, h2, by omega, ?_⟩⟩
      · rw [h9]
        refine ((((hA.out.mono (S' := b :: pm :: (keptL st st.n).map B) (fun i hi _ => by simp at hi; simp [hi])).trans s8 (fun i hi hl => ?_)).setRow kb (fun hl => by omega) _).setRow _ (fun hl => by omega) _)
        simp only [List.mem_cons] at hi ⊢
        rcases hi with h | h | h
        · exact .inl h
        · omega
        · exact .inr h
      · rcases s7 x hx with q | q
        · exact .inl q
        · exact .inr (by omega)
      · rcases s7 x hx with ⟨q1, q2⟩ | q
        · have := hBl x q1; omega
        · omega
      · rw [h9, hoth W' _ _ f h6 (by omega), s8.block f h4 (fun hm => ?_)]
        · exact h8
        · simp only [List.mem_cons] at hm
          rcases hm with rfl | rfl | rfl | hm
          · omega
          · omega
          · omega
          · obtain ⟨y, hy, rfl⟩ := List.mem_map.1 hm
            have := hBl y hy
            omega
/-- openBehind, of a key that is kept -/
theorem behind_any {w : World} {b : Nat} {cs : Array Value} {st : St} {wk pm : Nat} {m g : Nat} {B : PlI → Nat} (ok : st.Ok) (asc : Asc st) (hm : m < st.n) (hov : g ∈ (st.m m).over)
    (hh : Home (some b) b 112 cs w) (hG : GrpAt cs st wk pm 1) (hk : KeepAt w pm (keptL st st.n) B st.keyP) (hpb : pm ≠ b) (hBb : ∀ y, y ∈ keptL st st.n → B y ≠ b) (fb fo c : Nat) (l : List UInt8) (h7 : 7 ≤ l.length) (h47 : l.length ≤ 47) (hc : l.length ≤ c) (hl : ∀ i (h : i < l.length), w.cell? ⟨fb, fo + i, none⟩ = some (cellB l[i])) (hnb : b ≠ fb) :
    Calls Tryz.prog 125 #[.pointer (some ⟨b, 0, none⟩), .agg #[.int .i64 m, .int .i64 g], .slice (some ⟨fb, fo, none⟩) l.length c] w fun e w' => OpenedTo w b pm st (st.useKey m g) wk (l.length / 8 + 1) B l (st.keyAt m g) e w' := by
  have hx : (((m : Int), (g : Int)) : PlI) ∈ keptL st st.n := keptL_pair.2 ⟨hm, hov⟩
  have hBl : ∀ y, y ∈ keptL st st.n → B y < w.heap.size := fun y hy => (Array.getElem?_eq_some_iff.1 (hk.row y hy)).1
  refine (behind_yes hk hh hG.passed (fun e => hpb e.symm) hBb ((m : Int), (g : Int)) hx (DerB_bd _ _ _) fb fo c l h7 h47 hc hl hnb).mono fun e w' ⟨cs', n, hn, hmv, hho, hcase⟩ => ⟨n, cs', hn, hho, ?_⟩
  have hGn := hG.tick hmv
  rcases hcase with ⟨h1, h2, h3, h4⟩ | ⟨h1, h2, h3, f, h4, h6, h8⟩
  · exact .inl ⟨h1, h2, h3, hGn, h4⟩
  · have hp := erase_perm ok asc (g := g) hm
    have hsub : ∀ x, x ∈ keptL (st.useKey m g) st.n → x ∈ keptL st st.n := fun x hx => List.mem_of_mem_erase (hp.mem_iff.2 hx)
    refine .inr ⟨h1, h2.mono (fun i hi _ => ?_), ?_, B, f, h3.perm hp, fun x hx => .inl ⟨hsub x hx, rfl⟩, fun x hx e => ?_, h4, h6, h8⟩
    · simp only [List.mem_cons, List.not_mem_nil, or_false] at hi
      rcases hi with rfl | rfl | rfl
      · simp
      · simp
      · simp only [List.mem_cons]
        exact .inr (.inr (List.mem_map.2 ⟨_, hx, rfl⟩))
    · have hun := useKey_m ok hm g
      have hbg : (st.m m).begun = true := by
        cases hb : (st.m m).begun with
        | true => rfl
        | false =>
          have := ((ok.m m).2.2.2 hb).2
          rw [this] at hov; cases hov
      have hp2 : ∀ f t, (st.useKey m g).parts 16 f t = st.parts 16 f t := parts_same (st := st) (st' := st.useKey m g) rfl rfl (fun i => by rw [hun]; split <;> simp_all) 16
      refine ⟨hGn.size, hGn.members, hGn.own, hGn.over, ?_, fun i hi => ?_, hGn.passed, hGn.cnt, hGn.ones, hGn.head⟩
      · show TreeAt cs' 8 (((st.useKey m g).parts 16 0 st.n).map itPart)
        rw [hp2]; exact hGn.tree
      · have e1 : ((st.useKey m g).m i).begun = (st.m i).begun := by rw [hun]; split <;> simp_all
        have e2 : ((st.useKey m g).m i).next = (st.m i).next := by rw [hun]; split <;> simp_all
        have e3 : (st.useKey m g).ratS i = st.ratS i := by unfold St.ratS; rw [e1, e2]; rfl
        rw [e1, e2, e3]
        exact hGn.rat i hi
    · have := hBl x (hsub x hx)
      omega
end Go.Proofs.YtkpebabbnndopaaGreatDoor

/- openAt. -/
namespace Go.Proofs.YtkpebabbnndopaaGreatDoor
open Go.RowKit
set_option linter.unusedVariables false
set_option linter.unusedSimpArgs false

theorem OpenedTo.from {w0 w : World} {b pm : Nat} {st st' : St} {wk N N' : Nat} {B : PlI → Nat} {l : List UInt8} {K : Nat → Int} {e : Ending} {w' : World} (h : OpenedTo w b pm st st' wk N B l K e w') (hb : Below w0.heap.size w0 w) (hN : N ≤ N') : OpenedTo w0 b pm st st' wk N' B l K e w' := by
  obtain ⟨n, cs', hn, hh, hc⟩ := h
  have hz := hb.size
  refine ⟨n, cs', ⟨hn.1, by omega⟩, hh, ?_⟩
  rcases hc with ⟨h1, h2, h3, h4, h5⟩ | ⟨h1, h2, h3, B', f, h4, h5, h6, h7, h8, h9⟩
  · exact .inl ⟨h1, h2, (Outside.ofBelow hb).trans h3 (fun _ hi _ => hi), h4, h5⟩
  · refine .inr ⟨h1, (Outside.ofBelow hb).trans h2 (fun _ hi _ => hi), h3, B', f, h4, fun x hx => ?_, h6, h7, by omega, h9⟩
    rcases h5 x hx with q | q
    · exact .inl q
    · exact .inr (by omega)
set_option maxHeartbeats 2000000 in
set_option maxRecDepth 20000 in
theorem openAt_no {w : World} {b : Nat} {cs : Array Value} {st : St} {wk pm : Nat} {m g : Nat} {B : PlI → Nat} {E : Int} (ok : st.Ok) (hm : m < st.n) (hg : g ≤ 65535)
    (hh : Home (some b) b 112 cs w) (hG : GrpAt cs st wk pm 1) (hk : KeepAt w pm (keptL st st.n) B st.keyP) (sv : Value)
    (hE : (m = st.own ∧ E = 4) ∨ (m ≠ st.own ∧ g < (st.m m).next ∧ g ∉ (st.m m).over ∧ E = 5) ∨ (m ≠ st.own ∧ ¬ g < (st.m m).next ∧ (st.m m).next + 5 < g ∧ E = 6)) :
    Calls Tryz.prog 92 #[.pointer (some ⟨b, 0, none⟩), .agg #[.int .i64 m, .int .i64 g], sv] w fun e w' => ∃ s, e = .returned (.tuple #[.slice none 0 0, faultV E s]) ∧ Below w.heap.size w w' := by
  have h16 : m < 16 := by have := ok.n16; omega
  have ix := ratIndex b m h16
  have hnx := (ok.m m).1
  obtain ⟨P, hP⟩ : ∃ P, 169 + m * 10 = P := ⟨_, rfl⟩
  rw [hP] at ix
  have cn := ((hG.rat m h16).facts hh).2.1
  rw [hP] at cn
  have co : w.cell? ⟨b, 6, none⟩ = some (.int .i64 st.own) := by rw [hh.cells.1]; exact hG.own
  have HBN : Hid (g < (st.m m).next → g ∉ (st.m m).over → ∀ W, Below w.heap.size w W → Calls Tryz.prog 125 #[.pointer (some ⟨b, 0, none⟩), .agg #[.int .i64 m, .int .i64 g], sv] W fun e w' => ∃ s, e = .returned (.tuple #[.slice none 0 0, faultV 5 s]) ∧ Below W.heap.size W w') := fun _ h2 W hW =>
    behind_no (hk.below hW) (by rw [(hh.below hW).cells.1]; exact hG.passed) ((m : Int), (g : Int)) (pl_wf h16 (by omega)) (fun hx => h2 (keptL_pair.1 hx).2) sv
  obtain ⟨M, hM⟩ : ∃ M : Int, (m : Int) = M := ⟨_, rfl⟩
  obtain ⟨G, hGG⟩ : ∃ G : Int, (g : Int) = G := ⟨_, rfl⟩
  obtain ⟨NX, hNX⟩ : ∃ NX : Int, ((st.m m).next : Int) = NX := ⟨_, rfl⟩
  obtain ⟨OW, hOW⟩ : ∃ OW : Int, (st.own : Int) = OW := ⟨_, rfl⟩
  rw [hM] at ix HBN
  rw [hGG] at HBN
  rw [hNX] at cn
  rw [hOW] at co
  rw [hM, hGG]
  have hE2 : (M = OW ∧ E = 4) ∨ (M ≠ OW ∧ G < NX ∧ (g < (st.m m).next ∧ g ∉ (st.m m).over) ∧ E = 5) ∨ (M ≠ OW ∧ ¬ G < NX ∧ 5 < G - NX ∧ E = 6) := by
    rcases hE with ⟨h1, h2⟩ | ⟨h1, h2, h3, h4⟩ | ⟨h1, h2, h3, h4⟩
    · exact .inl ⟨by omega, h2⟩
    · exact .inr (.inl ⟨by omega, by omega, ⟨h2, h3⟩, h4⟩)
    · exact .inr (.inr ⟨by omega, by omega, by omega, h4⟩)
  have hG0 : 0 ≤ G := by omega
  have hG1 : G ≤ 65535 := by omega
  have hN0 : 0 ≤ NX := by omega
  have hN1 : NX ≤ 65536 := by omega
  have hbl := hh.lt
  obtain ⟨w1, hw1⟩ : ∃ w1, w.alloc (.cells #[.int .i64 M, .int .i64 G] 123) = w1 := ⟨_, rfl⟩
  have b1 : Below w.heap.size w w1 := by rw [← hw1]; exact (Below.refl _ w).alloc (Nat.le_refl _) _
  have k1 : w1.heap[w.heap.size]? = some (.cells #[.int .i64 M, .int .i64 G] 123 (0, 0)) := by rw [← hw1]; exact (MapKept.heap_alloc _ _).1
  have hA : ∀ o, w1.cell? ⟨w.heap.size, o, none⟩ = #[Value.int .i64 M, .int .i64 G][o]? := fun o => cell_of_row _ _ _ _ _ _ k1
  have cn1 : w1.cell? ⟨b, P + 1, none⟩ = some (.int .i64 NX) := by rw [b1.cell (p := ⟨b, P + 1, none⟩) hbl]; exact cn
  have co1 : w1.cell? ⟨b, 6, none⟩ = some (.int .i64 OW) := by rw [b1.cell (p := ⟨b, 6, none⟩) hbl]; exact co
  have HB : Hid (Below w.heap.size w w1) := b1
  have HW : Hid (w.alloc (.cells #[.int .i64 M, .int .i64 G] 123) = w1) := hw1
  clear hh hG hk cn co hM hGG hNX hOW hP b1 k1 hw1 hE hnx hbl h16 ok hm hg
  rcases hE2 with ⟨h1, rfl⟩ | ⟨h1, h2, h3, rfl⟩ | ⟨h1, h2, h3, rfl⟩
  · subst h1
    clear HBN
    go_enter Tryz.func92, Tryz.ntmps92
    go_upto_region 1 with fail
    rw [HW.out]
    go_quiet (fail)
    go_upto_region 2 with fail
    go_quiet (fail)
    go_wp2_with fail
    go_ret2
    exact ⟨_, rfl, by first | exact below_drewQ HB.out _ | exact below_drewQ (below_drewQ HB.out _) _⟩
  · have e1 : (M == OW) = false := by simpa using h1
    have HBN2 := HBN.out h3.1 h3.2
    have HB2 : Hid (∀ W, Below w.heap.size w W → Calls Tryz.prog 125 #[.pointer (some ⟨b, 0, none⟩), .agg #[.int .i64 M, .int .i64 G], sv] W fun e w' => ∃ s, e = .returned (.tuple #[.slice none 0 0, faultV 5 s]) ∧ Below w.heap.size w w') := fun W hW => (HBN2 W hW).mono fun e w' ⟨s, h8, h9⟩ => ⟨s, h8, hW.trans (h9.mono hW.size)⟩
    clear HBN HBN2 h3 h1
    go_enter Tryz.func92, Tryz.ntmps92
    go_upto_region 1 with fail
    rw [HW.out]
    go_quiet (fail)
    go_upto_region 2 with fail
    go_quiet (fail)
    go_wp2_with fail
    refine (HB2.out _ (below_drewQ HB.out _)).mono ?_
    rintro e w2 ⟨s, rfl, b2⟩
    have HF : Hid (Below w.heap.size w w2) := b2
    clear b2 HB2 hA cn1 co1
    go_wp2_with fail
    go_ret2
    exact ⟨s, rfl, HF.out⟩
  · have e1 : (M == OW) = false := by simpa using h1
    clear HBN h1
    go_enter Tryz.func92, Tryz.ntmps92
    go_upto_region 1 with fail
    rw [HW.out]
    go_quiet (fail)
    go_upto_region 2 with fail
    go_quiet (fail)
    go_wp2_with fail
    go_ret2
    first | exact ⟨_, rfl, below_drewQ HB.out _⟩ | exact ⟨⟨_, rfl⟩, below_drewQ HB.out _⟩
set_option maxHeartbeats 2000000 in
set_option maxRecDepth 20000 in
theorem openAt_try {w : World} {b : Nat} {cs : Array Value} {st : St} {wk pm : Nat} {m g : Nat} {B : PlI → Nat} (ok : st.Ok) (asc : Asc st) (hm : m < st.n) (hmo : m ≠ st.own) (hle : g < (st.m m).next → g ∈ (st.m m).over) (h5 : g ≤ (st.m m).next + 5) (hg : g ≤ 65535)
    (hh : Home (some b) b 112 cs w) (hG : GrpAt cs st wk pm 1) (hk : KeepAt w pm (keptL st st.n) B st.keyP) (hpb : pm ≠ b) (hBb : ∀ y, y ∈ keptL st st.n → B y ≠ b) (fb fo c : Nat) (l : List UInt8) (h7 : 7 ≤ l.length) (h47 : l.length ≤ 47) (hc : l.length ≤ c) (hl : ∀ i (h : i < l.length), w.cell? ⟨fb, fo + i, none⟩ = some (cellB l[i])) (hnb : b ≠ fb) :
    Calls Tryz.prog 92 #[.pointer (some ⟨b, 0, none⟩), .agg #[.int .i64 m, .int .i64 g], .slice (some ⟨fb, fo, none⟩) l.length c] w fun e w' => ∃ v u, e = .returned (.tuple #[v, u]) ∧ OpenedTo w b pm st (st.setM m (unMem (st.m m) g)) wk (2 * DepB 16 st.n m + 4 + 2 * (g - (st.m m).next) + l.length / 8) B l (st.keyAt m g) (.returned (.tuple #[v, u])) w' := by
  have h16 : m < 16 := by have := ok.n16; omega
  have ix := ratIndex b m h16
  have hnx := (ok.m m).1
  obtain ⟨P, hP⟩ : ∃ P, 169 + m * 10 = P := ⟨_, rfl⟩
  rw [hP] at ix
  have cn := ((hG.rat m h16).facts hh).2.1
  rw [hP] at cn
  have co : w.cell? ⟨b, 6, none⟩ = some (.int .i64 st.own) := by rw [hh.cells.1]; exact hG.own
  obtain ⟨N, hN⟩ : ∃ N, 2 * DepB 16 st.n m + 4 + 2 * (g - (st.m m).next) + l.length / 8 = N := ⟨_, rfl⟩
  have hfl : fb < w.heap.size := block_lt_of_cell (hl 0 (by omega))
  have HAN : Hid (∀ W, Below w.heap.size w W → (g < (st.m m).next → Calls Tryz.prog 125 #[.pointer (some ⟨b, 0, none⟩), .agg #[.int .i64 m, .int .i64 g], .slice (some ⟨fb, fo, none⟩) l.length c] W fun e w' => ∃ v u, e = .returned (.tuple #[v, u]) ∧ Hid (OpenedTo w b pm st (st.setM m (unMem (st.m m) g)) wk N B l (st.keyAt m g) (.returned (.tuple #[v, u])) w')) ∧
      (¬ g < (st.m m).next → Calls Tryz.prog 126 #[.pointer (some ⟨b, 0, none⟩), .agg #[.int .i64 m, .int .i64 g], .slice (some ⟨fb, fo, none⟩) l.length c] W fun e w' => ∃ v u, e = .returned (.tuple #[v, u]) ∧ Hid (OpenedTo w b pm st (st.setM m (unMem (st.m m) g)) wk N B l (st.keyAt m g) (.returned (.tuple #[v, u])) w'))) := fun W hW => by
    have hlW : ∀ i (h : i < l.length), W.cell? ⟨fb, fo + i, none⟩ = some (cellB l[i]) := fun i hi => by rw [hW.cell (p := ⟨fb, fo + i, none⟩) hfl]; exact hl i hi
    have two : ∀ {st' : St} {N' : Nat} {e : Ending} {w' : World}, N' ≤ N → OpenedTo W b pm st st' wk N' B l (st.keyAt m g) e w' → ∃ v u, e = .returned (.tuple #[v, u]) ∧ Hid (OpenedTo w b pm st st' wk N B l (st.keyAt m g) (.returned (.tuple #[v, u])) w') := fun {st' N' e w'} hN' h => by
      have h0 := h.from hW hN'
      have h1 := h0
      obtain ⟨n, cs', _, _, ⟨_, rfl, _⟩ | ⟨_, _, _, B', f, _, _, _, rfl, _⟩⟩ := h1
      · exact ⟨_, _, rfl, h0⟩
      · exact ⟨_, _, rfl, h0⟩
    refine ⟨fun hlt => ?_, fun hge => ?_⟩
    · have hov := hle hlt
      have e1 : st.setM m (unMem (st.m m) g) = st.useKey m g := by unfold unMem St.useKey; rw [if_pos hov]
      rw [e1]
      exact (behind_any ok asc hm hov (hh.below hW) hG (hk.below hW) hpb hBb fb fo c l h7 h47 hc hlW hnb).mono fun e w' h => two (by omega) h
    · have hov : g ∉ (st.m m).over := fun h => hge (asc.below m g h)
      have e1 : st.setM m (unMem (st.m m) g) = st.passTo m g := by unfold unMem St.passTo; rw [if_neg hov]
      rw [e1]
      exact (ahead_any ok asc hm (by omega) (by omega) hg (hh.below hW) hG (hk.below hW) hpb hBb fb fo c l h7 h47 hc hlW hnb).mono fun e w' h => two (by omega) h
  rw [hN]
  obtain ⟨POST, hPOST⟩ : ∃ POST : Value → Value → World → Prop, POST = fun v u w' => OpenedTo w b pm st (st.setM m (unMem (st.m m) g)) wk N B l (st.keyAt m g) (.returned (.tuple #[v, u])) w' := ⟨_, rfl⟩
  have HAN2 : Hid (∀ W, Below w.heap.size w W → (g < (st.m m).next → Calls Tryz.prog 125 #[.pointer (some ⟨b, 0, none⟩), .agg #[.int .i64 m, .int .i64 g], .slice (some ⟨fb, fo, none⟩) l.length c] W fun e w' => ∃ v u, e = .returned (.tuple #[v, u]) ∧ Hid (POST v u w')) ∧
      (¬ g < (st.m m).next → Calls Tryz.prog 126 #[.pointer (some ⟨b, 0, none⟩), .agg #[.int .i64 m, .int .i64 g], .slice (some ⟨fb, fo, none⟩) l.length c] W fun e w' => ∃ v u, e = .returned (.tuple #[v, u]) ∧ Hid (POST v u w'))) := by rw [hPOST]; exact HAN.out
  show Calls Tryz.prog 92 #[.pointer (some ⟨b, 0, none⟩), .agg #[.int .i64 m, .int .i64 g], .slice (some ⟨fb, fo, none⟩) l.length c] w fun e w' => ∃ v u, e = .returned (.tuple #[v, u]) ∧ (fun v u w' => OpenedTo w b pm st (st.setM m (unMem (st.m m) g)) wk N B l (st.keyAt m g) (.returned (.tuple #[v, u])) w') v u w'
  rw [← hPOST]
  clear HAN hPOST hN
  obtain ⟨M, hM⟩ : ∃ M : Int, (m : Int) = M := ⟨_, rfl⟩
  obtain ⟨G, hGG⟩ : ∃ G : Int, (g : Int) = G := ⟨_, rfl⟩
  obtain ⟨NX, hNX⟩ : ∃ NX : Int, ((st.m m).next : Int) = NX := ⟨_, rfl⟩
  obtain ⟨OW, hOW⟩ : ∃ OW : Int, (st.own : Int) = OW := ⟨_, rfl⟩
  obtain ⟨LL, hLL⟩ : ∃ LL, l.length = LL := ⟨_, rfl⟩
  rw [hLL] at HAN2 ⊢
  rw [hM] at ix HAN2
  rw [hGG] at HAN2
  rw [hNX] at cn
  rw [hOW] at co
  rw [hM, hGG]
  have hMO : M ≠ OW := by omega
  have e1 : (M == OW) = false := by simpa using hMO
  have hG0 : 0 ≤ G := by omega
  have hG1 : G ≤ 65535 := by omega
  have hN0 : 0 ≤ NX := by omega
  have hN1 : NX ≤ 65536 := by omega
  have HCM : Hid ((G < NX ↔ g < (st.m m).next) ∧ G - NX ≤ 5) := ⟨by omega, by omega⟩
  have hbl := hh.lt
  obtain ⟨w1, hw1⟩ : ∃ w1, w.alloc (.cells #[.int .i64 M, .int .i64 G] 123) = w1 := ⟨_, rfl⟩
  have b1 : Below w.heap.size w w1 := by rw [← hw1]; exact (Below.refl _ w).alloc (Nat.le_refl _) _
  have k1 : w1.heap[w.heap.size]? = some (.cells #[.int .i64 M, .int .i64 G] 123 (0, 0)) := by rw [← hw1]; exact (MapKept.heap_alloc _ _).1
  have hA : ∀ o, w1.cell? ⟨w.heap.size, o, none⟩ = #[Value.int .i64 M, .int .i64 G][o]? := fun o => cell_of_row _ _ _ _ _ _ k1
  have cn1 : w1.cell? ⟨b, P + 1, none⟩ = some (.int .i64 NX) := by rw [b1.cell (p := ⟨b, P + 1, none⟩) hbl]; exact cn
  have co1 : w1.cell? ⟨b, 6, none⟩ = some (.int .i64 OW) := by rw [b1.cell (p := ⟨b, 6, none⟩) hbl]; exact co
  have HB : Hid (Below w.heap.size w w1) := b1
  have HW : Hid (w.alloc (.cells #[.int .i64 M, .int .i64 G] 123) = w1) := hw1
  clear hh hG hk cn co hM hGG hNX hOW hP b1 k1 hw1 hnx hbl h16 ok hm hg hle h5 hl hfl hnb hc h7 h47 hLL hBb hpb asc hmo hMO
  by_cases hlt : G < NX
  · have HAN3 := fun W hW => (HAN2.out W hW).1 (HCM.out.1.1 hlt)
    have HAN4 : Hid (∀ W, Below w.heap.size w W → Calls Tryz.prog 125 #[.pointer (some ⟨b, 0, none⟩), .agg #[.int .i64 M, .int .i64 G], .slice (some ⟨fb, fo, none⟩) LL c] W fun e w' => ∃ v u, e = .returned (.tuple #[v, u]) ∧ Hid (POST v u w')) := HAN3
    clear HAN2 HAN3
    go_enter Tryz.func92, Tryz.ntmps92
    go_upto_region 1 with fail
    rw [HW.out]
    go_quiet (fail)
    go_upto_region 2 with fail
    go_quiet (fail)
    go_wp2_with fail
    refine (HAN4.out _ (below_drewQ HB.out _)).mono ?_
    rintro e w2 ⟨v, u, rfl, hp⟩
    clear HAN4 hA cn1 co1
    go_wp2_with fail
    go_ret2
    exact ⟨v, u, rfl, hp.out⟩
  · have HAN3 := fun W hW => (HAN2.out W hW).2 (fun h => hlt (HCM.out.1.2 h))
    have HAN4 : Hid (∀ W, Below w.heap.size w W → Calls Tryz.prog 126 #[.pointer (some ⟨b, 0, none⟩), .agg #[.int .i64 M, .int .i64 G], .slice (some ⟨fb, fo, none⟩) LL c] W fun e w' => ∃ v u, e = .returned (.tuple #[v, u]) ∧ Hid (POST v u w')) := HAN3
    have h5' : ¬ 5 < G - NX := by have := HCM.out.2; omega
    clear HAN2 HAN3
    go_enter Tryz.func92, Tryz.ntmps92
    go_upto_region 1 with fail
    rw [HW.out]
    go_quiet (fail)
    go_upto_region 2 with fail
    go_quiet (fail)
    go_wp2_with fail
    refine (HAN4.out _ (below_drewQ HB.out _)).mono ?_
    rintro e w2 ⟨v, u, rfl, hp⟩
    clear HAN4 hA cn1 co1
    go_wp2_with fail
    go_ret2
    exact ⟨v, u, rfl, hp.out⟩
end Go.Proofs.YtkpebabbnndopaaGreatDoor

/- placeIn. -/
namespace Go.Proofs.YtkpebabbnndopaaGreatDoor
open Go.RowKit
set_option linter.unusedVariables false
set_option linter.unusedSimpArgs false

theorem or_by (a b : Nat) (ha : a < 256) (hb : b < 256) : bits .or .i64 ((a : Int) * 256) (b : Int) = ((a * 256 + b : Nat) : Int) := by
  have h1 : (BitVec.ofInt 64 ((a : Int) * 256)).toNat = a * 256 := by rw [BitVec.toNat_ofInt]; omega
  have h2 : (BitVec.ofInt 64 (b : Int)).toNat = b := by rw [BitVec.toNat_ofInt]; omega
  have h3 : (BitVec.ofInt 64 ((a : Int) * 256) ||| BitVec.ofInt 64 (b : Int)).toNat = a * 256 + b := by
    rw [BitVec.toNat_or, h1, h2]
    have := Nat.two_pow_add_eq_or_of_lt (i := 8) (b := b) (by omega) a
    rw [Nat.mul_comm a 256]
    exact this.symm
  show IntKind.i64.wrap ((BitVec.ofInt 64 ((a : Int) * 256) ||| BitVec.ofInt 64 (b : Int)).toNat : Nat) = _
  rw [h3, IntKind.wrap_i64]
  omega
theorem row2 {w : World} {r : Nat} {x y : Value} {t : TypeId} (h : w.heap[r]? = some (.cells #[x, y] t (0, 0))) (a b : Value) : ((w.setCell ⟨r, 0, none⟩ a).setCell ⟨r, 1, none⟩ b).heap[r]? = some (.cells #[a, b] t (0, 0)) := by
  rw [setCell_eq_setRow w r 0 _ t (0, 0) a h, setCell_eq_setRow _ r 1 _ t (0, 0) b (setRow_heap _ _ _ _ _ _ h)]
  exact setRow_heap _ _ _ _ _ _ (setRow_heap _ _ _ _ _ _ h)
theorem place_bad (a : Option Addr) (n c : Nat) (m : Int) (hn : n < 7 ∨ 47 < n) (w : World) :
    Calls Tryz.prog 91 #[.slice a n c, .int .i64 m] w fun e w' => ∃ s, e = .returned (.tuple #[encP (0, 0), faultV 3 s]) ∧ Below w.heap.size w w' := by
  have e := (MapKept.heap_alloc w (.cells #[.int .i64 0, .int .i64 0] 123)).1
  by_cases h : n < 7
  · have h1 : (n : Int) < 7 := by omega
    have d1 : decide ((n : Int) < 7) = true := by simp; omega
    clear h hn
    go_enter Tryz.func91, Tryz.ntmps91
    go_wp2_with fail
    exact bodyPost_ret (v := .tuple #[.agg #[.int .i64 0, .int .i64 0], faultV 3 _]) (results_row_tmp rfl _ _ w.heap.size 123 #[.int .i64 0, .int .i64 0] (0, 0) _ _ rfl rfl e Tryz.underlying123 rfl (by kernel_rfl)) rfl (by first | exact ⟨_, rfl, (Below.refl _ w).alloc (Nat.le_refl _) _⟩ | exact ⟨⟨_, rfl⟩, (Below.refl _ w).alloc (Nat.le_refl _) _⟩)
  · have h1 : ¬ (n : Int) < 7 := by omega
    have h2 : (47 : Int) < n := by omega
    have d1 : decide ((n : Int) < 7) = false := by simp; omega
    have d2 : decide ((47 : Int) < n) = true := by simp; omega
    clear h hn
    go_enter Tryz.func91, Tryz.ntmps91
    go_wp2_with fail
    exact bodyPost_ret (v := .tuple #[.agg #[.int .i64 0, .int .i64 0], faultV 3 _]) (results_row_tmp rfl _ _ w.heap.size 123 #[.int .i64 0, .int .i64 0] (0, 0) _ _ rfl rfl e Tryz.underlying123 rfl (by kernel_rfl)) rfl (by first | exact ⟨_, rfl, (Below.refl _ w).alloc (Nat.le_refl _) _⟩ | exact ⟨⟨_, rfl⟩, (Below.refl _ w).alloc (Nat.le_refl _) _⟩)
set_option maxHeartbeats 2000000 in
theorem place_any (fb fo c : Nat) (l : List UInt8) (h7 : 7 ≤ l.length) (h47 : l.length ≤ 47) (hc : l.length ≤ c) (n : Nat) (h1 : 1 ≤ n) (h16 : n ≤ 16) (w : World) (hl : ∀ i (h : i < l.length), w.cell? ⟨fb, fo + i, none⟩ = some (.int .u8 (l[i].toNat : Int))) :
    Calls Tryz.prog 91 #[.slice (some ⟨fb, fo, none⟩) l.length c, .int .i64 n] w fun e w' => Below w.heap.size w w' ∧ ((n ≤ unWho l ∧ ∃ s, e = .returned (.tuple #[encP (0, 0), faultV 3 s])) ∨ (unWho l < n ∧ e = .returned (.tuple #[encP (unWho l, unGen l), .nilIface]))) := by
  have hlt : fb < w.heap.size := block_lt_of_cell (hl 0 (by omega))
  obtain ⟨B1, hB1⟩ : ∃ B1, (l.getD 1 0).toNat = B1 := ⟨_, rfl⟩
  obtain ⟨B2, hB2⟩ : ∃ B2, (l.getD 2 0).toNat = B2 := ⟨_, rfl⟩
  have hb1 : B1 < 256 := by rw [← hB1]; exact (l.getD 1 0).toNat_lt
  have hb2 : B2 < 256 := by rw [← hB2]; exact (l.getD 2 0).toNat_lt
  have hgen : unGen l = B1 * 256 + B2 := by unfold unGen; rw [hB1, hB2]
  have hor := or_by B1 B2 hb1 hb2
  rw [← hgen] at hor
  have hwl := unWho_lt l
  obtain ⟨w0, hw0⟩ : ∃ w0, w.alloc (.cells #[.int .i64 0, .int .i64 0] 123) = w0 := ⟨_, rfl⟩
  have b0 : Below w.heap.size w w0 := by rw [← hw0]; exact (Below.refl _ w).alloc (Nat.le_refl _) _
  have k0 : w0.heap[w.heap.size]? = some (.cells #[.int .i64 0, .int .i64 0] 123 (0, 0)) := by rw [← hw0]; exact (MapKept.heap_alloc _ _).1
  have c0 : w0.cell? ⟨fb, fo, none⟩ = some (.int .u8 (unWho l : Int)) := by
    rw [b0.cell (p := ⟨fb, fo, none⟩) hlt]
    have := hl 0 (by omega)
    rw [Nat.add_zero] at this
    rw [this]
    unfold unWho
    rw [List.getD_eq_getElem?_getD, List.getElem?_eq_getElem (by omega)]
    rfl
  have c1 : w0.cell? ⟨fb, fo + 1, none⟩ = some (.int .u8 (B1 : Int)) := by
    rw [b0.cell (p := ⟨fb, fo + 1, none⟩) hlt, hl 1 (by omega), ← hB1, List.getD_eq_getElem?_getD, List.getElem?_eq_getElem (by omega)]
    rfl
  have c2 : w0.cell? ⟨fb, fo + 2, none⟩ = some (.int .u8 (B2 : Int)) := by
    rw [b0.cell (p := ⟨fb, fo + 2, none⟩) hlt, hl 2 (by omega), ← hB2, List.getD_eq_getElem?_getD, List.getElem?_eq_getElem (by omega)]
    rfl
  have z0 : fb < w0.heap.size := by have := b0.size; omega
  have c0' : (w0.alloc (.cells #[.int .i64 0, .int .i64 0] 123)).cell? ⟨fb, fo, none⟩ = some (.int .u8 (unWho l : Int)) := by rw [World.cell?_alloc_lt _ _ ⟨fb, fo, none⟩ z0]; exact c0
  have c1' : (w0.alloc (.cells #[.int .i64 0, .int .i64 0] 123)).cell? ⟨fb, fo + 1, none⟩ = some (.int .u8 (B1 : Int)) := by rw [World.cell?_alloc_lt _ _ ⟨fb, fo + 1, none⟩ z0]; exact c1
  have c2' : (w0.alloc (.cells #[.int .i64 0, .int .i64 0] 123)).cell? ⟨fb, fo + 2, none⟩ = some (.int .u8 (B2 : Int)) := by rw [World.cell?_alloc_lt _ _ ⟨fb, fo + 2, none⟩ z0]; exact c2
  have hfit : FitB (n : Int) (unWho l : Int) = decide (unWho l < n) := by
    by_cases e : unWho l < n
    · rw [(fitB_iff _ _).2 ⟨by omega, by omega, by omega, by omega⟩]; simp [e]
    · cases hf : FitB (n : Int) (unWho l : Int) with
      | false => simp [e]
      | true => have := (fitB_iff _ _).1 hf; omega
  have HM : Hid (∀ W, Calls Tryz.prog 62 #[.int .i64 n, .int .i64 (unWho l)] W fun e w' => e = .returned (.bool (decide (unWho l < n))) ∧ w' = W) := fun W => by rw [← hfit]; exact hasMember_any n (unWho l) W
  obtain ⟨WH, hWH⟩ : ∃ WH : Int, (unWho l : Int) = WH := ⟨_, rfl⟩
  obtain ⟨GE, hGE⟩ : ∃ GE : Int, (unGen l : Int) = GE := ⟨_, rfl⟩
  obtain ⟨BB, hBB⟩ : ∃ BB, decide (unWho l < n) = BB := ⟨_, rfl⟩
  rw [hWH, hBB] at HM
  rw [hWH] at c0 c0' ⊢
  rw [hGE] at hor ⊢
  obtain ⟨N, hN⟩ : ∃ N, l.length = N := ⟨_, rfl⟩
  have d1 : ¬ (N : Int) < 7 := by omega
  have d2 : ¬ (47 : Int) < N := by omega
  have d3 : decide ((N : Int) < 7) = false := by simp; omega
  have d4 : decide ((47 : Int) < N) = false := by simp; omega
  have d5 : (0 : Int) < N := by omega
  have d6 : (1 : Int) < N := by omega
  have d7 : (2 : Int) < N := by omega
  have hw1 : 0 ≤ WH := by omega
  have hw2 : WH < 256 := by omega
  have hB1i : (0 : Int) ≤ B1 := by omega
  have hB1j : (B1 : Int) < 256 := by omega
  have hB2i : (0 : Int) ≤ B2 := by omega
  have hB2j : (B2 : Int) < 256 := by omega
  have hsh : wrap64 ((B1 : Int) * 256) = (B1 : Int) * 256 := by simp only [wrap64]; omega
  rw [hN]
  have HBB : Hid ((BB = true → unWho l < n) ∧ (BB = false → n ≤ unWho l)) := ⟨fun h => by rw [h] at hBB; simpa using hBB, fun h => by rw [h] at hBB; simpa using hBB⟩
  have HB0 : Hid (Below w.heap.size w w0) := b0
  have HK0 : Hid (w0.heap[w.heap.size]? = some (.cells #[.int .i64 0, .int .i64 0] 123 (0, 0))) := k0
  have HW0 : Hid (w.alloc (.cells #[.int .i64 0, .int .i64 0] 123) = w0) := hw0
  clear hl hB1 hB2 hgen hwl hWH hGE hBB hN h7 h47 hc hfit b0 k0 hw0 hb1 hb2
  go_enter Tryz.func91, Tryz.ntmps91
  go_upto_region 3 with fail
  rw [HW0.out]
  go_cut [6] (fun s6 wx => ∃ pb, s6 = .pointer (some ⟨pb, 0, none⟩) ∧ Hid (Below w.heap.size w wx ∧ w.heap.size < pb ∧ wx.heap[pb]? = some (.cells #[.int .i64 WH, .int .i64 GE] 123 (0, 0)) ∧ wx.heap[w.heap.size]? = some (.cells #[.int .i64 0, .int .i64 0] 123 (0, 0))))
  case first =>
    go_region
    all_goals
      go_wp2_with fail
      go_meet
      refine ⟨_, rfl, ?_⟩
      have z := HB0.out.size
      have z2 : w.heap.size < w0.heap.size := (Array.getElem?_eq_some_iff.1 HK0.out).1
      exact ⟨(HB0.out.alloc z _).drew, z2, (MapKept.heap_alloc w0 _).1, ((Below.heap_alloc w0 _ _ z2).trans HK0.out)⟩
  case rest =>
    obtain ⟨pb, rfl, hx⟩ := hcut
    have hA : ∀ o, wc.cell? ⟨pb, o, none⟩ = #[Value.int .i64 WH, .int .i64 GE][o]? := fun o => cell_of_row _ _ _ _ _ _ hx.out.2.2.1
    have kz := hx.out.2.2.2
    obtain ⟨hz1, hz2⟩ := (⟨fun o => cell_of_row _ _ _ _ _ _ kz, fun o => by simp [World.frozen?, kz]⟩ : (∀ o, wc.cell? ⟨w.heap.size, o, none⟩ = #[Value.int .i64 0, .int .i64 0][o]?) ∧ (∀ o, wc.frozen? ⟨w.heap.size, o, none⟩ = false))
    clear HW0 HB0 HK0 c0 c1 c2 c0' c1' c2' z0 hor hsh
    have HFIN : Hid (∀ a b, Below w.heap.size w ((wc.setCell ⟨w.heap.size, 0, none⟩ a).setCell ⟨w.heap.size, 1, none⟩ b) ∧ ((wc.setCell ⟨w.heap.size, 0, none⟩ a).setCell ⟨w.heap.size, 1, none⟩ b).heap[w.heap.size]? = some (.cells #[a, b] 123 (0, 0))) := fun a b => ⟨(hx.out.1.setCell (p := ⟨w.heap.size, 0, none⟩) (Nat.le_refl _) a).setCell (p := ⟨w.heap.size, 1, none⟩) (Nat.le_refl _) b, row2 kz a b⟩
    clear kz
    by_cases hb : BB = true
    · have hlt2 := HBB.out.1 hb
      rw [hb] at HM
      clear hb HBB
      go_wp2_with (go_at_call 62; refine (HM.out _).mono ?_; rintro e w' ⟨rfl, rfl⟩)
      exact bodyPost_ret (v := .tuple #[.agg #[.int .i64 WH, .int .i64 GE], .nilIface]) (results_row_tmp rfl _ _ w.heap.size 123 #[.int .i64 WH, .int .i64 GE] (0, 0) _ _ rfl rfl (HFIN.out _ _).2 Tryz.underlying123 rfl (by kernel_rfl)) rfl ⟨(HFIN.out _ _).1, .inr ⟨hlt2, rfl⟩⟩
    · have hle2 := HBB.out.2 (by simpa using hb)
      rw [show BB = false by simpa using hb] at HM
      clear hb HBB
      go_wp2_with (go_at_call 62; refine (HM.out _).mono ?_; rintro e w' ⟨rfl, rfl⟩)
      exact bodyPost_ret (v := .tuple #[.agg #[.int .i64 0, .int .i64 0], faultV 3 _]) (results_row_tmp rfl _ _ w.heap.size 123 #[.int .i64 0, .int .i64 0] (0, 0) _ _ rfl rfl (HFIN.out _ _).2 Tryz.underlying123 rfl (by kernel_rfl)) rfl ⟨(HFIN.out _ _).1, .inl ⟨hle2, _, rfl⟩⟩
end Go.Proofs.YtkpebabbnndopaaGreatDoor

/- read. -/
namespace Go.Proofs.YtkpebabbnndopaaGreatDoor
open Go.RowKit
set_option linter.unusedVariables false
set_option linter.unusedSimpArgs false

abbrev MsgC (m g : Int) (v : Value) : Array Value := #[.int .i64 m, .int .i64 g, v]
abbrev strOver : ByteArray := ⟨#[116, 104, 101, 32, 101, 112, 111, 99, 104, 32, 105, 115, 32, 111, 118, 101, 114]⟩
theorem over_any (w : World) : Calls Tryz.prog 58 #[] w fun e w' => e = .returned (faultV 9 strOver) ∧ w' = w := by
  go_enter Tryz.func58, Tryz.ntmps58
  go_wp2_with fail
  go_ret
  exact ⟨rfl, rfl⟩
/-- three cells of a message set -/
theorem stores3_row (w : World) (g : Nat) (cs : Array Value) (t : TypeId) (a b c : Value) (h : w.heap[g]? = some (.cells cs t (0, 0))) (hs : cs.size = 3) :
    ((w.setCell ⟨g, 0, none⟩ a).setCell ⟨g, 1, none⟩ b).setCell ⟨g, 2, none⟩ c = w.setRow g #[a, b, c] := by
  have h1 := setCell_eq_setRow w g 0 cs t (0, 0) a h
  rw [h1]
  have h2 : (w.setRow g (cs.setIfInBounds 0 a)).heap[g]? = some (.cells (cs.setIfInBounds 0 a) t (0, 0)) := setRow_heap _ _ _ _ _ _ h
  rw [setCell_eq_setRow _ g 1 _ t (0, 0) b h2, setRow_setRow]
  have h3 : (w.setRow g ((cs.setIfInBounds 0 a).setIfInBounds 1 b)).heap[g]? = some (.cells ((cs.setIfInBounds 0 a).setIfInBounds 1 b) t (0, 0)) := setRow_heap _ _ _ _ _ _ h
  rw [setCell_eq_setRow _ g 2 _ t (0, 0) c h3, setRow_setRow]
  congr 1
  rcases cs with ⟨l⟩
  rcases l with _ | ⟨x, _ | ⟨y, _ | ⟨z, _ | ⟨u, r⟩⟩⟩⟩ <;> simp at hs
  rfl
set_option maxHeartbeats 1000000 in
theorem read_closed {w : World} {b : Nat} {cs : Array Value} (hh : Home (some b) b 112 cs w) (ho : cs[7]? = some (.bool true)) (sv : Value) :
    Calls Tryz.prog 50 #[.pointer (some ⟨b, 0, none⟩), sv] w fun e w' => ∃ u, e = .returned (.tuple #[.agg (MsgC 0 0 (.slice none 0 0)), u]) ∧ u = faultV 9 strOver ∧ Below w.heap.size w w' := by
  have HOV : Hid (∀ W, Calls Tryz.prog 58 #[] W fun e w' => e = .returned (faultV 9 strOver) ∧ w' = W) := over_any
  obtain ⟨w1, hw1⟩ : ∃ w1, w.alloc (.cells (MsgC 0 0 (.slice none 0 0)) 41) = w1 := ⟨_, rfl⟩
  have b1 : Below w.heap.size w w1 := by rw [← hw1]; exact (Below.refl _ w).alloc (Nat.le_refl _) _
  have k1 : w1.heap[w.heap.size]? = some (.cells (MsgC 0 0 (.slice none 0 0)) 41 (0, 0)) := by rw [← hw1]; exact (MapKept.heap_alloc _ _).1
  obtain ⟨kc, kf⟩ := row_facts' k1
  have c1 : w1.cell? ⟨b, 7, none⟩ = some (.bool true) := by rw [(hh.below b1).cells.1]; exact ho
  have HW : Hid (w.alloc (.cells (MsgC 0 0 (.slice none 0 0)) 41) = w1) := hw1
  have HB : Hid (Below w.heap.size w w1 ∧ w1.heap[w.heap.size]? = some (.cells (MsgC 0 0 (.slice none 0 0)) 41 (0, 0))) := ⟨b1, k1⟩
  clear hh ho b1 k1 hw1
  go_enter Tryz.func50, Tryz.ntmps50
  go_upto_region 1 with fail
  rw [HW.out]
  go_wp2_with (go_at_call 58; refine (HOV.out _).mono ?_; rintro e w' ⟨rfl, rfl⟩)
  rw [stores3_row _ _ _ _ _ _ _ HB.out.2 rfl]
  exact bodyPost_ret (results_row_tmp rfl _ _ w.heap.size 41 (MsgC 0 0 (.slice none 0 0)) (0, 0) _ _ rfl rfl (setRow_heap _ _ _ _ _ _ HB.out.2) Tryz.underlying41 rfl (by kernel_rfl)) rfl ⟨_, rfl, rfl, below_setRow HB.out.1 (Nat.le_refl _) _⟩
set_option maxHeartbeats 1000000 in
theorem read_place {w : World} {b : Nat} {cs : Array Value} {st : St} {wk pm : Nat} (hh : Home (some b) b 112 cs w) (hG : GrpAt cs st wk pm 1) (sv : Value)
    (HPI0 : ∀ W, Below w.heap.size w W → Calls Tryz.prog 91 #[sv, .int .i64 st.n] W fun e w' => ∃ s, e = .returned (.tuple #[encP (0, 0), faultV 3 s]) ∧ Below W.heap.size W w') :
    Calls Tryz.prog 50 #[.pointer (some ⟨b, 0, none⟩), sv] w fun e w' => ∃ u, e = .returned (.tuple #[.agg (MsgC 0 0 (.slice none 0 0)), u]) ∧ (∃ s, u = faultV 3 s) ∧ Below w.heap.size w w' := by
  obtain ⟨w1, hw1⟩ : ∃ w1, w.alloc (.cells (MsgC 0 0 (.slice none 0 0)) 41) = w1 := ⟨_, rfl⟩
  have b1 : Below w.heap.size w w1 := by rw [← hw1]; exact (Below.refl _ w).alloc (Nat.le_refl _) _
  have k1 : w1.heap[w.heap.size]? = some (.cells (MsgC 0 0 (.slice none 0 0)) 41 (0, 0)) := by rw [← hw1]; exact (MapKept.heap_alloc _ _).1
  have c1 : w1.cell? ⟨b, 7, none⟩ = some (.bool false) := by rw [(hh.below b1).cells.1]; exact hG.over
  have c2 : w1.cell? ⟨b, 5, none⟩ = some (.int .i64 st.n) := by rw [(hh.below b1).cells.1]; exact hG.members
  have HPI : Hid (Calls Tryz.prog 91 #[sv, .int .i64 st.n] w1 fun e w' => ∃ s, e = .returned (.tuple #[.agg #[.int .i64 0, .int .i64 0], faultV 3 s]) ∧ Below w1.heap.size w1 w') := HPI0 w1 b1
  have HW : Hid (w.alloc (.cells (MsgC 0 0 (.slice none 0 0)) 41) = w1) := hw1
  have HB : Hid (Below w.heap.size w w1 ∧ w1.heap[w.heap.size]? = some (.cells (MsgC 0 0 (.slice none 0 0)) 41 (0, 0))) := ⟨b1, k1⟩
  clear hh hG b1 k1 hw1 HPI0
  go_enter Tryz.func50, Tryz.ntmps50
  go_upto_region 1 with fail
  rw [HW.out]
  go_wp2_with fail
  refine HPI.out.mono ?_
  rintro e w2 ⟨s, rfl, b2⟩
  obtain ⟨w3, hw3⟩ : ∃ w3, w2.alloc (.cells #[.int .i64 0, .int .i64 0] 123) = w3 := ⟨_, rfl⟩
  have b3 : Below w1.heap.size w1 w3 := by rw [← hw3]; exact b2.alloc b2.size _
  have k3 : w3.heap[w.heap.size]? = some (.cells (MsgC 0 0 (.slice none 0 0)) 41 (0, 0)) := by rw [b3.block _ (Array.getElem?_eq_some_iff.1 HB.out.2).1]; exact HB.out.2
  obtain ⟨kc, kf⟩ := row_facts' k3
  have HB3 : Hid (Below w.heap.size w w3 ∧ w3.heap[w.heap.size]? = some (.cells (MsgC 0 0 (.slice none 0 0)) 41 (0, 0))) := ⟨HB.out.1.trans (b3.mono HB.out.1.size), k3⟩
  have HW3 : Hid (w2.alloc (.cells #[.int .i64 0, .int .i64 0] 123) = w3) := hw3
  clear HPI b2 b3 k3 hw3 c1 c2
  go_upto_region 5 with fail
  rw [HW3.out]
  go_wp2_with fail
  rw [stores3_row _ _ _ _ _ _ _ HB3.out.2 rfl]
  exact bodyPost_ret (results_row_tmp rfl _ _ w.heap.size 41 (MsgC 0 0 (.slice none 0 0)) (0, 0) _ _ rfl rfl (setRow_heap _ _ _ _ _ _ HB3.out.2) Tryz.underlying41 rfl (by kernel_rfl)) rfl ⟨_, rfl, ⟨_, rfl⟩, below_setRow HB3.out.1 (Nat.le_refl _) _⟩
set_option maxHeartbeats 2000000 in
set_option maxRecDepth 20000 in
theorem read_open {w : World} {b : Nat} {cs : Array Value} {st : St} {wk pm : Nat} {m g : Nat} (hh : Home (some b) b 112 cs w) (hG : GrpAt cs st wk pm 1) (sv : Value)
    (HPI0 : ∀ W, Below w.heap.size w W → Calls Tryz.prog 91 #[sv, .int .i64 st.n] W fun e w' => e = .returned (.tuple #[encP (m, g), .nilIface]) ∧ Below W.heap.size W w')
    (R : World → Value → Value → World → Prop)
    (HOA0 : ∀ W, Below w.heap.size w W → Calls Tryz.prog 92 #[.pointer (some ⟨b, 0, none⟩), .agg #[.int .i64 m, .int .i64 g], sv] W fun e w' => ∃ v u, e = .returned (.tuple #[v, u]) ∧ R W v u w' ∧ (((∃ p n c, v = .slice p n c) ∧ u = .nilIface) ∨ ∃ E s, u = faultV E s))
    (hR : ∀ W v u w', Below w.heap.size w W → R W v u w' → ∀ k, w.heap.size ≤ k → k < W.heap.size → w'.heap[k]? = W.heap[k]?) :
    Calls Tryz.prog 50 #[.pointer (some ⟨b, 0, none⟩), sv] w fun e w' => ∃ y z, e = .returned (.tuple #[y, z]) ∧ ∃ W v u w2, Below w.heap.size w W ∧ w.heap.size < W.heap.size ∧ R W v u w2 ∧ Outside [w.heap.size] w2 w' ∧ ((u = .nilIface ∧ y = .agg (MsgC m g v) ∧ z = .nilIface) ∨ ∃ E s, u = faultV E s ∧ y = .agg (MsgC 0 0 (.slice none 0 0)) ∧ z = frameV m g E s) := by
  obtain ⟨w1, hw1⟩ : ∃ w1, w.alloc (.cells (MsgC 0 0 (.slice none 0 0)) 41) = w1 := ⟨_, rfl⟩
  have b1 : Below w.heap.size w w1 := by rw [← hw1]; exact (Below.refl _ w).alloc (Nat.le_refl _) _
  have k1 : w1.heap[w.heap.size]? = some (.cells (MsgC 0 0 (.slice none 0 0)) 41 (0, 0)) := by rw [← hw1]; exact (MapKept.heap_alloc _ _).1
  have c1 : w1.cell? ⟨b, 7, none⟩ = some (.bool false) := by rw [(hh.below b1).cells.1]; exact hG.over
  have c2 : w1.cell? ⟨b, 5, none⟩ = some (.int .i64 st.n) := by rw [(hh.below b1).cells.1]; exact hG.members
  obtain ⟨M, hM⟩ : ∃ M : Int, (m : Int) = M := ⟨_, rfl⟩
  obtain ⟨G, hGG⟩ : ∃ G : Int, (g : Int) = G := ⟨_, rfl⟩
  have HPI : Hid (Calls Tryz.prog 91 #[sv, .int .i64 st.n] w1 fun e w' => e = .returned (.tuple #[.agg #[.int .i64 M, .int .i64 G], .nilIface]) ∧ Below w1.heap.size w1 w') := by
    have := HPI0 w1 b1
    rw [hM, hGG] at this
    exact this
  have HOA : Hid (∀ W, Below w.heap.size w W → Calls Tryz.prog 92 #[.pointer (some ⟨b, 0, none⟩), .agg #[.int .i64 M, .int .i64 G], sv] W fun e w' => ∃ v u, e = .returned (.tuple #[v, u]) ∧ Hid (R W v u w') ∧ (((∃ p n c, v = .slice p n c) ∧ u = .nilIface) ∨ ∃ E s, u = faultV E s)) := by
    rw [← hM, ← hGG]; exact HOA0
  have HR : Hid (∀ W v u w', Below w.heap.size w W → R W v u w' → ∀ k, w.heap.size ≤ k → k < W.heap.size → w'.heap[k]? = W.heap[k]?) := hR
  have HW : Hid (w.alloc (.cells (MsgC 0 0 (.slice none 0 0)) 41) = w1) := hw1
  have HB : Hid (Below w.heap.size w w1 ∧ w1.heap[w.heap.size]? = some (.cells (MsgC 0 0 (.slice none 0 0)) 41 (0, 0))) := ⟨b1, k1⟩
  rw [hM, hGG]
  clear hh hG b1 k1 hw1 HPI0 HOA0 hR hM hGG
  go_enter Tryz.func50, Tryz.ntmps50
  go_upto_region 1 with fail
  rw [HW.out]
  go_wp2_with fail
  refine HPI.out.mono ?_
  rintro e w2 ⟨rfl, b2⟩
  obtain ⟨w3, hw3⟩ : ∃ w3, w2.alloc (.cells #[.int .i64 M, .int .i64 G] 123) = w3 := ⟨_, rfl⟩
  have b3 : Below w1.heap.size w1 w3 := by rw [← hw3]; exact b2.alloc b2.size _
  have p3 : w3.heap[w2.heap.size]? = some (.cells #[.int .i64 M, .int .i64 G] 123 (0, 0)) := by rw [← hw3]; exact (MapKept.heap_alloc _ _).1
  have k3 : w3.heap[w.heap.size]? = some (.cells (MsgC 0 0 (.slice none 0 0)) 41 (0, 0)) := by rw [b3.block _ (Array.getElem?_eq_some_iff.1 HB.out.2).1]; exact HB.out.2
  have hA3 : ∀ o, w3.cell? ⟨w2.heap.size, o, none⟩ = #[Value.int .i64 M, .int .i64 G][o]? := fun o => cell_of_row _ _ _ _ _ _ p3
  have HB3 : Hid (Below w.heap.size w w3 ∧ w.heap.size < w3.heap.size ∧ w3.heap[w.heap.size]? = some (.cells (MsgC 0 0 (.slice none 0 0)) 41 (0, 0)) ∧ w3.heap[w2.heap.size]? = some (.cells #[.int .i64 M, .int .i64 G] 123 (0, 0)) ∧ w.heap.size ≤ w2.heap.size) := ⟨HB.out.1.trans (b3.mono HB.out.1.size), (Array.getElem?_eq_some_iff.1 k3).1, k3, p3, by have := HB.out.1.size; have := b2.size; omega⟩
  have HW3 : Hid (w2.alloc (.cells #[.int .i64 M, .int .i64 G] 123) = w3) := hw3
  clear HPI b2 b3 k3 p3 hw3 c1 c2
  go_upto_region 6 with fail
  rw [HW3.out]
  go_wp2_with fail
  refine (HOA.out _ HB3.out.1).mono ?_
  rintro e w4 ⟨v, u, rfl, hr, hu⟩
  have k4 : w4.heap[w.heap.size]? = some (.cells (MsgC 0 0 (.slice none 0 0)) 41 (0, 0)) := by
    rw [HR.out _ _ _ _ HB3.out.1 hr.out _ (Nat.le_refl _) HB3.out.2.1]; exact HB3.out.2.2.1
  have p4 : w4.heap[w2.heap.size]? = some (.cells #[.int .i64 M, .int .i64 G] 123 (0, 0)) := by
    rw [HR.out _ _ _ _ HB3.out.1 hr.out _ HB3.out.2.2.2.2 (Array.getElem?_eq_some_iff.1 HB3.out.2.2.2.1).1]; exact HB3.out.2.2.2.1
  obtain ⟨kc, kf⟩ := row_facts' k4
  have hA4 : ∀ o, w4.cell? ⟨w2.heap.size, o, none⟩ = #[Value.int .i64 M, .int .i64 G][o]? := fun o => cell_of_row _ _ _ _ _ _ p4
  have HK4 : Hid (w4.heap[w.heap.size]? = some (.cells (MsgC 0 0 (.slice none 0 0)) 41 (0, 0)) ∧ w4.heap[w2.heap.size]? = some (.cells #[.int .i64 M, .int .i64 G] 123 (0, 0))) := ⟨k4, p4⟩
  clear HOA HR hA3 k4 p4
  rcases hu with ⟨⟨vp, vn, vc, rfl⟩, rfl⟩ | ⟨E, s, rfl⟩
  · go_wp2_with fail
    rw [stores3_row _ _ _ _ _ _ _ HK4.out.1 rfl]
    exact bodyPost_ret (results_row_tmp rfl _ _ w.heap.size 41 (MsgC M G (.slice vp vn vc)) (0, 0) _ _ rfl rfl (setRow_heap _ _ _ _ _ _ HK4.out.1) Tryz.underlying41 rfl (by kernel_rfl)) rfl ⟨_, _, rfl, w3, _, _, w4, HB3.out.1, HB3.out.2.1, hr.out, (Outside.refl _ w4).setRow _ (fun _ => by simp) _, .inl ⟨rfl, rfl, rfl⟩⟩
  · go_upto_region 8 with fail
    obtain ⟨w5, hw5⟩ : ∃ w5, w4.drew.setCells w.heap.size 0 [Value.int .i64 0, .int .i64 0, .slice none 0 0] = w5 := ⟨_, rfl⟩
    have e5 : w5 = w4.drew.setRow w.heap.size (MsgC 0 0 (.slice none 0 0)) := by
      rw [← hw5]
      exact stores3_row w4.drew w.heap.size _ _ _ _ _ HK4.out.1 rfl
    have hne : w2.heap.size ≠ w.heap.size := fun e => by
      have h1 := HK4.out.2
      rw [e, HK4.out.1] at h1
      cases h1
    have HS5 : Hid ((∀ o, w5.cell? ⟨w2.heap.size, o, none⟩ = #[Value.int .i64 M, .int .i64 G][o]?) ∧ w4.drew.there w.heap.size 0 3 ∧ w4.drew.setCells w.heap.size 0 [Value.int .i64 0, .int .i64 0, .slice none 0 0] = w5) := by
      refine ⟨fun o => ?_, fun j hj => ?_, hw5⟩
      · have : w5.heap[w2.heap.size]? = some (.cells #[.int .i64 M, .int .i64 G] 123 (0, 0)) := by rw [e5, setRow_other _ _ _ _ hne]; exact HK4.out.2
        exact cell_of_row _ _ _ _ _ _ this
      · rw [Nat.zero_add]
        show (w4.cell? _).isSome = true ∧ w4.frozen? _ = false
        rw [kc]
        refine ⟨?_, kf _⟩
        rcases j with _ | _ | _ | j <;> first | rfl | omega
    have HK5 : Hid (w5.heap[w.heap.size]? = some (.cells (MsgC 0 0 (.slice none 0 0)) 41 (0, 0)) ∧ Outside [w.heap.size] w4 w5) := by
      rw [e5]
      exact ⟨setRow_heap w4.drew _ _ _ _ _ HK4.out.1, ((Outside.refl _ w4).drew).setRow _ (fun _ => by simp) _⟩
    clear hw5 e5 hne kc kf
    refine wp_region_held_drew (S := fun W => ∀ o, W.cell? ⟨w2.heap.size, o, none⟩ = #[Value.int .i64 M, .int .i64 G][o]?) (by kernel_rfl) hA4 (fun hHeld => ?_)
    change wpAnyH _ _ _ _ _ 7 _ _ _
    refine take1 (i := 0) (v := .agg #[.int .i64 0, .int .i64 0, .slice none 0 0]) rfl (by kernel_rfl) (by kernel_rfl) (by kernel_rfl) (fun _ _ _ h => h) hHeld (fun W hS => (by clear hHeld; go_simp)) ?_
    simp only [Act.put, List.setIfInBounds_toArray, List.set_cons_zero, List.set_cons_succ]
    refine take1 (i := 1) (v := .agg #[.int .i64 M, .int .i64 G]) rfl (by kernel_rfl) (by kernel_rfl) (by kernel_rfl) (fun _ _ _ h => h) hHeld (fun W hS => (by clear hHeld; go_simp)) ?_
    simp only [Act.put, List.setIfInBounds_toArray, List.set_cons_zero, List.set_cons_succ]
    refine take1 (i := 2) (v := faultV E s) rfl (by kernel_rfl) (by kernel_rfl) (by kernel_rfl) (fun _ _ _ h => h) hHeld (fun W hS => (by clear hHeld; go_simp)) ?_
    simp only [Act.put, List.setIfInBounds_toArray, List.set_cons_zero, List.set_cons_succ]
    refine take1 (i := 3) (v := .agg #[.int .i64 M, .int .i64 G, faultV E s]) rfl (by kernel_rfl) (by kernel_rfl) (by kernel_rfl) (fun _ _ _ h => h) hHeld (fun W hS => (by clear hHeld; go_simp)) ?_
    simp only [Act.put, List.setIfInBounds_toArray, List.set_cons_zero, List.set_cons_succ]
    refine take1 (i := 4) (v := frameV M G E s) rfl (by kernel_rfl) (by kernel_rfl) (by kernel_rfl) (fun _ _ _ h => h) hHeld (fun W hS => (by clear hHeld; go_simp)) ?_
    simp only [Act.put, List.setIfInBounds_toArray, List.set_cons_zero, List.set_cons_succ]
    refine store1 (i := 5) (by kernel_rfl) rfl w.heap.size 0 #[.int .i64 0, .int .i64 0, .slice none 0 0] rfl rfl HS5.out.2.1 (by kernel_rfl) (by kernel_rfl) w5 HS5.out.2.2 HS5.out.1 ?_
    refine step1 (i := 6) (by kernel_rfl) rfl (frameV M G E s) w5 (by clear hHeld; go_simp) HS5.out.1 ?_
    simp only [Act.put, List.setIfInBounds_toArray, List.set_cons_zero, List.set_cons_succ]
    refine wpAnyH_done (by kernel_rfl) ?_ _
    clear hHeld hA4 HS5
    go_wp2_with fail
    exact bodyPost_ret (results_row_tmp rfl _ _ w.heap.size 41 (MsgC 0 0 (.slice none 0 0)) (0, 0) _ _ rfl rfl HK5.out.1 Tryz.underlying41 rfl (by kernel_rfl)) rfl ⟨_, _, rfl, w3, v, _, w4, HB3.out.1, HB3.out.2.1, hr.out, HK5.out.2, .inr ⟨E, s, rfl, rfl, rfl⟩⟩
end Go.Proofs.YtkpebabbnndopaaGreatDoor
