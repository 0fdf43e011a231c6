import Derived.Test.YtcboagjfajdpeaaGrp3
import Derived.Test.YtcboagjfajdpeaaGrpN
import Derived.Test.YtcboagjfajdpeaaRows
import Derived.Test.YtcboagjfajdpeaaEndsW
import Derived.WalkKit
import Derived.WalkSpells
import Derived.WalkLawsBesides
import Derived.ProofKit
import Derived.OpenShut
import Derived.ShutString
/- The program's calls on a group are as the law asks. -/
namespace Go.Proofs.Ytcboagjfajdpeaa
open Go.RowKit
set_option linter.unusedVariables false

theorem heads_more {st : St} (ok : st.Ok) (k : Nat) : st.heads (st.n + k) = st.heads st.n := by
  induction k with
  | zero => rfl
  | succ k ih =>
    have hm : st.m (st.n + k) = ⟨false, 0, []⟩ := by unfold St.m; rw [List.getD_eq_getElem?_getD, List.getElem?_eq_none (by rw [ok.len]; omega)]; rfl
    rw [show st.n + (k + 1) = (st.n + k) + 1 from rfl, St.heads, ih, hm]
    simp
theorem heads_16 {st : St} (ok : st.Ok) : st.heads 16 = st.heads st.n := by
  have h := heads_more ok (16 - st.n)
  have := ok.n16
  rwa [show st.n + (16 - st.n) = 16 by omega] at h
theorem kepts_none {st : St} (h : ∀ i, (st.m i).over = []) (k : Nat) : st.kepts k = [] := by
  induction k with
  | zero => rfl
  | succ k ih => rw [St.kepts, ih, h]; rfl
theorem Grp.keep {w w' : World} {S : List Nat} {g : Value} {st : St} {wk : Nat} (h : Grp w S g st wk) (hk : ∀ k, k < w.heap.size → k ∈ S → w'.heap[k]? = w.heap[k]?) : Grp w' S g st wk := by
  obtain ⟨b, cs, rfl, rfl, hh, h1, h2⟩ := h
  exact ⟨b, cs, rfl, rfl, ⟨by rw [hk b hh.lt (by simp)]; exact hh.row, hh.here, hh.cnt⟩, h1, h2⟩
theorem Grp.below {w w' : World} {S : List Nat} {g : Value} {st : St} {wk : Nat} (h : Grp w S g st wk) (hb : Below w.heap.size w w') : Grp w' S g st wk := h.keep fun k hk _ => hb.block k hk
theorem code : Code Grp where
  lt := fun {w S g st wk} h k hk => by
    obtain ⟨b, cs, rfl, rfl, hh, h1, h2⟩ := h
    simp at hk
    subst hk
    exact hh.lt
  keep := fun {w w' S g st wk} h _ hk => h.keep hk
  ptr := fun {w S g st wk} h => by
    obtain ⟨b, cs, rfl, _⟩ := h
    exact ⟨b, rfl⟩
  newErr := fun s n m w hs hf => newErr_any s n m hf w
  new := fun s n m w hs h1 h2 h3 => new_any s hs n m h1 h2 h3 w
  work := fun {w S g st wk} ok h => by
    have h' := h
    obtain ⟨b, cs, rfl, rfl, hh, h1, h2⟩ := h
    refine (gwork_any b cs _ wk w hh.row h1.cnt).mono fun e w' ⟨e1, e2⟩ => ⟨?_, by rw [e2]; exact Outside.refl _ _, [b], Fresh.refl _ _, by rw [e2]; exact h'⟩
    rw [e1]
    have hw := h2.work
    have hn := (ok.m st.own).1
    have e3 : IntKind.i64.wrap (wk : Int) = wk := by rw [IntKind.wrap_i64]; omega
    unfold ctr
    rw [e3]
  protErr := fun {w S g st wk} ok h a t c hl hb hn he => by
    have h' := h
    obtain ⟨b, cs, rfl, rfl, hh, h1, h2⟩ := h
    exact (gprotErr ok h1 h2 w hh a t.length c he).mono fun e w' ⟨e1, e2⟩ => ⟨e1, Outside.ofBelow e2, [b], Fresh.refl _ _, h'.below e2⟩
  prot := fun {w S g st wk} ok h a t c hl hb hn he => by
    obtain ⟨b, cs, rfl, rfl, hh, h1, h2⟩ := h
    obtain ⟨he1, he2⟩ := protErr_zero he
    refine (gprot ok h1 h2 w hh a t c hl hb (fun k o e => by have := hn k o e; simpa using this) he he2).mono fun e w' ⟨f, cap, e1, e2, e3, e4, e5, cs', n, e6, e7, e8, e9⟩ => ⟨e4, [b], wk + n, f, 0, cap, Fresh.refl _ _, ⟨b, cs', rfl, rfl, e8, e9, ?_⟩, by omega, ?_, e1, e3, ?_, e2, ?_, ?_⟩
    · refine ⟨h2.closed, fun i => ?_, ?_⟩
      · rw [protNext_m ok]
        split
        · exact h2.over st.own
        · exact h2.over i
      · have hw := h2.work
        have hd := DepB_le 16 st.n st.own
        show wk + n ≤ 100 * (st.protNext.m st.own).next
        rw [protNext_m ok, if_pos rfl]
        show wk + n ≤ 100 * ((st.m st.own).next + 1)
        omega
    · unfold St.bound
      omega
    · have := hh.lt
      simp
      omega
    · refine .inr ⟨f, 0, rfl, fun i hi => ?_⟩
      rw [Nat.zero_add, cell_of_row _ _ _ _ _ _ e5, RowB_at _ _ _ hi]
    · intro i hi
      simp [World.frozen?, e5]
  dump := fun {w S g st wk} ok h => by
    have h' := h
    obtain ⟨b, cs, rfl, rfl, hh, h1, h2⟩ := h
    have hd : st.dump = st.parts 16 0 st.n ++ st.heads 16 := by
      unfold St.dump
      rw [h2.closed, kepts_none h2.over, List.append_nil, heads_16 ok]
      rfl
    rw [hd]
    refine (gdump ok h1 h2 w hh).mono fun e w' ⟨v, e1, e2, e3⟩ => ?_
    have hbl : b < w.heap.size := hh.lt
    rcases e3.2 with ⟨x1, x2⟩ | ⟨g, cap, cur, x1, x2, x3, x4⟩
    · refine ⟨Outside.ofBelow e2, [b], none, 0, Fresh.refl _ _, h'.below e2, ?_, .inl ?_⟩
      · rw [e1, x1, x2]
      · exact List.eq_nil_of_length_eq_zero x2
    · refine ⟨Outside.ofBelow e2, [b], some ⟨g, 0, none⟩, cap, Fresh.refl _ _, h'.below e2, by rw [e1, x1], .inr ⟨g, 0, rfl, x4.1, x2, by simp; omega, fun j u hj => ?_, fun j hj => ?_⟩⟩
      · rw [x1] at e3
        rw [Nat.zero_add]
        exact e3.cells.2 j u hj
      · simp [World.frozen?, x3]
end Go.Proofs.Ytcboagjfajdpeaa

/- Ends: the generations of one's own, up to the last one. -/
namespace Go.Proofs.Ytcboagjfajdpeaa.ends
open Go.ChangeShapes Go.WideShapes Go.ChangeAt Go.RowKit
open Go.ChangeMaps (open_string shut_string)
set_option linter.unusedVariables false

theorem own : ownKnob Try.prog.godebug = none := by kernel_rfl
theorem walk (a0 : ByteArray) (a1 : Int) (a2 : Int) (w0 : a0.size ≤ maxLen) (hw1 : (Lit.int .i64 a1).wf = true) (hw2 : (Lit.int .i64 a2).wf = true) (w : World) :
    Calls Try.prog 8 #[.string a0, .int .i64 a1, .int .i64 a2] w fun e w' => e = .returned (.bool true) ∧ Below w.heap.size w w' :=
  ends_any code a0 a1 a2 (bounds_i64 hw1).1 (bounds_i64 hw1).2 (bounds_i64 hw2).1 (bounds_i64 hw2).2 w

set_option maxRecDepth 100000 in
theorem lifted (os : Os) (started : os.Started) (H : Type) (enc : TypeId × Value → H) :
    ReturnsInHanded {} Try.checked os 8 .any (Rows.endsSpec.pre6 enc Try.prog Try.f8 Rows.endsRow.domain false) (Rows.endsSpec.post enc Try.prog Try.f8 false true false false) := by
  refine returnsInHanded_of_change (C := Try.checked) own started (by kernel_rfl) Try.func8
    (ChangeSpec.witness6 (enc := enc) (C := Try.checked) false ⟨#[], #[.string ByteArray.empty, .int .i64 0, .int .i64 0], []⟩ 8 (by kernel_rfl) (by kernel_rfl) (by kernel_rfl) (by kernel_rfl)) ?_
  intro W base args ds gs before hval0 hW hcnd _
  have hval : ∀ (j : Nat) t v, Try.f8.params[j]? = some t → args[j]? = some v → Value.okWide Try.prog W .any base t v := hval0
  have hW' := hW
  obtain ⟨p, q, hA0, hV, rfl, hfz, hnd⟩ := hW
  have hA : DataW.TrodAll enc Try.prog W 0 (fun _ => true) true Try.f8.params.toList args.toList ds p := hA0
  rw [Try.params8] at hA hval
  obtain ⟨v0, vs0, d0, ds0, p0, q0, hargs, rfl, rfl, h0, r0⟩ := trodAll_cons hA
  obtain ⟨v1, vs1, d1, ds1, p1, q1, rfl, rfl, rfl, h1, r1⟩ := trodAll_cons r0
  obtain ⟨v2, vs2, d2, ds2, p2, q2, rfl, rfl, rfl, h2, r2⟩ := trodAll_cons r1
  obtain ⟨rfl, rfl, rfl⟩ := trodAll_nil r2
  obtain rfl : args = #[v0, v1, v2] := by cases args; simp_all
  obtain ⟨rfl, rfl⟩ := trodVars_none hV
  obtain ⟨a0, rfl, rfl, rfl, w0⟩ := open_string Try.underlying9 (hval 0 9 v0 rfl rfl) h0
  obtain ⟨a1, rfl, rfl, rfl, w1⟩ := open_int Try.underlying3 (hval 1 3 v1 rfl rfl) h1
  obtain ⟨a2, rfl, rfl, rfl, w2⟩ := open_int Try.underlying3 (hval 2 3 v2 rfl rfl) h2
  clear hA0 hval0
  simp only [List.append_nil] at hW'
  refine (walk a0 a1 a2 w0 w1 w2 W).mono fun e W' ⟨he, hg⟩ => ?_
  subst he
  exact ⟨_, rfl, _, _, _, [], [], [], hW', trodAll_mk1 (shut_bool Try.underlying4 _), (trodAll_cons_mk (shut_string Try.underlying9 w0) (trodAll_cons_mk (shut_int Try.underlying3 w1) (trodAll_cons_mk (shut_int Try.underlying3 w2) trodAll_mk0))), rfl, hg.frame _, fun h => by cases h⟩

theorem over : Rows.endsRow.holds Try.pinned (OpenSpec.ofChange Rows.endsSpec) :=
  OpenClaim.holds_of_wide 8 Try.f8 rfl rfl rfl rfl rfl rfl rfl ⟨rfl, rfl, rfl, rfl, rfl⟩ rfl rfl rfl rfl rfl (by kernel_rfl) Try.func8 (by kernel_rfl)
    (of_decide_eq_true (by kernel_rfl)) (by unfold Func.isWrapper; first | (rw [if_pos (by decide +kernel)]; kernel_rfl) | (rw [if_neg (by decide +kernel)]; exact ⟨rfl, rfl⟩))
    (fun os started H enc _ => lifted os started H enc)

theorem proved : Rows.EndsSaid :=
  over
end Go.Proofs.Ytcboagjfajdpeaa.ends
namespace Go.Proofs.Ytcboagjfajdpeaa
theorem ends_holds : Rows.EndsSaid := ends.proved
#print axioms ends_holds
end Go.Proofs.Ytcboagjfajdpeaa
