/- Bytes and texts; the other's Open in the form that a law asks for. -/
import Derived.Test.YtkpebabbnndopaaSec
import Derived.Test.YtkpebabbnndopaaRefOpen
import Derived.Laws.BytesArg
namespace Go.Proofs.Ytkpebabbnndopaa
open Go.RowKit

/-- how a slice of bytes becomes a text, in this world and in every later one -/
def Cv (w : World) (v : Value) (z : ByteArray) : Prop := ∀ W, Below w.heap.size w W → (convert 27 9 v).run Try.prog W = .ok (.string z) W

theorem Cv.later {w w' : World} {v : Value} {z : ByteArray} (h : Cv w v z) (hb : Below w.heap.size w w') : Cv w' v z := fun W hW => h W (hb.trans (hW.mono hb.size))

theorem cv_of_bts {w : World} {a : Option Addr} {l : List UInt8} (c : Nat) (h : Bts w a l) : Cv w (.slice a l.length c) ⟨l.toArray⟩ := by
  intro W hW
  have hB := h.below hW
  rcases a with _ | ad
  · rcases hB with rfl | ⟨b, o, e, _⟩
    · exact run_convert_bytes_nil W 27 5 Try.underlying27 Try.underlying5 0 c 9 Try.underlying9
    · cases e
  · refine run_convert_bytes_back W 27 9 5 ad c l Try.underlying27 Try.underlying5 Try.underlying9 (fun j hj => ?_)
    rcases hB with rfl | ⟨b, o, e, hc⟩
    · simp at hj
    · cases e
      have ea : (⟨b, o, none⟩ : Addr).add j = ⟨b, o + j, none⟩ := by unfold Addr.add; split <;> simp_all
      rw [ea, hc j hj]

theorem bts_of_row {w : World} {g n : Nat} {m : List UInt8} {t : TypeId} {fr : Nat × Nat} (h : w.heap[g]? = some (.cells (RowB m n) t fr)) : Bts w (some ⟨g, 0, none⟩) m :=
  .inr ⟨g, 0, rfl, fun i hi => by rw [Nat.zero_add, cell_of_row _ _ _ _ _ _ h, RowB_at _ _ _ hi]⟩

theorem secret_below (s : ByteArray) (w : World) :
    Calls Try.prog 7 #[.string s] w fun e w' => e = .returned (Agg8 (SecL s.data.toList)) ∧ Below w.heap.size w w' :=
  (secret_any s w).mono fun e w' ⟨he, hw⟩ => ⟨he, by rw [hw]; exact ((Below.refl _ w).alloc (Nat.le_refl _) _).alloc (by simp) _⟩

/-- what Open answers, as a text -/
def Opened (s : Nat → Int) (l x : List UInt8) : ByteArray := if OpenOk s l x = true then ⟨(OpenT s x).toArray⟩ else ⟨#[]⟩

theorem refOpen_any (s : Nat → Int) (hs : ∀ i, 0 ≤ s i ∧ s i < 256) (h t : ByteArray) (hh : h.size ≤ 1000000) (ht : t.size ≤ 900000) (w : World) :
    Calls Try.prog 12 #[Agg8 s, .string h, .string t] w fun e w' => Below w.heap.size w w' ∧ e = .returned (.tuple #[.string (Opened s h.data.toList t.data.toList), .bool (OpenOk s h.data.toList t.data.toList)]) := by
  by_cases h4 : t.size < 4
  · have hok : OpenOk s h.data.toList t.data.toList = false := by unfold OpenOk; simp; intro h5; omega
    refine (refOpen_short s h t h4 w).mono ?_
    rintro e w' ⟨rfl, hbel⟩
    refine ⟨hbel, ?_⟩
    unfold Opened
    rw [hok]
    rfl
  · obtain ⟨k, hk⟩ : ∃ k, t.size = k + 4 := ⟨t.size - 4, by omega⟩
    refine (refOpen_long s hs h t k hh hk (by omega) w).mono ?_
    rintro e w' ⟨hbel, ⟨hok, rfl⟩ | ⟨hok, rfl⟩⟩
    · refine ⟨hbel, ?_⟩
      unfold Opened
      rw [hok]
      rfl
    · refine ⟨hbel, ?_⟩
      unfold Opened
      rw [hok]
      rfl

/-- '[]byte(text)' as a step of the walk -/
theorem wpList_bytes {ops : Array Oper} {rest : List Oper} {o : Oper} {a : Act} {w : World} {Q : Exit → Act → World → Prop} (hgd : o.guard = none) (x : Operand) (ho : o.op = .convert 9 27 x) (t : ByteArray) (hx : a.eval x = .string t)
    (h : ∀ cap w', t.size ≤ cap → Below w.heap.size w w' → w'.heap.size = w.heap.size + 1 → Bts w' (some ⟨w.heap.size, 0, none⟩) t.data.toList →
      wpList Try.prog ops Q rest (a.put o.dst (.slice (some ⟨w.heap.size, 0, none⟩) t.size cap)) w') : wpList Try.prog ops Q (o :: rest) a w :=
  wpList_plain hgd fun _ hK => by
    have hr := run_bytes_of_string (P := Try.prog) w 9 27 5 t Try.underlying9 Try.underlying27 Try.underlying5
    have hge := grownCap_ge w t.size 0 5
    unfold Oper.wp execOp
    simp only [ho, hx, Sem.run_bind, hr, Result.andThen_ok, Sem.run_pure]
    refine hK _ _ (h _ _ hge ((Below.refl _ w).drew.alloc (Nat.le_refl _) _) (by simp) ?_)
    rw [RowB_of_bytes]
    exact bts_of_row (MapKept.heap_alloc w.drew _).1
end Go.Proofs.Ytkpebabbnndopaa
