import Derived.Test.YtkpebabbnndopaaGreatDoorC03
import Derived.Deep.MidRow
import Derived.Deep.RegionHeld
/- A region that draws its order, by hand: an operation that yields is taken first; a store of many cells. -/
namespace Go.Proofs.YtkpebabbnndopaaGreatDoor
open Go.RowKit

section
variable {P : Program} {ops : Array Oper} {Q : Exit → Act → World → Prop} {md : Region.Mode} {S : World → Prop}
/-- an operation that yields, its parts apart -/
theorem take1 {i d : Nat} {o : Op} {ty : TypeId} {pos : String} {af} {v : Value} {fuel : Nat} {listed : Array Bool} {a : Act} {w : World} (hi : ops[i]? = some (Oper.mk (some d) o ty pos af none))
    (hs : Region.noSelect ops = true) (hf : Region.free md ops listed i = true) (hr : (Region.ready md ops listed).contains i = true)
    (hQ : ∀ c a w, Q (.panic c) (a.put (some d) v) w → Q (.panic c) a w) (hS : S w) (hy : ∀ w, S w → (execOp a.eval (Oper.mk (some d) o ty pos af none)).run P w = .ok (.value v) w)
    (h : wpAnyH P md ops Q S fuel (listed.setIfInBounds i true) (a.put (some d) v) w) : wpAnyH P md ops Q S (fuel + 1) listed a w :=
  wpAnyH_take hi hs hf hr hQ (.inl ⟨by simp [Region.wanted], hy⟩) hS h
/-- a load of many cells, its parts apart -/
theorem load1 {i d : Nat} {t : TypeId} {x : Operand} {ty : TypeId} {pos : String} {af} {fuel : Nat} {listed : Array Bool} {a : Act} {w : World} (hi : ops[i]? = some (Oper.mk (some d) (.load t x) ty pos af none))
    (hs : Region.noSelect ops = true) (hf : Region.free md ops listed i = true) (hr : (Region.ready md ops listed).contains i = true)
    (cells : Array Value) (hQ : ∀ c a w, Q (.panic c) (a.put (some d) (.agg cells)) w → Q (.panic c) a w) (hS : S w) (b o : Nat) (hx : a.eval x = .pointer (some ⟨b, o, none⟩)) (td : TypeDesc) (hc : ∀ w, S w → w.rangeAt b o cells.toList)
    (hu : P.underlying t = some td) (hd : td.isRow = true) (hz : (P.info? t).map (·.size) = some cells.toList.length)
    (h : wpAnyH P md ops Q S fuel (listed.setIfInBounds i true) (a.put (some d) (.agg cells)) w) : wpAnyH P md ops Q S (fuel + 1) listed a w := by
  have hy := yieldsIf_load_mid (P := P) (ops := ops) (S := S) (op := Oper.mk (some d) (.load t x) ty pos af none) (a := a) (by simp [Region.wanted]) t x rfl b o hx cells.toList td hc hu hd hz
  rw [Array.toArray_toList] at hy
  exact wpAnyH_take hi hs hf hr hQ hy hS h
/-- a store, its parts apart: it alone may come up -/
theorem store1 {i : Nat} {t : TypeId} {x y : Operand} {ty : TypeId} {pos : String} {af} {fuel : Nat} {listed : Array Bool} {a : Act} {w : World} (hr : Region.ready md ops listed = [i]) (hi : ops[i]? = some (Oper.mk none (.store t x y) ty pos af none))
    (b o : Nat) (cells : Array Value) (hx : a.eval x = .pointer (some ⟨b, o, none⟩)) (hy : a.eval y = .agg cells)
    (ht : w.there b o cells.size) (hz : (P.info? t).map (·.size) = some cells.size) (h1 : cells.all (·.oneCell') = true) (w' : World) (hw : w.setCells b o cells.toList = w') (hS : S w')
    (h : wpAnyH P md ops Q S fuel (listed.setIfInBounds i true) (a.put none undef) w') : wpAnyH P md ops Q S (fuel + 1) listed a w := by
  refine wpAnyH_ready (rs := [i]) hr (by simp) (AllReadyH.cons hi (fun K hK => ?_) AllReadyH.nil)
  rw [if_pos (by simp [Region.wanted])]
  refine wp_store_mid t x y rfl b o cells hx hy ht hz h1 ?_
  rw [hw]
  exact hK.out _ _ hS (fun _ => h)
/-- a call of a Go function, its parts apart: it alone may come up -/
theorem call1 {i d : Nat} {cc} {ty : TypeId} {pos : String} {af} {fuel : Nat} {listed : Array Bool} {a : Act} {w : World} (hr : Region.ready md ops listed = [i]) (hi : ops[i]? = some (Oper.mk (some d) (.call cc) ty pos af none))
    {f : FuncId} {args : Array Value} (hrun : (execOp a.eval (Oper.mk (some d) (.call cc) ty pos af none)).run P w = .ok (.enter f args) w) {R : Value → World → Prop} (hc : Calls P f args w fun e w' => ∃ v, e = .returned v ∧ R v w')
    (hS : ∀ v w', R v w' → S w') (h : ∀ v w', R v w' → wpAnyH P md ops Q S fuel (listed.setIfInBounds i true) (a.put (some d) v) w') : wpAnyH P md ops Q S (fuel + 1) listed a w := by
  refine wpAnyH_ready (rs := [i]) hr (by simp) (AllReadyH.cons hi (fun K hK => ?_) AllReadyH.nil)
  rw [if_pos (by simp [Region.wanted])]
  unfold Oper.wp
  rw [hrun, Oper.upon_enter]
  exact hc.mono fun e w' ⟨v, he, hR⟩ => by subst he; exact hK.out _ _ (hS v w' hR) (fun _ => h v w' hR)
/-- a call of a Go function that may come up beside others -/
theorem callR {i d : Nat} {cc} {ty : TypeId} {pos : String} {af} {fuel : Nat} {listed : Array Bool} {a : Act} {w : World} {rs : List Nat} (hi : ops[i]? = some (Oper.mk (some d) (.call cc) ty pos af none))
    {f : FuncId} {args : Array Value} (hrun : (execOp a.eval (Oper.mk (some d) (.call cc) ty pos af none)).run P w = .ok (.enter f args) w) {R : Value → World → Prop} (hc : Calls P f args w fun e w' => ∃ v, e = .returned v ∧ R v w')
    (hS : ∀ v w', R v w' → S w') (h : ∀ v w', R v w' → wpAnyH P md ops Q S fuel (listed.setIfInBounds i true) (a.put (some d) v) w') (hs : AllReadyH P md ops Q S fuel listed a w rs) : AllReadyH P md ops Q S fuel listed a w (i :: rs) := by
  refine AllReadyH.cons hi (fun K hK => ?_) hs
  rw [if_pos (by simp [Region.wanted])]
  unfold Oper.wp
  rw [hrun, Oper.upon_enter]
  exact hc.mono fun e w' ⟨v, he, hR⟩ => by subst he; exact hK.out _ _ (hS v w' hR) (fun _ => h v w' hR)
/-- an operation that gives a value and may change the world, its parts apart: it alone may come up -/
theorem step1 {i : Nat} {dst : Option Nat} {o : Op} {ty : TypeId} {pos : String} {af} {fuel : Nat} {listed : Array Bool} {a : Act} {w : World} (hr : Region.ready md ops listed = [i]) (hi : ops[i]? = some (Oper.mk dst o ty pos af none))
    (v : Value) (w' : World) (hrun : (execOp a.eval (Oper.mk dst o ty pos af none)).run P w = .ok (.value v) w') (hS : S w')
    (h : wpAnyH P md ops Q S fuel (listed.setIfInBounds i true) (a.put dst v) w') : wpAnyH P md ops Q S (fuel + 1) listed a w := by
  refine wpAnyH_ready (rs := [i]) hr (by simp) (AllReadyH.cons hi (fun K hK => ?_) AllReadyH.nil)
  rw [if_pos (by simp [Region.wanted])]
  unfold Oper.wp
  rw [hrun, Oper.upon_value]
  exact hK.out _ _ hS (fun _ => h)
/-- append, as such an operation -/
theorem app1 {dst : Option Nat} {x y : Operand} {t ty : TypeId} {pos : String} {af} {a : Act} {w : World} (v u v' : Value) (w' : World) (hx : a.eval x = v) (hy : a.eval y = u)
    (hr : (Builtin.append_ #[t, t] ty #[v, u]).run P w = .ok v' w') : (execOp a.eval (Oper.mk dst (.call { callee := .builtin .append, args := #[x, y], argTypes := #[t, t] }) ty pos af none)).run P w = .ok (.value v') w' := by
  simp [execOp, resolve, invoke, builtin, hx, hy, hr, Result.andThen]
end
end Go.Proofs.YtkpebabbnndopaaGreatDoor
