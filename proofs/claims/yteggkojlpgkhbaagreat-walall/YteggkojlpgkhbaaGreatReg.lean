/-
  Regions that draw their order: what is held may grow on the way.
-/
import Derived.Test.YteggkojlpgkhbaaGreatM1
import Derived.Deep.RegionHeld3
namespace Go.Proofs.YteggkojlpgkhbaaGreat
open Go.RowKit
set_option linter.unusedVariables false

section
variable {P : Program} {md : Region.Mode} {ops : Array Oper} {Q : Exit → Act → World → Prop} {S S' : World → Prop}
/-- What is shown under a stronger condition is shown under the weaker one. -/
theorem held_weaken (hS : ∀ w, S' w → S w) : ∀ (fuel : Nat) (listed : Array Bool) (a : Act) (w : World), wpAnyH P md ops Q S' fuel listed a w → wpAnyH P md ops Q S fuel listed a w
  | 0, _, _, _, h => h
  | fuel + 1, _, _, _, h => ⟨h.1, fun i hi => wpOp_mono (fun a' w' h' => ⟨hS _ h'.1, held_weaken hS fuel _ a' w' h'.2⟩) (h.2 i hi)⟩
end

/-- A world that goes on from w. -/
def Ext (w w' : World) : Prop := Below w.heap.size w w'
theorem Ext.refl (w : World) : Ext w w := B0 w
theorem Ext.trans {a b c : World} (h : Ext a b) (k : Ext b c) : Ext a c := Bt h k

variable {P : Program} {md : Region.Mode} {ops : Array Oper} {Q : Exit → Act → World → Prop}
/-- The beginning: from the world behind the draw on. -/
theorem reg_begin {id : Nat} {a : Act} {w : World} (hm : P.follows .mixedOrders = true)
    (h : ∀ w0, Ext w w0 → Ext w0 w0 → wpAnyH P .any ops (NoPanic Q) (Ext w0) ops.size (Array.replicate ops.size false) a w0) : (Code.region id ops true).wp P Q a w :=
  wp_region_noPanic <| wp_region_held_drew (S := Ext w.drew) hm (Ext.refl _) (fun _ => h w.drew (Below.drew (B0 w)) (Ext.refl _))
/-- Behind a call: on from the world that it left. -/
theorem reg_on {w w1 : World} {fuel : Nat} {listed : Array Bool} {a : Act} (h : Ext w w1) (k : Ext w1 w1 → wpAnyH P md ops Q (Ext w1) fuel listed a w1) : wpAnyH P md ops Q (Ext w) fuel listed a w1 :=
  held_weaken (fun _ h' => h.trans h') _ _ _ _ (k (Ext.refl _))
theorem at0 {α : Type} {o : α} {l : List α} : (o :: l).toArray[0]? = some o := rfl
theorem atS {α : Type} {o x : α} {l : List α} {n : Nat} (h : l.toArray[n]? = some x) : (o :: l).toArray[n + 1]? = some x := by simpa using h
theorem atS5 {α : Type} {o1 o2 o3 o4 o5 x : α} {l : List α} {n : Nat} (h : l.toArray[n]? = some x) : (o1 :: o2 :: o3 :: o4 :: o5 :: l).toArray[n + 5]? = some x := by simpa using h
/-- What yields in every world that goes on from here is taken first. -/
theorem reg_take (i : Nat) {oi : Oper} {v : Value} {fuel : Nat} {listed : Array Bool} {a : Act} {w w1 : World} (hi : ops[i]? = some oi)
    (hs : Region.noSelect ops = true) (hf : Region.free md ops listed i = true) (hr : (Region.ready md ops listed).contains i = true)
    (hy : Region.wanted oi (yielded ops a.tmps) = true) (hv : ∀ w', Ext w1 w' → (execOp a.eval oi).run P w' = .ok (.value v) w') (hS : Ext w1 w)
    (h : wpAnyH P md ops (NoPanic Q) (Ext w1) fuel (listed.setIfInBounds i true) (a.put oi.dst v) w) : wpAnyH P md ops (NoPanic Q) (Ext w1) (fuel + 1) listed a w :=
  wpAnyH_take hi hs hf hr (fun _ _ _ h => h) (Or.inl ⟨hy, hv⟩) hS h

/-! ### The same from a base on: what lies behind it may turn -/
def ExB (B : Nat) (w w' : World) : Prop := Below B w w'
theorem ExB.refl (B : Nat) (w : World) : ExB B w w := Below.refl _ _
theorem ExB.trans {B : Nat} {a b c : World} (h : ExB B a b) (k : ExB B b c) : ExB B a c := Below.trans h k
theorem reg_beginB (B : Nat) {id : Nat} {a : Act} {w : World} (hm : P.follows .mixedOrders = true)
    (h : ∀ w0, Hid (w0.heap = w.heap) → ExB B w w0 → ExB B w0 w0 → wpAnyH P .any ops (NoPanic Q) (ExB B w0) ops.size (Array.replicate ops.size false) a w0) : (Code.region id ops true).wp P Q a w :=
  wp_region_noPanic <| wp_region_held_drew (S := ExB B w.drew) hm (ExB.refl _ _) (fun _ => h w.drew (hid rfl) (Below.drew (Below.refl _ _)) (ExB.refl _ _))
theorem reg_onB {B : Nat} {w w1 : World} {fuel : Nat} {listed : Array Bool} {a : Act} (h : ExB B w w1) (k : ExB B w1 w1 → wpAnyH P md ops Q (ExB B w1) fuel listed a w1) : wpAnyH P md ops Q (ExB B w) fuel listed a w1 :=
  held_weaken (fun _ h' => h.trans h') _ _ _ _ (k (ExB.refl _ _))
theorem reg_takeB (i : Nat) {B : Nat} {oi : Oper} {v : Value} {fuel : Nat} {listed : Array Bool} {a : Act} {w w1 : World} (hi : ops[i]? = some oi)
    (hs : Region.noSelect ops = true) (hf : Region.free md ops listed i = true) (hr : (Region.ready md ops listed).contains i = true)
    (hy : Region.wanted oi (yielded ops a.tmps) = true) (hv : ∀ w', ExB B w1 w' → (execOp a.eval oi).run P w' = .ok (.value v) w') (hS : ExB B w1 w)
    (h : wpAnyH P md ops (NoPanic Q) (ExB B w1) fuel (listed.setIfInBounds i true) (a.put oi.dst v) w) : wpAnyH P md ops (NoPanic Q) (ExB B w1) (fuel + 1) listed a w :=
  wpAnyH_take hi hs hf hr (fun _ _ _ h => h) (Or.inl ⟨hy, hv⟩) hS h
/-- append at a step of a region, by its run's equation. -/
theorem step_append8 {w w' : World} {o : Oper} {a : Act} {K : Act → World → Prop} {Q : Exit → Act → World → Prop} {y : Nat → Option Bool} {v v' u : Value} (hgd : o.guard = none) (s x : Operand)
    (hop : o.op = .call { callee := .builtin .append, args := #[s, x], argTypes := #[22, 22] }) (hs : a.eval s = v) (hx : a.eval x = u)
    (hrun : (Builtin.append_ #[22, 22] o.type #[v, u]).run Tryz.prog w = .ok v' w') (hk : K (a.put o.dst v') w') :
    if Region.wanted o y = true then Oper.wp Tryz.prog o a w K Q else K (a.put o.dst undef) w := by
  simp only [Region.wanted, hgd, if_true]
  unfold Oper.wp execOp
  simp only [hop, resolve, invoke, builtin, Sem.run_bind, Sem.run_pure, Result.andThen_ok, List.map_toArray, List.map_cons, List.map_nil, hs, hx, hrun]
  exact hk
theorem reg_skip {P : Program} {md : Region.Mode} {ops : Array Oper} {Q : Exit → Act → World → Prop} (i : Nat) {oi : Oper} {fuel : Nat} {listed : Array Bool} {a : Act} {w w1 : World} (hi : ops[i]? = some oi)
    (hs : Region.noSelect ops = true) (hf : Region.free md ops listed i = true) (hr : (Region.ready md ops listed).contains i = true)
    (hy : Region.wanted oi (yielded ops a.tmps) = false) (hS : Ext w1 w)
    (h : wpAnyH P md ops (NoPanic Q) (Ext w1) fuel (listed.setIfInBounds i true) (a.put oi.dst undef) w) : wpAnyH P md ops (NoPanic Q) (Ext w1) (fuel + 1) listed a w :=
  wpAnyH_take hi hs hf hr (fun _ _ _ h => h) (Or.inr ⟨hy, rfl⟩) hS h
end Go.Proofs.YteggkojlpgkhbaaGreat
