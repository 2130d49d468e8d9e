/-
  Maps with numbers as keys, read as functions: a map that a call owns holds at each number what the function says.
  The map of the deeds of layer 8.
  What a change makes is a right table: mathematics.
  The statements' own named, of layer 8.
-/
import Derived.Test.YtjodbopnibdolaaGreatM1
import Derived.Test.YtjodbopnibdolaaGreatM5
import Derived.Maps.OwnOps
import Derived.Maps.OwnSet
import Derived.Maps.RangeWalk
import Derived.Maps.Ext
import Derived.Deep.MidRow
import Derived.Deep.WholeRow
import Derived.Test.YtjodbopnibdolaaGreatM27
import Derived.Test.YtjodbopnibdolaaGreatM22

namespace Go.Proofs.YtjodbopnibdolaaGreat
open Go.RowKit Go.Maps
set_option linter.unusedVariables false

/-- An element reads as itself. -/
def RV (v : Value) : Option (DataW Value × List MemPlace) := some (.held v, [])
theorem kI : Keyed Tryz.prog 3 := int_keyed Tryz.underlying3
theorem keyI {k : Int} (h : I64 k) : keyOf Tryz.prog 3 (.int .i64 k) = some (.int .i64 k) := keyOf_int_mk Tryz.underlying3 h

def vw (o : Option Value) (z : DataW Value) : DataW Value := match o with
  | some v => .held v
  | none => z

/-- Block b is a map of at most n entries that holds at each number what f says. -/
def Mp (w : World) (b n : Nat) (f : Int → Option Value) : Prop :=
  ∃ D : DataW Value, w.ownsMap Tryz.prog 3 RV b n D ∧ (∀ k, I64 k → ∀ z, D.atKey (.int .i64 k) z = vw (f k) z) ∧ ∀ k, f k ≠ none → I64 k

def upd {α : Type} (f : Int → Option α) (k : Int) (v : α) : Int → Option α := fun j => if j = k then some v else f j
def cut {α : Type} (f : Int → Option α) (k : Int) : Int → Option α := fun j => if j = k then none else f j

theorem has_vw {D : DataW Value} {kl : Lit} {o : Option Value} (h : ∀ z, D.atKey kl z = vw o z) : Maps.has D kl = o.isSome := by
  cases o with
  | none => exact Maps.has_false_of_atKey h
  | some v => exact Maps.has_true_of_atKey (y := .held v) h

section
variable {w w' : World} {b n : Nat} {f : Int → Option Value} {k : Int} {v : Value}
theorem Mp.made (w : World) : Mp (w.alloc (.map #[] 0)) w.heap.size 0 (fun _ => none) :=
  ⟨.map [], World.ownsMap_made _ _ _ _, fun k hk z => rfl, fun k hk => absurd rfl hk⟩
theorem Mp.lt (h : Mp w b n f) : b < w.heap.size := by obtain ⟨D, ho, _⟩ := h; exact ho.lt
theorem Mp.mono {m : Nat} (h : Mp w b n f) (hm : n ≤ m) : Mp w b m f := by obtain ⟨D, ho, h2⟩ := h; exact ⟨D, ho.mono hm, h2⟩
theorem Mp.isMap (h : Mp w b n f) : ∃ es c, w.heap[b]? = some (.map es c) := by obtain ⟨D, ⟨es, c, hb, _⟩, _⟩ := h; exact ⟨es, c, hb⟩
theorem Mp.cong (h : Mp w b n f) (hb : w'.heap[b]? = w.heap[b]?) : Mp w' b n f := by
  obtain ⟨D, ⟨es, c, h0, h1⟩, h2⟩ := h
  exact ⟨D, ⟨es, c, hb.trans h0, h1⟩, h2⟩
theorem Mp.ext {g : Int → Option Value} (h : Mp w b n f) (e : ∀ k, f k = g k) : Mp w b n g := by
  have : f = g := funext e
  subst this; exact h
theorem Mp.kept {row : Option Nat} (h : Mp w b n f) (hg : w.grownBy w' row) (hne : some b ≠ row) : Mp w' b n f := h.cong (hg.block b h.lt hne)
theorem Mp.below {B : Nat} (h : Mp w b n f) (hb : Below B w w') (hlt : b < B) : Mp w' b n f := h.cong (hb.block b hlt)
theorem Mp.alloc (h : Mp w b n f) (o : Obj) : Mp (w.alloc o) b n f := h.kept (World.grownBy_alloc w o none) (by simp)
theorem Mp.drew (h : Mp w b n f) : Mp w.drew b n f := h
theorem Mp.wf (h : Mp w b n f) (hk : f k ≠ none) : I64 k := by obtain ⟨D, _, _, h3⟩ := h; exact h3 k hk

theorem Mp.look_ok {t e : TypeId} {z : Value} (h : Mp w b n f) (ht : Tryz.prog.underlying t = some (.map 3 e)) (hz : (zeroValue e).run Tryz.prog w = .ok z w) (hk : I64 k) :
    (Instr.lookup t (.map (some b)) (.int .i64 k) true).run Tryz.prog w = .ok (.tuple #[(f k).getD z, .bool (f k).isSome]) w := by
  obtain ⟨D, ho, h1, h2⟩ := h
  obtain ⟨v, ps, hr, hv⟩ := ho.look_ok kI ht hz (zd := .held z) (zp := []) rfl (keyI hk)
  rw [hr, has_vw (h1 k hk)]
  rw [h1 k hk] at hv
  simp only [RV, Option.some.injEq, Prod.mk.injEq] at hv
  cases hf : f k with
  | none => rw [hf] at hv; simp only [vw, DataW.held.injEq] at hv; rw [hv.1]; rfl
  | some u => rw [hf] at hv; simp only [vw, DataW.held.injEq] at hv; rw [hv.1]; rfl

theorem Mp.look {t e : TypeId} {z : Value} (h : Mp w b n f) (ht : Tryz.prog.underlying t = some (.map 3 e)) (hz : (zeroValue e).run Tryz.prog w = .ok z w) (hk : I64 k) :
    (Instr.lookup t (.map (some b)) (.int .i64 k) false).run Tryz.prog w = .ok ((f k).getD z) w := by
  obtain ⟨D, ho, h1, h2⟩ := h
  obtain ⟨v, ps, hr, hv⟩ := ho.lookup kI ht hz (zd := .held z) (zp := []) rfl (keyI hk)
  rw [hr]
  rw [h1 k hk] at hv
  simp only [RV, Option.some.injEq, Prod.mk.injEq] at hv
  cases hf : f k with
  | none => rw [hf] at hv; simp only [vw, DataW.held.injEq] at hv; rw [hv.1]; rfl
  | some u => rw [hf] at hv; simp only [vw, DataW.held.injEq] at hv; rw [hv.1]; rfl

theorem lit_ne {j k : Int} (h : j ≠ k) : (Lit.int .i64 j) ≠ (Lit.int .i64 k) := by intro e; cases e; exact h rfl

theorem Mp.store {t e : TypeId} (h : Mp w b n f) (ht : Tryz.prog.underlying t = some (.map 3 e)) (hn : n < maxLen) (hk : I64 k) (v : Value) :
    ∃ w', (Instr.mapUpdate t (.map (some b)) (.int .i64 k) v).run Tryz.prog w = .ok () w' ∧ Mp w' b (n + 1) (upd f k v) ∧ w.mapTurned w' b := by
  obtain ⟨D, ho, h1, h2⟩ := h
  obtain ⟨w', hr, ho', hm⟩ := ho.store kI ht hn (keyI hk) (d := .held v) (ps := []) rfl
  refine ⟨w', hr, ⟨_, ho', fun j hj z => ?_, fun j hj => ?_⟩, hm⟩
  · by_cases e : j = k
    · subst e; rw [atKey_put_same (k := .int .i64 j) ho.isMap trivial]; simp [upd, vw]
    · rw [atKey_put_other (lit_ne e), h1 j hj]; simp [upd, e]
  · by_cases e : j = k
    · subst e; exact hk
    · exact h2 j (by simpa [upd, e] using hj)

theorem Mp.drop {t e : TypeId} (h : Mp w b n f) (ht : Tryz.prog.underlying t = some (.map 3 e)) (hk : I64 k) (ty : TypeId) :
    ∃ w', (Builtin.delete_ #[t, 3] ty #[.map (some b), .int .i64 k]).run Tryz.prog w = .ok (.tuple #[]) w' ∧ Mp w' b n (cut f k) ∧ w.mapTurned w' b := by
  obtain ⟨D, ho, h1, h2⟩ := h
  obtain ⟨w', hr, ho', hm⟩ := ho.drop kI ht (keyI hk) ty
  refine ⟨w', hr, ⟨_, ho', fun j hj z => ?_, fun j hj => ?_⟩, hm⟩
  · by_cases e : j = k
    · subst e; rw [atKey_del_same]; simp [cut, vw]
    · rw [atKey_del_other (lit_ne e), h1 j hj]; simp [cut, e]
  · by_cases e : j = k
    · subst e; exact hk
    · exact h2 j (by simpa [cut, e] using hj)

theorem Mp.clear {t e : TypeId} (h : Mp w b n f) (ht : Tryz.prog.underlying t = some (.map 3 e)) :
    ∃ w', (∀ ty, (Builtin.clear_ #[t] ty #[.map (some b)]).run Tryz.prog w = .ok (.tuple #[]) w') ∧ Mp w' b 0 (fun _ => none) ∧ w.mapTurned w' b := by
  obtain ⟨D, ⟨es, c, hb, F, hs, hD⟩, h1, h2⟩ := h
  have hst := F.stamped
  refine ⟨ChangeMaps.setBlock w b (.map #[] c), ?_, ⟨.map [], ⟨#[], c, ChangeMaps.heap_setBlock_same hb _, ⟨by simp, ?_, by simp⟩, Nat.le_refl _, rfl⟩, fun k hk z => rfl, fun k hk => absurd rfl hk⟩, ⟨es, c, #[], c, hb, rfl⟩⟩
  · intro ty; simp [Builtin.clear_, run_underlying ht, MapKept.run_getObj_map hb, MapKept.run_setObj_map _ hb, Result.andThen, ChangeMaps.setBlock]
  · exact MapKept.stamped_empty c
end

theorem turned_size {w w' : World} {b : Nat} (h : w.mapTurned w' b) : w'.heap.size = w.heap.size := by
  obtain ⟨es, c, es', c', hb, rfl⟩ := h; simp [ChangeMaps.setBlock]

/-! ### at the operation, for the walk -/
section
variable {w : World} {ops : Array Oper} {rest : List Oper} {o : Oper} {a : Act} {Q : Exit → Act → World → Prop} {b n : Nat} {f : Int → Option Value} {k : Int} {v : Value}
theorem wpList_storeM (hg : o.guard = none) (m x y : Operand) (t : TypeId) (hop : o.op = Op.mapUpdate t m x y) (e : TypeId) (ht : Tryz.prog.underlying t = some (.map 3 e))
    (h : Mp w b n f) (hm : a.eval m = .map (some b)) (hn : n < maxLen) (hx : a.eval x = .int .i64 k) (hv : a.eval y = v) (hk : I64 k)
    (hK : ∀ w', Mp w' b (n + 1) (upd f k v) → w.mapTurned w' b → wpList Tryz.prog ops Q rest (a.put o.dst undef) w') : wpList Tryz.prog ops Q (o :: rest) a w := by
  refine wpList_plain hg fun K' hK' => ?_
  obtain ⟨w', hrun, r1, r2⟩ := h.store ht hn hk v
  unfold Oper.wp
  simp [execOp, hop, hm, hx, hv, hrun, Result.andThen]
  exact hK' _ _ (hK w' r1 r2)
theorem wpList_dropM (hg : o.guard = none) (m x : Operand) (t : TypeId) (hop : o.op = Op.call { callee := Callee.builtin Builtin.delete, args := #[m, x], argTypes := #[t, 3] }) (e : TypeId) (ht : Tryz.prog.underlying t = some (.map 3 e))
    (h : Mp w b n f) (hm : a.eval m = .map (some b)) (hx : a.eval x = .int .i64 k) (hk : I64 k)
    (hK : ∀ w', Mp w' b n (cut f k) → w.mapTurned w' b → wpList Tryz.prog ops Q rest (a.put o.dst (.tuple #[])) w') : wpList Tryz.prog ops Q (o :: rest) a w := by
  refine wpList_plain hg fun K' hK' => ?_
  obtain ⟨w', hrun, r1, r2⟩ := h.drop ht hk o.type
  unfold Oper.wp
  simp [execOp, hop, resolve, invoke, builtin, hm, hx, hrun, Result.andThen]
  exact hK' _ _ (hK w' r1 r2)
theorem wpList_clearM (hg : o.guard = none) (m : Operand) (t : TypeId) (hop : o.op = Op.call { callee := Callee.builtin Builtin.clear, args := #[m], argTypes := #[t] }) (e : TypeId) (ht : Tryz.prog.underlying t = some (.map 3 e))
    (h : Mp w b n f) (hm : a.eval m = .map (some b))
    (hK : ∀ w', Mp w' b 0 (fun _ => none) → w.mapTurned w' b → wpList Tryz.prog ops Q rest (a.put o.dst (.tuple #[])) w') : wpList Tryz.prog ops Q (o :: rest) a w := by
  refine wpList_plain hg fun K' hK' => ?_
  obtain ⟨w', hrun, r1, r2⟩ := h.clear ht
  unfold Oper.wp
  simp [execOp, hop, resolve, invoke, builtin, hm, hrun, Result.andThen]
  exact hK' _ _ (hK w' r1 r2)

/-- A range over the map, under way: what is left to come. -/
def MRg (w : World) (b r n : Nat) (f : Int → Option Value) (left : Int → Bool) (cnt : Nat) : Prop :=
  ∃ (D : DataW Value) (lf : Lit → Bool), w.ranges Tryz.prog 3 RV b r n D lf cnt ∧ (∀ k, I64 k → ∀ z, D.atKey (.int .i64 k) z = vw (f k) z) ∧ (∀ k, f k ≠ none → I64 k) ∧ ∀ k, I64 k → lf (.int .i64 k) = left k
theorem MRg.mp {r cnt : Nat} {left : Int → Bool} (h : MRg w b r n f left cnt) : Mp w b n f := by obtain ⟨D, lf, hr, h1, h2, _⟩ := h; exact ⟨D, hr.owns, h1, h2⟩
theorem MRg.lt {r cnt : Nat} {left : Int → Bool} (h : MRg w b r n f left cnt) : r < w.heap.size := by obtain ⟨D, lf, hr, _⟩ := h; exact hr.lt
theorem MRg.ne {r cnt : Nat} {left : Int → Bool} (h : MRg w b r n f left cnt) : r ≠ b := by obtain ⟨D, lf, hr, _⟩ := h; exact hr.ne
theorem MRg.left_eq {r cnt : Nat} {left : Int → Bool} (h : MRg w b r n f left cnt) : w.rangeLeft b r = cnt := by obtain ⟨D, lf, hr, _⟩ := h; exact hr.left_eq
theorem MRg.kept {w' : World} {row : Option Nat} {r cnt : Nat} {left : Int → Bool} (h : MRg w b r n f left cnt) (hg : w.grownBy w' row) (h1 : some b ≠ row) (h2 : some r ≠ row) : MRg w' b r n f left cnt := by
  obtain ⟨D, lf, hr, h3⟩ := h; exact ⟨D, lf, hr.kept hg h1 h2, h3⟩
theorem MRg.alloc {r cnt : Nat} {left : Int → Bool} (h : MRg w b r n f left cnt) (ob : Obj) : MRg (w.alloc ob) b r n f left cnt := h.kept (World.grownBy_alloc w ob none) (by simp) (by simp)

theorem wpList_rangeM (hg : o.guard = none) (m : Operand) (t : TypeId) (hop : o.op = Op.range t m) (e : TypeId) (ht : Tryz.prog.underlying t = some (.map 3 e))
    (h : Mp w b n f) (hm : a.eval m = .map (some b))
    (hK : ∀ w' cnt, MRg w' b w.heap.size n f (fun k => (f k).isSome) cnt → w.grownBy w' none → w'.heap.size = w.heap.size + 1 → wpList Tryz.prog ops Q rest (a.put o.dst (.pointer (some ⟨w.heap.size, 0, none⟩))) w') :
    wpList Tryz.prog ops Q (o :: rest) a w := by
  obtain ⟨D, ho, h1, h2⟩ := h
  exact wpList_range_own w hg m t hop _ e kI ht RV b n D hm ho (fun w' hr hgr hs => hK w' _ ⟨D, _, hr, h1, h2, fun k hk => has_vw (h1 k hk)⟩ hgr hs)

theorem same_int (j k : Int) : (Lit.int .i64 j).sameKey (Lit.int .i64 k) = decide (j = k) := by
  by_cases h : j = k
  · subst h; simp; exact WideAt.sameKey_self trivial
  · simp [h]; exact Maps.sameKey_ne (lit_ne h)

theorem wpList_nextM (hg : o.guard = none) (it : Operand) (hop : o.op = Op.next it false) {r cnt : Nat} {left : Int → Bool} (h : MRg w b r n f left cnt) (hit : a.eval it = .pointer (some ⟨r, 0, none⟩))
    (hDone : (∀ k, I64 k → left k = false) → wpList Tryz.prog ops Q rest (a.put o.dst (.tuple #[.bool false])) w)
    (hMore : ∀ (x : Int) (c : Value) (w' : World) (cnt' : Nat), I64 x → left x = true → f x = some c → MRg w' b r n f (fun z => left z && !decide (z = x)) cnt' → cnt' < cnt →
      w.grownBy w' (some r) → w'.heap.size = w.heap.size → (Instr.entry (.pointer (some ⟨r, 0, none⟩))).run Tryz.prog w' = .ok (.tuple #[.int .i64 x, c]) w' → wpList Tryz.prog ops Q rest (a.put o.dst (.tuple #[.bool true, .int .i64 x, c])) w') :
    wpList Tryz.prog ops Q (o :: rest) a w := by
  obtain ⟨D, lf, hr, h1, h2, h3⟩ := h
  refine wpList_next_ranges w hg it hop 3 kI RV (Value.int .i64) (fun c : Value => c) (fun key kl hkey => by obtain ⟨x, rfl, _⟩ := Maps.keyOf_int_inv Tryz.underlying3 hkey; exact ⟨x, rfl⟩) (fun v y _ => ⟨v, rfl⟩) b r n D lf cnt hit hr (fun _ hl => hDone fun k hk => (h3 k hk).symm.trans (hl _)) ?_
  intro x c kl y w' cnt' hkey hlk hv hat hrg hlt hgr hsz hen
  obtain ⟨x', ex, rfl, hwx⟩ := Maps.keyOf_int_inv Tryz.underlying3 hkey
  cases ex
  have hx : I64 x := hwx
  have hy : y.1 = .held c := by simp only [RV, Option.some.injEq] at hv; rw [← hv]
  have hf : f x = some c := by
    have := hat .nil
    rw [h1 x hx, hy] at this
    cases hfx : f x with
    | none => rw [hfx] at this; simp [vw] at this
    | some u => rw [hfx] at this; simp [vw] at this; rw [this]
  exact hMore x c w' cnt' hx ((h3 x hx).symm.trans hlk) hf ⟨D, _, hrg, h1, h2, fun j hj => by simp only [h3 j hj, same_int]⟩ hlt hgr hsz hen
end

/-! ### how many -/
theorem pigeon : ∀ (m : Nat) (l : List Int), l.Nodup → (∀ x ∈ l, 0 ≤ x ∧ x < m) → l.length ≤ m
  | 0, [], _, _ => Nat.le_refl _
  | 0, x :: l, _, h => by have := h x (by simp); omega
  | m + 1, l, hn, h => by
    have h1 := pigeon m (l.erase m) (hn.erase _) (fun x hx => by
      have h2 := h x (List.mem_of_mem_erase hx)
      have h3 : x ≠ m := fun e => by subst e; exact (hn.not_mem_erase) hx
      omega)
    have := List.length_erase_le (a := (m : Int)) (l := l)
    have h4 : l.length ≤ (l.erase m).length + 1 := by rw [List.length_erase]; split <;> omega
    omega

def keyNum : Lit → Int
  | .int _ k => k
  | _ => 0

theorem Mp.small {w : World} {b n N : Nat} {f : Int → Option Value} (h : Mp w b n f) (hN : ∀ k, f k ≠ none → 0 ≤ k ∧ k < N) : Mp w b N f := by
  obtain ⟨D, ho, h1, h2⟩ := h
  obtain ⟨es, hD, hp, hk⟩ := ho.entries kI
  have hsz : Maps.size D ≤ N := by
    have hkeys : ∀ p ∈ es, ∃ k, p.1 = .int .i64 k ∧ f k ≠ none := by
      intro p hpm
      have hkl : ∃ k, p.1 = .int .i64 k ∧ I64 k := by
        obtain ⟨es', c, hb, F, hs, hDD⟩ := ho
        rw [hDD] at hD
        cases hD
        obtain ⟨x, hx, rfl⟩ := List.mem_map.1 (mem_sorted.1 hpm)
        obtain ⟨y, hy⟩ := F.reads x hx
        obtain ⟨k, _, e2, e3⟩ := Maps.keyOf_int_inv Tryz.underlying3 (WideElems.rd_key hy)
        exact ⟨k, by rw [WideElems.rg_of hy]; exact e2, e3⟩
      obtain ⟨k, e1, e2⟩ := hkl
      refine ⟨k, e1, fun e => ?_⟩
      have h5 := has_vw (h1 k e2)
      rw [e] at h5
      have h6 : Maps.has D (.int .i64 k) = true := by
        rw [hD]; exact List.any_eq_true.2 ⟨p, hpm, by rw [e1]; exact WideAt.sameKey_self trivial⟩
      rw [h6] at h5; cases h5
    subst hD
    have := pigeon N (es.map fun p => keyNum p.1) ?_ ?_
    · simpa [Maps.size] using this
    · rw [List.nodup_iff_pairwise_ne, List.pairwise_map]
      refine hp.imp_of_mem ?_
      intro p q hp1 hq1 hne e
      obtain ⟨k, hk1, _⟩ := hkeys p hp1
      obtain ⟨j, hj1, _⟩ := hkeys q hq1
      rw [hk1, hj1] at hne e
      exact hne (by simp [keyNum] at e; rw [e])
    · intro x hx
      obtain ⟨p, hp1, rfl⟩ := List.mem_map.1 hx
      obtain ⟨k, hk1, hk2⟩ := hkeys p hp1
      rw [hk1]; exact hN k hk2
  obtain ⟨es', c, hb, F, hs, hDD⟩ := ho
  refine ⟨D, ⟨es', c, hb, F, ?_, hDD⟩, h1, h2⟩
  rw [hDD] at hsz
  simpa [Maps.size, length_sorted] using hsz
end Go.Proofs.YtjodbopnibdolaaGreat

namespace Go.Proofs.YtjodbopnibdolaaGreat
open Go.RowKit
set_option linter.unusedVariables false
set_option linter.unusedSimpArgs false

theorem wpList_insM {w : World} {ops : Array Oper} {rest : List Oper} {o : Oper} {a : Act} {Q : Exit → Act → World → Prop} {b n : Nat} {f : Int → Option Value} {k : Int} {v : Value} (hg : o.guard = none) (m x y : Operand) (t : TypeId) (hop : o.op = Op.insert t m x y) (e : TypeId) (ht : Tryz.prog.underlying t = some (.map 3 e))
    (h : Mp w b n f) (hm : a.eval m = .map (some b)) (hn : n < maxLen) (hx : a.eval x = .int .i64 k) (hv : a.eval y = v) (hk : I64 k)
    (hK : ∀ w', Mp w' b (n + 1) (upd f k v) → w.mapTurned w' b → wpList Tryz.prog ops Q rest (a.put o.dst undef) w') : wpList Tryz.prog ops Q (o :: rest) a w := by
  refine wpList_plain hg fun K' hK' => ?_
  obtain ⟨w', hrun, r1, r2⟩ := h.store ht hn hk v
  unfold Oper.wp
  simp [execOp, hop, hm, hx, hv, hrun, Result.andThen]
  exact hK' _ _ (hK w' r1 r2)
def clo (F : Nat) (l : List Nat) : Value := .func (.func F) #[] (l.map fun b => Value.pointer (some ⟨b, 0, none⟩)).toArray
/-- The deeds by their numbers. -/
def deedF (b p1 p2 : Nat) (k : Int) : Option Value :=
  if k = 1 then some (clo 58 [b]) else if k = 2 then some (clo 60 [b]) else if k = 3 then some (clo 62 [b, p1]) else if k = 4 then some (clo 64 [b, p2]) else if k = 5 then some (clo 65 [b]) else none
def DeedsQ (w : World) (c : Ch) (A : Option Addr) (n cp : Nat) (e : Ending) (w' : World) : Prop :=
  ∃ b p1 p2 m, e = .returned (.map (some m)) ∧ CB w' b c A n cp 57 ∧ TellB w' p1 56 b ∧ TellB w' p2 57 b ∧ Mp w' m 5 (deedF b p1 p2) ∧ Below w.heap.size w w'

set_option maxRecDepth 20000 in
set_option maxHeartbeats 8000000 in
theorem deeds_any {w : World} {c : Ch} {A : Option Addr} {n cp : Nat} : Calls Tryz.prog 34 #[chV c A n cp] w (DeedsQ w c A n cp) := by
  obtain ⟨b, hb⟩ : ∃ b, b = w.heap.size := ⟨_, rfl⟩
  obtain ⟨wa, hwa⟩ : ∃ wa, wa = w.alloc (.cells #[.int .i64 c.op, .string (bs c.nm), .string (bs c.to.nm), .int .i64 c.to.k, .int .i64 c.to.g, .int .i64 c.dk, .int .u64 c.dn, .string c.dt, .slice A n cp] 57) := ⟨_, rfl⟩
  have HB := hid hb; have HWA := hid hwa
  have HBA : Hid (Below w.heap.size w wa) := by rw [hwa]; exact hid (B1 _ _)
  have HCA : Hid (CB wa b c A n cp 57) := by rw [hwa, hb]; exact hid (CB.new w c A n cp _)
  clear hwa hb
  obtain ⟨p1, hp1⟩ : ∃ p1, p1 = wa.heap.size := ⟨_, rfl⟩
  obtain ⟨wb, hwb⟩ : ∃ wb, wb = (wa.alloc (.cells #[.nilFunc] 101)).setCell ⟨p1, 0, none⟩ (.func (.func 56) #[] #[.pointer (some ⟨b, 0, none⟩)]) := ⟨_, rfl⟩
  have HP1 := hid hp1; have HWB := hid hwb
  have hst1 : (store ⟨p1, 0, none⟩ (.func (.func 56) #[] #[.pointer (some ⟨b, 0, none⟩)])).run Tryz.prog (wa.alloc (.cells #[.nilFunc] 101)) = .ok () wb := by
    rw [run_store _ _ _ _ _ (by rfl), hwb]
    have h1 : (wa.alloc (.cells #[.nilFunc] 101)).heap[p1]? = some (.cells #[.nilFunc] 101 (0, 0)) := by rw [hp1]; exact heap_alloc_new _ _
    simp [row_cell h1, row_frozen h1]
  have HBB : Hid (Below w.heap.size w wb) := by rw [hwb]; exact hid ((Ba HBA.out _).setCell (p := ⟨p1, 0, none⟩) (show w.heap.size ≤ p1 by rw [hp1]; exact HBA.out.size) _)
  have HAB : Hid (Below wa.heap.size wa wb) := by rw [hwb]; exact hid ((B1 _ _).setCell (p := ⟨p1, 0, none⟩) (show wa.heap.size ≤ p1 by omega) _)
  have HT1B : Hid (TellB wb p1 56 b) := by
    have h1 : (wa.alloc (.cells #[.nilFunc] 101)).heap[p1]? = some (.cells #[.nilFunc] 101 (0, 0)) := by rw [hp1]; exact heap_alloc_new _ _
    rw [hwb]; exact hid (row_set h1 0 _)
  rw [hp1] at hst1
  clear hwb hp1
  obtain ⟨p2, hp2⟩ : ∃ p2, p2 = wb.heap.size := ⟨_, rfl⟩
  obtain ⟨w0, hw0⟩ : ∃ w0, w0 = (wb.alloc (.cells #[.nilFunc] 101)).setCell ⟨p2, 0, none⟩ (.func (.func 57) #[] #[.pointer (some ⟨b, 0, none⟩)]) := ⟨_, rfl⟩
  have HP2 := hid hp2; have HW0 := hid hw0
  have hst2 : (store ⟨p2, 0, none⟩ (.func (.func 57) #[] #[.pointer (some ⟨b, 0, none⟩)])).run Tryz.prog (wb.alloc (.cells #[.nilFunc] 101)) = .ok () w0 := by
    rw [run_store _ _ _ _ _ (by rfl), hw0]
    have h1 : (wb.alloc (.cells #[.nilFunc] 101)).heap[p2]? = some (.cells #[.nilFunc] 101 (0, 0)) := by rw [hp2]; exact heap_alloc_new _ _
    simp [row_cell h1, row_frozen h1]
  have HBC : Hid (Below wb.heap.size wb w0) := by rw [hw0]; exact hid ((B1 _ _).setCell (p := ⟨p2, 0, none⟩) (show wb.heap.size ≤ p2 by omega) _)
  have HB0 : Hid (Below w.heap.size w w0) := hid (Bt HBB.out HBC.out)
  have HC0 : Hid (CB w0 b c A n cp 57) := hid ((HCA.out.on HAB.out).on HBC.out)
  have HT1 : Hid (TellB w0 p1 56 b) := hid (HT1B.out.on HBC.out)
  have HT2 : Hid (TellB w0 p2 57 b) := by
    have h1 : (wb.alloc (.cells #[.nilFunc] 101)).heap[p2]? = some (.cells #[.nilFunc] 101 (0, 0)) := by rw [hp2]; exact heap_alloc_new _ _
    rw [hw0]; exact hid (row_set h1 0 _)
  rw [hp2] at hst2
  clear hw0 hp2
  obtain ⟨m, hm⟩ : ∃ m, m = w0.heap.size := ⟨_, rfl⟩
  obtain ⟨w1, hw1⟩ : ∃ w1, w1 = w0.alloc (.map #[] 0) := ⟨_, rfl⟩
  have HM := hid hm; have HW1 := hid hw1
  have HM1 : Hid (Mp w1 m 0 (fun _ => none)) := by rw [hw1, hm]; exact hid (Mp.made w0)
  have HB1 : Hid (Below w0.heap.size w0 w1) := by rw [hw1]; exact hid (B1 _ _)
  have hmm := @run_makeMap Tryz.prog
  have hk : ∀ k : Int, 0 ≤ k → k ≤ 5 → I64 k := fun k h0 h5 => i64_iff.2 ⟨by omega, by omega⟩
  obtain ⟨w2, r2, m2, t2⟩ := HM1.out.store Tryz.underlying80 (by decide) (hk 1 (by omega) (by omega)) (.func (.func 58) #[] #[.pointer (some ⟨b, 0, none⟩)])
  obtain ⟨w3, r3, m3, t3⟩ := m2.store Tryz.underlying80 (by decide) (hk 2 (by omega) (by omega)) (.func (.func 60) #[] #[.pointer (some ⟨b, 0, none⟩)])
  obtain ⟨w4, r4, m4, t4⟩ := m3.store Tryz.underlying80 (by decide) (hk 3 (by omega) (by omega)) (.func (.func 62) #[] #[.pointer (some ⟨b, 0, none⟩), .pointer (some ⟨p1, 0, none⟩)])
  obtain ⟨w5, r5, m5, t5⟩ := m4.store Tryz.underlying80 (by decide) (hk 4 (by omega) (by omega)) (.func (.func 64) #[] #[.pointer (some ⟨b, 0, none⟩), .pointer (some ⟨p2, 0, none⟩)])
  obtain ⟨w6, r6, m6, t6⟩ := m5.store Tryz.underlying80 (by decide) (hk 5 (by omega) (by omega)) (.func (.func 65) #[] #[.pointer (some ⟨b, 0, none⟩)])
  have hgr : w1.grownBy w6 (some m) := (((t2.grown.trans t3.grown).trans t4.grown).trans t5.grown).trans t6.grown
  have HB6 : Hid (Below w0.heap.size w0 w6) := hid (HB1.out.grown hgr HB1.out.size (fun j e => by cases e; exact Nat.le_of_eq hm.symm))
  have HMP : Hid (Mp w6 m 5 (deedF b p1 p2)) := hid (m6.ext fun k => by
    unfold upd deedF clo
    by_cases e5 : k = 5
    · subst e5; rfl
    · by_cases e4 : k = 4
      · subst e4; rfl
      · by_cases e3 : k = 3
        · subst e3; rfl
        · by_cases e2 : k = 2
          · subst e2; rfl
          · by_cases e1 : k = 1
            · subst e1; rfl
            · simp [e1, e2, e3, e4, e5])
  rw [hw1, hm] at r2
  rw [hm] at r3 r4 r5 r6
  clear m2 m3 m4 m5 m6 t2 t3 t4 t5 t6 hgr hm hw1 hk
  unfold chV
  go_enter Tryz.func34, Tryz.ntmps34
  go_upto_region 1 with fail
  rw [← HWA.out, ← HB.out]
  go_upto_region 2 with fail
  rw [← HP1.out]
  go_upto_region 3 with fail
  rw [← HP2.out]
  go_wp2_with fail
  go_ret
  rw [← HM.out]
  exact ⟨b, p1, p2, m, rfl, HC0.out.on HB6.out, HT1.out.on HB6.out, HT2.out.on HB6.out, HMP.out, Bt HB0.out HB6.out⟩
end Go.Proofs.YtjodbopnibdolaaGreat

namespace Go.Proofs.YtjodbopnibdolaaGreat
open Go.RowKit
set_option linter.unusedVariables false
set_option linter.unusedSimpArgs false

theorem newF_get {l : List Fd} {c : Ch} {k : Option Nat} : ∀ {n : Nat}, n ≤ l.length → ∀ {i : Nat} {f' : Fd}, (newF l c k n)[i]? = some f' → ∃ x f, (idxs c k n)[i]? = some x ∧ l[x]? = some f ∧ f' = ed c k x f
  | 0, _, i, f', h => by simp [newF, idxs] at h
  | n + 1, hn, i, f', h => by
    have hf : l[n]? = some l[n] := List.getElem?_eq_getElem (by omega)
    cases hk : keepB c k n with
    | false =>
      rw [newF_drop hk] at h
      obtain ⟨x, f, h1, h2, h3⟩ := newF_get (by omega) h
      exact ⟨x, f, by rw [idxs_succ, hk]; simpa using h1, h2, h3⟩
    | true =>
      rw [newF_keep hf hk] at h
      have hl := newF_length_eq (l := l) (c := c) (k := k) (n := n) (by omega)
      by_cases hi : i < (newF l c k n).length
      · rw [List.getElem?_append_left hi] at h
        obtain ⟨x, f, h1, h2, h3⟩ := newF_get (by omega) h
        exact ⟨x, f, by rw [idxs_succ, hk, List.getElem?_append_left (by omega)]; exact h1, h2, h3⟩
      · rw [List.getElem?_append_right (by omega)] at h
        have hi0 : i - (newF l c k n).length = 0 := by
          by_cases e : i - (newF l c k n).length = 0
          · exact e
          · rw [List.getElem?_eq_none (by simp; omega)] at h; cases h
        rw [hi0] at h
        simp at h
        refine ⟨n, l[n], ?_, hf, h.symm⟩
        rw [idxs_succ, hk, List.getElem?_append_right (by omega), ← hl, hi0]; rfl
theorem mkE_facts {l : List Fd} {c : Ch} (h : mkE l c = 0) : rightL l = true ∧ 1 ≤ c.op ∧ c.op ≤ 5 ∧ (2 ≤ c.op → c.op ≤ 4 → ∃ k, findN l c.nm = some k) ∧ noCast l c (findN l c.nm) l.length = false ∧ noAdd c = false ∧ noOrd l c = false ∧ rightL (newC l c) = true := by
  have hr := newC_right h
  unfold mkE at h
  rw [hr.1, if_neg (by simp)] at h
  by_cases h1 : c.op < 1 ∨ 5 < c.op
  · rw [if_pos h1] at h; omega
  · rw [if_neg h1] at h
    by_cases h2 : 2 ≤ c.op ∧ c.op ≤ 4 ∧ findN l c.nm = none
    · rw [if_pos h2] at h; omega
    · rw [if_neg h2] at h
      cases h3 : noCast l c (findN l c.nm) l.length with
      | true => rw [h3, if_pos rfl] at h; omega
      | false =>
        rw [h3, if_neg (by simp)] at h
        cases h4 : noAdd c with
        | true => rw [h4, if_pos rfl] at h; omega
        | false =>
          rw [h4, if_neg (by simp)] at h
          cases h5 : noOrd l c with
          | true => rw [h5, if_pos rfl] at h; omega
          | false =>
            refine ⟨hr.1, by omega, by omega, fun a b => ?_, rfl, rfl, rfl, hr.2⟩
            cases hf : findN l c.nm with
            | none => exact absurd ⟨a, b, hf⟩ h2
            | some k => exact ⟨k, rfl⟩
/-- Each kept field's move is one that may be. -/
theorem pass_may {l : List Fd} {c : Ch} (hr : rightL l = true) (hn : noCast l c (findN l c.nm) l.length = false) {i : Nat} {m : Mv} {f' : Fd} (hm : (mvF c (findN l c.nm) l.length)[i]? = some m) (hf : (newF l c (findN l c.nm) l.length)[i]? = some f') : mvB l m f' = true := by
  obtain ⟨x, f, h1, h2, h3⟩ := newF_get (Nat.le_refl _) hf
  unfold mvF at hm
  rw [List.getElem?_map, h1] at hm
  cases hm
  refine self_may hr h2 ?_
  have hs := casts_self (right_may hr f (List.mem_of_getElem? h2))
  rw [h3]
  unfold ed
  by_cases a : c.op = 3 ∧ findN l c.nm = some x
  · rw [if_pos a]; exact hs
  · rw [if_neg a]
    by_cases b : c.op = 4 ∧ findN l c.nm = some x
    · rw [if_pos b]
      cases hc : castsF f.k f.g c.to.k c.to.g with
      | true => rfl
      | false => rw [noCast_bad b.1 b.2 h2 hc] at hn; cases hn
    · rw [if_neg b]; exact hs
theorem mkT_right {l : List Fd} {c : Ch} (h : mkE l c = 0) : rightT (mkT l c) = true := by
  obtain ⟨hr, h1, h5, hk, hc, ha, ho, hn⟩ := mkE_facts h
  rw [mkT_ok h, rightT_iff]
  refine ⟨hr, hn, ?_, fun i m f' hm hf => ?_⟩
  · show (mvC l c).length = (newC l c).length
    unfold mvC newC
    by_cases o1 : c.op = 1
    · rw [if_pos o1, if_pos o1]; simp [mvF_length, newF_length_eq (Nat.le_refl l.length)]
    · rw [if_neg o1, if_neg o1]
      by_cases o5 : c.op = 5
      · rw [if_pos o5, if_pos o5]
        have hb : allB c.od l.length = true := by unfold noOrd at ho; simpa [o5] using ho
        rw [odF_length (allB_mem hb)]; simp [odM]
      · rw [if_neg o5, if_neg o5, mvF_length, newF_length_eq (Nat.le_refl _)]
  · show mvB l m f' = true
    have hm' : (mvC l c)[i]? = some m := hm
    have hf' : (newC l c)[i]? = some f' := hf
    unfold mvC at hm'
    unfold newC at hf'
    by_cases o1 : c.op = 1
    · rw [if_pos o1] at hm' hf'
      have hl : (mvF c (findN l c.nm) l.length).length = (newF l c (findN l c.nm) l.length).length := by rw [mvF_length, newF_length_eq (Nat.le_refl _)]
      by_cases hi : i < (newF l c (findN l c.nm) l.length).length
      · rw [List.getElem?_append_left (by omega)] at hm' hf'
        exact pass_may hr hc hm' hf'
      · rw [List.getElem?_append_right (by omega)] at hm' hf'
        have hi0 : i - (newF l c (findN l c.nm) l.length).length = 0 := by
          by_cases e : i - (newF l c (findN l c.nm) l.length).length = 0
          · exact e
          · rw [List.getElem?_eq_none (by simp; omega)] at hf'; cases hf'
        rw [hi0] at hf'; rw [hl, hi0] at hm'
        simp at hm' hf'
        subst hm'; subst hf'
        rw [mvB_new (m := ⟨-1, c.dk, c.dn, c.dt⟩) rfl]
        unfold noAdd at ha
        simp only [o1, decide_true, Bool.true_and, Bool.not_eq_false'] at ha
        exact ha
    · rw [if_neg o1] at hm' hf'
      by_cases o5 : c.op = 5
      · rw [if_pos o5] at hm' hf'
        have hb : allB c.od l.length = true := by unfold noOrd at ho; simpa [o5] using ho
        unfold odM at hm'
        rw [List.getElem?_map] at hm'
        cases hx : c.od[i]? with
        | none => rw [hx] at hm'; cases hm'
        | some x =>
          rw [hx] at hm'; cases hm'
          rw [odF_at (allB_mem hb) i x hx] at hf'
          have hxb := allB_mem hb x (List.mem_of_getElem? hx)
          rw [mvB_old (m := ⟨x, 0, 0, ⟨#[]⟩⟩) hxb.1 hf', casts_self (right_may hr f' (List.mem_of_getElem? hf'))]
          rfl
      · rw [if_neg o5] at hm' hf'
        exact pass_may hr hc hm' hf'
end Go.Proofs.YtjodbopnibdolaaGreat

namespace Go.Proofs.YtjodbopnibdolaaGreat
open Go.RowKit
set_option linter.unusedVariables false
set_option linter.unusedSimpArgs false

/-- Does a change name a field? -/
def namedB (cs : List Ch) (nm : List UInt8) : Bool := cs.any fun c => decide (c.nm = nm) || decide (c.to.nm = nm)
theorem named_yes {cs : List Ch} {nm : List UInt8} {j : Nat} {c : Ch} (hc : cs[j]? = some c) (h : c.nm = nm ∨ c.to.nm = nm) : namedB cs nm = true := by
  unfold namedB; rw [List.any_eq_true]
  exact ⟨c, List.mem_of_getElem? hc, by simpa using h⟩
theorem named_no {cs : List Ch} {nm : List UInt8} (h : ∀ (j : Nat) c, cs[j]? = some c → ¬ (c.nm = nm ∨ c.to.nm = nm)) : namedB cs nm = false := by
  cases hb : namedB cs nm with
  | false => rfl
  | true =>
    unfold namedB at hb; rw [List.any_eq_true] at hb
    obtain ⟨c, hc, hx⟩ := hb
    obtain ⟨j, hj⟩ := List.getElem?_of_mem hc
    exact absurd (by simpa using hx) (h j c hj)

set_option maxRecDepth 20000 in
set_option maxHeartbeats 4000000 in
theorem named_any {w : World} {A : Option Addr} {n cp : Nat} {cs : List Ch} (h : RdC w w.heap.size A n cp cs) (nm : List UInt8) :
    Calls Tryz.prog 12 #[.slice A n cp, .string (bs nm)] w fun e w' => e = .returned (.bool (namedB cs nm)) ∧ Below w.heap.size w w' := by
  have HL := hid h.1
  have hnm : (n : Int) ≤ 9223372036854775807 := by have := Nat.le_trans h.2.1 h.2.2.1; unfold maxLen at this; omega
  have H := hid h; clear h
  go_enter Tryz.func12, Tryz.ntmps12
  go_wp2_with fail
  go_loopw [9] (fun i wr => ∃ j : Nat, j ≤ n ∧ i = .int .i64 j ∧ Hid (∀ (m : Nat) c, m < j → cs[m]? = some c → ¬ (c.nm = nm ∨ c.to.nm = nm)) ∧ Hid (Below w.heap.size w wr)) (fun i _ => n - (intOf i).toNat)
  case atStart => exact ⟨0, by omega, rfl, hid (fun m _ hm => absurd hm (by omega)), B0 w⟩
  case round =>
    obtain ⟨j, hj, rfl, HN, HB⟩ := hrel
    by_cases hlt : j < n
    · obtain ⟨c, hc⟩ : ∃ c, cs[j]? = some c := ⟨_, List.getElem?_eq_getElem (by have := HL.out; omega)⟩
      obtain ⟨_, _, b, off, Ao, no, co, rfl, hcc, _⟩ := H.out.at hc
      have HC := hid hc
      obtain ⟨d0, d1, d2, d3, d4, d5, d6, d7, d8⟩ := hcc wr HB.out
      obtain ⟨e0, e1, e2, _⟩ := (CB.new wr c Ao no co 52).cells
      have hji : (j : Int) < n := by omega
      have hj0 : (0 : Int) ≤ j := by omega
      clear hcc hc
      by_cases h1 : c.nm = nm
      · have t1 : (c.nm == nm) = true := by simpa using h1
        have t2 : decide (c.nm = nm) = true := by simpa using h1
        have HE : Hid (namedB cs nm = true) := hid (named_yes HC.out (.inl h1))
        clear h1
        go_wp2_with fail
        go_ret
        exact ⟨by rw [HE.out]; rfl, Ba HB.out _⟩
      · have t1 : (c.nm == nm) = false := by rw [beq_eq_false_iff_ne]; exact h1
        have t2 : decide (c.nm = nm) = false := by simpa using h1
        by_cases h2 : c.to.nm = nm
        · have t3 : (c.to.nm == nm) = true := by simpa using h2
          have t4 : decide (c.to.nm = nm) = true := by simpa using h2
          have HE : Hid (namedB cs nm = true) := hid (named_yes HC.out (.inr h2))
          clear h1 h2
          go_wp2_with fail
          go_ret
          exact ⟨by rw [HE.out]; rfl, Ba HB.out _⟩
        · have t3 : (c.to.nm == nm) = false := by rw [beq_eq_false_iff_ne]; exact h2
          have t4 : decide (c.to.nm = nm) = false := by simpa using h2
          have HE : Hid (¬ (c.nm = nm ∨ c.to.nm = nm)) := hid (by simp [h1, h2])
          clear h1 h2
          go_wp2_with fail
          exact ⟨⟨j + 1, by omega, by go_num, hid (fun m c' hm hc' => by
            by_cases e : m = j
            · subst e; rw [HC.out] at hc'; cases hc'; exact HE.out
            · exact HN.out m c' (by omega) hc'), hid (Ba HB.out _)⟩, by simp [intOf]; omega⟩
    · obtain rfl : j = n := by omega
      have HE : Hid (namedB cs nm = false) := hid (named_no (fun m c hc => HN.out m c (by have := (List.getElem?_eq_some_iff.1 hc).1; have := HL.out; omega) hc))
      go_wp2_with fail
      go_ret
      exact ⟨by rw [HE.out]; rfl, HB.out⟩
end Go.Proofs.YtjodbopnibdolaaGreat
