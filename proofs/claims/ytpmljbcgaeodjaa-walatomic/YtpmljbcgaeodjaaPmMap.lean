/-
  Maps with numbers as keys, read as functions: a map that a call owns holds at each number what the function says.
-/
import Derived.Test.YtpmljbcgaeodjaaKit
import Derived.Maps.OwnOps
import Derived.Maps.OwnSet
import Derived.Maps.RangeWalk
import Derived.Maps.Ext
import Derived.Deep.MidRow
import Derived.Deep.WholeRow
namespace Go.Proofs.Ytpmljbcgaeodjaa
open Go.RowKit Go.Maps
set_option linter.unusedVariables false

/-- An element reads as itself. -/
def RV (v : Value) : Option (DataW Value × List MemPlace) := some (.held v, [])
theorem kI : Keyed Try.prog 3 := int_keyed Try.underlying3
def I64 (k : Int) : Prop := (Lit.int .i64 k).wf = true
theorem i64_iff {k : Int} : I64 k ↔ -9223372036854775808 ≤ k ∧ k ≤ 9223372036854775807 := by
  simp [I64, Lit.wf, IntKind.min, IntKind.max, IntKind.bits, IntKind.signed]
theorem keyI {k : Int} (h : I64 k) : keyOf Try.prog 3 (.int .i64 k) = some (.int .i64 k) := keyOf_int_mk Try.underlying3 h

def vw (o : Option Value) (z : DataW Value) : DataW Value := match o with
  | some v => .held v
  | none => z

/-- Block b is a map of at most n entries that holds at each number what f says. -/
def Mp (w : World) (b n : Nat) (f : Int → Option Value) : Prop :=
  ∃ D : DataW Value, w.ownsMap Try.prog 3 RV b n D ∧ (∀ k, I64 k → ∀ z, D.atKey (.int .i64 k) z = vw (f k) z) ∧ ∀ k, f k ≠ none → I64 k

def upd {α : Type} (f : Int → Option α) (k : Int) (v : α) : Int → Option α := fun j => if j = k then some v else f j
def cut {α : Type} (f : Int → Option α) (k : Int) : Int → Option α := fun j => if j = k then none else f j

theorem has_vw {D : DataW Value} {kl : Lit} {o : Option Value} (h : ∀ z, D.atKey kl z = vw o z) : Maps.has D kl = o.isSome := by
  cases o with
  | none => exact Maps.has_false_of_atKey h
  | some v => exact Maps.has_true_of_atKey (y := .held v) h

section
variable {w w' : World} {b n : Nat} {f : Int → Option Value} {k : Int} {v : Value}
theorem Mp.made (w : World) : Mp (w.alloc (.map #[] 0)) w.heap.size 0 (fun _ => none) :=
  ⟨.map [], World.ownsMap_made _ _ _ _, fun k hk z => rfl, fun k hk => absurd rfl hk⟩
theorem Mp.lt (h : Mp w b n f) : b < w.heap.size := by obtain ⟨D, ho, _⟩ := h; exact ho.lt
theorem Mp.mono {m : Nat} (h : Mp w b n f) (hm : n ≤ m) : Mp w b m f := by obtain ⟨D, ho, h2⟩ := h; exact ⟨D, ho.mono hm, h2⟩
theorem Mp.isMap (h : Mp w b n f) : ∃ es c, w.heap[b]? = some (.map es c) := by obtain ⟨D, ⟨es, c, hb, _⟩, _⟩ := h; exact ⟨es, c, hb⟩
theorem Mp.cong (h : Mp w b n f) (hb : w'.heap[b]? = w.heap[b]?) : Mp w' b n f := by
  obtain ⟨D, ⟨es, c, h0, h1⟩, h2⟩ := h
  exact ⟨D, ⟨es, c, hb.trans h0, h1⟩, h2⟩
theorem Mp.ext {g : Int → Option Value} (h : Mp w b n f) (e : ∀ k, f k = g k) : Mp w b n g := by
  have : f = g := funext e
  subst this; exact h
theorem Mp.kept {row : Option Nat} (h : Mp w b n f) (hg : w.grownBy w' row) (hne : some b ≠ row) : Mp w' b n f := h.cong (hg.block b h.lt hne)
theorem Mp.below {B : Nat} (h : Mp w b n f) (hb : Below B w w') (hlt : b < B) : Mp w' b n f := h.cong (hb.block b hlt)
theorem Mp.alloc (h : Mp w b n f) (o : Obj) : Mp (w.alloc o) b n f := h.kept (World.grownBy_alloc w o none) (by simp)
theorem Mp.drew (h : Mp w b n f) : Mp w.drew b n f := h
theorem Mp.wf (h : Mp w b n f) (hk : f k ≠ none) : I64 k := by obtain ⟨D, _, _, h3⟩ := h; exact h3 k hk

theorem Mp.look_ok {t e : TypeId} {z : Value} (h : Mp w b n f) (ht : Try.prog.underlying t = some (.map 3 e)) (hz : (zeroValue e).run Try.prog w = .ok z w) (hk : I64 k) :
    (Instr.lookup t (.map (some b)) (.int .i64 k) true).run Try.prog w = .ok (.tuple #[(f k).getD z, .bool (f k).isSome]) w := by
  obtain ⟨D, ho, h1, h2⟩ := h
  obtain ⟨v, ps, hr, hv⟩ := ho.look_ok kI ht hz (zd := .held z) (zp := []) rfl (keyI hk)
  rw [hr, has_vw (h1 k hk)]
  rw [h1 k hk] at hv
  simp only [RV, Option.some.injEq, Prod.mk.injEq] at hv
  cases hf : f k with
  | none => rw [hf] at hv; simp only [vw, DataW.held.injEq] at hv; rw [hv.1]; rfl
  | some u => rw [hf] at hv; simp only [vw, DataW.held.injEq] at hv; rw [hv.1]; rfl

theorem Mp.look {t e : TypeId} {z : Value} (h : Mp w b n f) (ht : Try.prog.underlying t = some (.map 3 e)) (hz : (zeroValue e).run Try.prog w = .ok z w) (hk : I64 k) :
    (Instr.lookup t (.map (some b)) (.int .i64 k) false).run Try.prog w = .ok ((f k).getD z) w := by
  obtain ⟨D, ho, h1, h2⟩ := h
  obtain ⟨v, ps, hr, hv⟩ := ho.lookup kI ht hz (zd := .held z) (zp := []) rfl (keyI hk)
  rw [hr]
  rw [h1 k hk] at hv
  simp only [RV, Option.some.injEq, Prod.mk.injEq] at hv
  cases hf : f k with
  | none => rw [hf] at hv; simp only [vw, DataW.held.injEq] at hv; rw [hv.1]; rfl
  | some u => rw [hf] at hv; simp only [vw, DataW.held.injEq] at hv; rw [hv.1]; rfl

theorem lit_ne {j k : Int} (h : j ≠ k) : (Lit.int .i64 j) ≠ (Lit.int .i64 k) := by intro e; cases e; exact h rfl

theorem Mp.store {t e : TypeId} (h : Mp w b n f) (ht : Try.prog.underlying t = some (.map 3 e)) (hn : n < maxLen) (hk : I64 k) (v : Value) :
    ∃ w', (Instr.mapUpdate t (.map (some b)) (.int .i64 k) v).run Try.prog w = .ok () w' ∧ Mp w' b (n + 1) (upd f k v) ∧ w.mapTurned w' b := by
  obtain ⟨D, ho, h1, h2⟩ := h
  obtain ⟨w', hr, ho', hm⟩ := ho.store kI ht hn (keyI hk) (d := .held v) (ps := []) rfl
  refine ⟨w', hr, ⟨_, ho', fun j hj z => ?_, fun j hj => ?_⟩, hm⟩
  · by_cases e : j = k
    · subst e; rw [atKey_put_same (k := .int .i64 j) ho.isMap trivial]; simp [upd, vw]
    · rw [atKey_put_other (lit_ne e), h1 j hj]; simp [upd, e]
  · by_cases e : j = k
    · subst e; exact hk
    · exact h2 j (by simpa [upd, e] using hj)

theorem Mp.drop {t e : TypeId} (h : Mp w b n f) (ht : Try.prog.underlying t = some (.map 3 e)) (hk : I64 k) (ty : TypeId) :
    ∃ w', (Builtin.delete_ #[t, 3] ty #[.map (some b), .int .i64 k]).run Try.prog w = .ok (.tuple #[]) w' ∧ Mp w' b n (cut f k) ∧ w.mapTurned w' b := by
  obtain ⟨D, ho, h1, h2⟩ := h
  obtain ⟨w', hr, ho', hm⟩ := ho.drop kI ht (keyI hk) ty
  refine ⟨w', hr, ⟨_, ho', fun j hj z => ?_, fun j hj => ?_⟩, hm⟩
  · by_cases e : j = k
    · subst e; rw [atKey_del_same]; simp [cut, vw]
    · rw [atKey_del_other (lit_ne e), h1 j hj]; simp [cut, e]
  · by_cases e : j = k
    · subst e; exact hk
    · exact h2 j (by simpa [cut, e] using hj)

theorem Mp.clear {t e : TypeId} (h : Mp w b n f) (ht : Try.prog.underlying t = some (.map 3 e)) :
    ∃ w', (∀ ty, (Builtin.clear_ #[t] ty #[.map (some b)]).run Try.prog w = .ok (.tuple #[]) w') ∧ Mp w' b 0 (fun _ => none) ∧ w.mapTurned w' b := by
  obtain ⟨D, ⟨es, c, hb, F, hs, hD⟩, h1, h2⟩ := h
  have hst := F.stamped
  refine ⟨ChangeMaps.setBlock w b (.map #[] c), ?_, ⟨.map [], ⟨#[], c, ChangeMaps.heap_setBlock_same hb _, ⟨by simp, ?_, by simp⟩, Nat.le_refl _, rfl⟩, fun k hk z => rfl, fun k hk => absurd rfl hk⟩, ⟨es, c, #[], c, hb, rfl⟩⟩
  · intro ty; simp [Builtin.clear_, run_underlying ht, MapKept.run_getObj_map hb, MapKept.run_setObj_map _ hb, Result.andThen, ChangeMaps.setBlock]
  · exact MapKept.stamped_empty c
end

theorem turned_size {w w' : World} {b : Nat} (h : w.mapTurned w' b) : w'.heap.size = w.heap.size := by
  obtain ⟨es, c, es', c', hb, rfl⟩ := h; simp [ChangeMaps.setBlock]

/-! ### at the operation, for the walk -/
section
variable {w : World} {ops : Array Oper} {rest : List Oper} {o : Oper} {a : Act} {Q : Exit → Act → World → Prop} {b n : Nat} {f : Int → Option Value} {k : Int} {v : Value}
theorem wpList_storeM (hg : o.guard = none) (m x y : Operand) (t : TypeId) (hop : o.op = Op.mapUpdate t m x y) (e : TypeId) (ht : Try.prog.underlying t = some (.map 3 e))
    (h : Mp w b n f) (hm : a.eval m = .map (some b)) (hn : n < maxLen) (hx : a.eval x = .int .i64 k) (hv : a.eval y = v) (hk : I64 k)
    (hK : ∀ w', Mp w' b (n + 1) (upd f k v) → w.mapTurned w' b → wpList Try.prog ops Q rest (a.put o.dst undef) w') : wpList Try.prog ops Q (o :: rest) a w := by
  refine wpList_plain hg fun K' hK' => ?_
  obtain ⟨w', hrun, r1, r2⟩ := h.store ht hn hk v
  unfold Oper.wp
  simp [execOp, hop, hm, hx, hv, hrun, Result.andThen]
  exact hK' _ _ (hK w' r1 r2)
theorem wpList_dropM (hg : o.guard = none) (m x : Operand) (t : TypeId) (hop : o.op = Op.call { callee := Callee.builtin Builtin.delete, args := #[m, x], argTypes := #[t, 3] }) (e : TypeId) (ht : Try.prog.underlying t = some (.map 3 e))
    (h : Mp w b n f) (hm : a.eval m = .map (some b)) (hx : a.eval x = .int .i64 k) (hk : I64 k)
    (hK : ∀ w', Mp w' b n (cut f k) → w.mapTurned w' b → wpList Try.prog ops Q rest (a.put o.dst (.tuple #[])) w') : wpList Try.prog ops Q (o :: rest) a w := by
  refine wpList_plain hg fun K' hK' => ?_
  obtain ⟨w', hrun, r1, r2⟩ := h.drop ht hk o.type
  unfold Oper.wp
  simp [execOp, hop, resolve, invoke, builtin, hm, hx, hrun, Result.andThen]
  exact hK' _ _ (hK w' r1 r2)
theorem wpList_clearM (hg : o.guard = none) (m : Operand) (t : TypeId) (hop : o.op = Op.call { callee := Callee.builtin Builtin.clear, args := #[m], argTypes := #[t] }) (e : TypeId) (ht : Try.prog.underlying t = some (.map 3 e))
    (h : Mp w b n f) (hm : a.eval m = .map (some b))
    (hK : ∀ w', Mp w' b 0 (fun _ => none) → w.mapTurned w' b → wpList Try.prog ops Q rest (a.put o.dst (.tuple #[])) w') : wpList Try.prog ops Q (o :: rest) a w := by
  refine wpList_plain hg fun K' hK' => ?_
  obtain ⟨w', hrun, r1, r2⟩ := h.clear ht
  unfold Oper.wp
  simp [execOp, hop, resolve, invoke, builtin, hm, hrun, Result.andThen]
  exact hK' _ _ (hK w' r1 r2)

/-- A range over the map, under way: what is left to come. -/
def MRg (w : World) (b r n : Nat) (f : Int → Option Value) (left : Int → Bool) (cnt : Nat) : Prop :=
  ∃ (D : DataW Value) (lf : Lit → Bool), w.ranges Try.prog 3 RV b r n D lf cnt ∧ (∀ k, I64 k → ∀ z, D.atKey (.int .i64 k) z = vw (f k) z) ∧ (∀ k, f k ≠ none → I64 k) ∧ ∀ k, I64 k → lf (.int .i64 k) = left k
theorem MRg.mp {r cnt : Nat} {left : Int → Bool} (h : MRg w b r n f left cnt) : Mp w b n f := by obtain ⟨D, lf, hr, h1, h2, _⟩ := h; exact ⟨D, hr.owns, h1, h2⟩
theorem MRg.lt {r cnt : Nat} {left : Int → Bool} (h : MRg w b r n f left cnt) : r < w.heap.size := by obtain ⟨D, lf, hr, _⟩ := h; exact hr.lt
theorem MRg.ne {r cnt : Nat} {left : Int → Bool} (h : MRg w b r n f left cnt) : r ≠ b := by obtain ⟨D, lf, hr, _⟩ := h; exact hr.ne
theorem MRg.left_eq {r cnt : Nat} {left : Int → Bool} (h : MRg w b r n f left cnt) : w.rangeLeft b r = cnt := by obtain ⟨D, lf, hr, _⟩ := h; exact hr.left_eq
theorem MRg.kept {w' : World} {row : Option Nat} {r cnt : Nat} {left : Int → Bool} (h : MRg w b r n f left cnt) (hg : w.grownBy w' row) (h1 : some b ≠ row) (h2 : some r ≠ row) : MRg w' b r n f left cnt := by
  obtain ⟨D, lf, hr, h3⟩ := h; exact ⟨D, lf, hr.kept hg h1 h2, h3⟩
theorem MRg.alloc {r cnt : Nat} {left : Int → Bool} (h : MRg w b r n f left cnt) (ob : Obj) : MRg (w.alloc ob) b r n f left cnt := h.kept (World.grownBy_alloc w ob none) (by simp) (by simp)

theorem wpList_rangeM (hg : o.guard = none) (m : Operand) (t : TypeId) (hop : o.op = Op.range t m) (e : TypeId) (ht : Try.prog.underlying t = some (.map 3 e))
    (h : Mp w b n f) (hm : a.eval m = .map (some b))
    (hK : ∀ w' cnt, MRg w' b w.heap.size n f (fun k => (f k).isSome) cnt → w.grownBy w' none → w'.heap.size = w.heap.size + 1 → wpList Try.prog ops Q rest (a.put o.dst (.pointer (some ⟨w.heap.size, 0, none⟩))) w') :
    wpList Try.prog ops Q (o :: rest) a w := by
  obtain ⟨D, ho, h1, h2⟩ := h
  exact wpList_range_own w hg m t hop _ e kI ht RV b n D hm ho (fun w' hr hgr hs => hK w' _ ⟨D, _, hr, h1, h2, fun k hk => has_vw (h1 k hk)⟩ hgr hs)

theorem same_int (j k : Int) : (Lit.int .i64 j).sameKey (Lit.int .i64 k) = decide (j = k) := by
  by_cases h : j = k
  · subst h; simp; exact WideAt.sameKey_self trivial
  · simp [h]; exact Maps.sameKey_ne (lit_ne h)

theorem wpList_nextM (hg : o.guard = none) (it : Operand) (hop : o.op = Op.next it false) {r cnt : Nat} {left : Int → Bool} (h : MRg w b r n f left cnt) (hit : a.eval it = .pointer (some ⟨r, 0, none⟩))
    (hDone : (∀ k, I64 k → left k = false) → wpList Try.prog ops Q rest (a.put o.dst (.tuple #[.bool false])) w)
    (hMore : ∀ (x : Int) (c : Value) (w' : World) (cnt' : Nat), I64 x → left x = true → f x = some c → MRg w' b r n f (fun z => left z && !decide (z = x)) cnt' → cnt' < cnt →
      w.grownBy w' (some r) → w'.heap.size = w.heap.size → (Instr.entry (.pointer (some ⟨r, 0, none⟩))).run Try.prog w' = .ok (.tuple #[.int .i64 x, c]) w' → wpList Try.prog ops Q rest (a.put o.dst (.tuple #[.bool true, .int .i64 x, c])) w') :
    wpList Try.prog ops Q (o :: rest) a w := by
  obtain ⟨D, lf, hr, h1, h2, h3⟩ := h
  refine wpList_next_ranges w hg it hop 3 kI RV (Value.int .i64) (fun c : Value => c) (fun key kl hkey => by obtain ⟨x, rfl, _⟩ := Maps.keyOf_int_inv Try.underlying3 hkey; exact ⟨x, rfl⟩) (fun v y _ => ⟨v, rfl⟩) b r n D lf cnt hit hr (fun _ hl => hDone fun k hk => (h3 k hk).symm.trans (hl _)) ?_
  intro x c kl y w' cnt' hkey hlk hv hat hrg hlt hgr hsz hen
  obtain ⟨x', ex, rfl, hwx⟩ := Maps.keyOf_int_inv Try.underlying3 hkey
  cases ex
  have hx : I64 x := hwx
  have hy : y.1 = .held c := by simp only [RV, Option.some.injEq] at hv; rw [← hv]
  have hf : f x = some c := by
    have := hat .nil
    rw [h1 x hx, hy] at this
    cases hfx : f x with
    | none => rw [hfx] at this; simp [vw] at this
    | some u => rw [hfx] at this; simp [vw] at this; rw [this]
  exact hMore x c w' cnt' hx ((h3 x hx).symm.trans hlk) hf ⟨D, _, hrg, h1, h2, fun j hj => by simp only [h3 j hj, same_int]⟩ hlt hgr hsz hen
end

/-! ### how many -/
theorem pigeon : ∀ (m : Nat) (l : List Int), l.Nodup → (∀ x ∈ l, 0 ≤ x ∧ x < m) → l.length ≤ m
  | 0, [], _, _ => Nat.le_refl _
  | 0, x :: l, _, h => by have := h x (by simp); omega
  | m + 1, l, hn, h => by
    have h1 := pigeon m (l.erase m) (hn.erase _) (fun x hx => by
      have h2 := h x (List.mem_of_mem_erase hx)
      have h3 : x ≠ m := fun e => by subst e; exact (hn.not_mem_erase) hx
      omega)
    have := List.length_erase_le (a := (m : Int)) (l := l)
    have h4 : l.length ≤ (l.erase m).length + 1 := by rw [List.length_erase]; split <;> omega
    omega

def keyNum : Lit → Int
  | .int _ k => k
  | _ => 0

theorem Mp.small {w : World} {b n N : Nat} {f : Int → Option Value} (h : Mp w b n f) (hN : ∀ k, f k ≠ none → 0 ≤ k ∧ k < N) : Mp w b N f := by
  obtain ⟨D, ho, h1, h2⟩ := h
  obtain ⟨es, hD, hp, hk⟩ := ho.entries kI
  have hsz : Maps.size D ≤ N := by
    have hkeys : ∀ p ∈ es, ∃ k, p.1 = .int .i64 k ∧ f k ≠ none := by
      intro p hpm
      have hkl : ∃ k, p.1 = .int .i64 k ∧ I64 k := by
        obtain ⟨es', c, hb, F, hs, hDD⟩ := ho
        rw [hDD] at hD
        cases hD
        obtain ⟨x, hx, rfl⟩ := List.mem_map.1 (mem_sorted.1 hpm)
        obtain ⟨y, hy⟩ := F.reads x hx
        obtain ⟨k, _, e2, e3⟩ := Maps.keyOf_int_inv Try.underlying3 (WideElems.rd_key hy)
        exact ⟨k, by rw [WideElems.rg_of hy]; exact e2, e3⟩
      obtain ⟨k, e1, e2⟩ := hkl
      refine ⟨k, e1, fun e => ?_⟩
      have h5 := has_vw (h1 k e2)
      rw [e] at h5
      have h6 : Maps.has D (.int .i64 k) = true := by
        rw [hD]; exact List.any_eq_true.2 ⟨p, hpm, by rw [e1]; exact WideAt.sameKey_self trivial⟩
      rw [h6] at h5; cases h5
    subst hD
    have := pigeon N (es.map fun p => keyNum p.1) ?_ ?_
    · simpa [Maps.size] using this
    · rw [List.nodup_iff_pairwise_ne, List.pairwise_map]
      refine hp.imp_of_mem ?_
      intro p q hp1 hq1 hne e
      obtain ⟨k, hk1, _⟩ := hkeys p hp1
      obtain ⟨j, hj1, _⟩ := hkeys q hq1
      rw [hk1, hj1] at hne e
      exact hne (by simp [keyNum] at e; rw [e])
    · intro x hx
      obtain ⟨p, hp1, rfl⟩ := List.mem_map.1 hx
      obtain ⟨k, hk1, hk2⟩ := hkeys p hp1
      rw [hk1]; exact hN k hk2
  obtain ⟨es', c, hb, F, hs, hDD⟩ := ho
  refine ⟨D, ⟨es', c, hb, F, ?_, hDD⟩, h1, h2⟩
  rw [hDD] at hsz
  simpa [Maps.size, length_sorted] using hsz
end Go.Proofs.Ytpmljbcgaeodjaa
