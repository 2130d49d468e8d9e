/-
  Maps with numbers as keys, read as functions: a map that a call owns holds at each number what the function says.
  A device in memory, and the contracts of pmem's functions that only make or read: device, New, Len, Bytes, holds, span, word, Read.
-/
import Derived.Test.YteggkojlpgkhbaaGreatM1
import Derived.Maps.OwnOps
import Derived.Maps.OwnSet
import Derived.Maps.RangeWalk
import Derived.Maps.Ext
import Derived.Deep.MidRow
import Derived.Deep.WholeRow
import Derived.Lib.SliceRun

namespace Go.Proofs.YteggkojlpgkhbaaGreat
open Go.RowKit Go.Maps
set_option linter.unusedVariables false

/-- An element reads as itself. -/
def RV (v : Value) : Option (DataW Value × List MemPlace) := some (.held v, [])
theorem kI : Keyed Tryz.prog 3 := int_keyed Tryz.underlying3
def I64 (k : Int) : Prop := (Lit.int .i64 k).wf = true
theorem i64_iff {k : Int} : I64 k ↔ -9223372036854775808 ≤ k ∧ k ≤ 9223372036854775807 := by
  simp [I64, Lit.wf, IntKind.min, IntKind.max, IntKind.bits, IntKind.signed]
theorem keyI {k : Int} (h : I64 k) : keyOf Tryz.prog 3 (.int .i64 k) = some (.int .i64 k) := keyOf_int_mk Tryz.underlying3 h

def vw (o : Option Value) (z : DataW Value) : DataW Value := match o with
  | some v => .held v
  | none => z

/-- Block b is a map of at most n entries that holds at each number what f says. -/
def Mp (w : World) (b n : Nat) (f : Int → Option Value) : Prop :=
  ∃ D : DataW Value, w.ownsMap Tryz.prog 3 RV b n D ∧ (∀ k, I64 k → ∀ z, D.atKey (.int .i64 k) z = vw (f k) z) ∧ ∀ k, f k ≠ none → I64 k

def upd {α : Type} (f : Int → Option α) (k : Int) (v : α) : Int → Option α := fun j => if j = k then some v else f j
def cut {α : Type} (f : Int → Option α) (k : Int) : Int → Option α := fun j => if j = k then none else f j

theorem has_vw {D : DataW Value} {kl : Lit} {o : Option Value} (h : ∀ z, D.atKey kl z = vw o z) : Maps.has D kl = o.isSome := by
  cases o with
  | none => exact Maps.has_false_of_atKey h
  | some v => exact Maps.has_true_of_atKey (y := .held v) h

section
variable {w w' : World} {b n : Nat} {f : Int → Option Value} {k : Int} {v : Value}
theorem Mp.made (w : World) : Mp (w.alloc (.map #[] 0)) w.heap.size 0 (fun _ => none) :=
  ⟨.map [], World.ownsMap_made _ _ _ _, fun k hk z => rfl, fun k hk => absurd rfl hk⟩
theorem Mp.lt (h : Mp w b n f) : b < w.heap.size := by obtain ⟨D, ho, _⟩ := h; exact ho.lt
theorem Mp.mono {m : Nat} (h : Mp w b n f) (hm : n ≤ m) : Mp w b m f := by obtain ⟨D, ho, h2⟩ := h; exact ⟨D, ho.mono hm, h2⟩
theorem Mp.isMap (h : Mp w b n f) : ∃ es c, w.heap[b]? = some (.map es c) := by obtain ⟨D, ⟨es, c, hb, _⟩, _⟩ := h; exact ⟨es, c, hb⟩
theorem Mp.cong (h : Mp w b n f) (hb : w'.heap[b]? = w.heap[b]?) : Mp w' b n f := by
  obtain ⟨D, ⟨es, c, h0, h1⟩, h2⟩ := h
  exact ⟨D, ⟨es, c, hb.trans h0, h1⟩, h2⟩
theorem Mp.ext {g : Int → Option Value} (h : Mp w b n f) (e : ∀ k, f k = g k) : Mp w b n g := by
  have : f = g := funext e
  subst this; exact h
theorem Mp.kept {row : Option Nat} (h : Mp w b n f) (hg : w.grownBy w' row) (hne : some b ≠ row) : Mp w' b n f := h.cong (hg.block b h.lt hne)
theorem Mp.below {B : Nat} (h : Mp w b n f) (hb : Below B w w') (hlt : b < B) : Mp w' b n f := h.cong (hb.block b hlt)
theorem Mp.alloc (h : Mp w b n f) (o : Obj) : Mp (w.alloc o) b n f := h.kept (World.grownBy_alloc w o none) (by simp)
theorem Mp.drew (h : Mp w b n f) : Mp w.drew b n f := h
theorem Mp.wf (h : Mp w b n f) (hk : f k ≠ none) : I64 k := by obtain ⟨D, _, _, h3⟩ := h; exact h3 k hk

theorem Mp.look_ok {t e : TypeId} {z : Value} (h : Mp w b n f) (ht : Tryz.prog.underlying t = some (.map 3 e)) (hz : (zeroValue e).run Tryz.prog w = .ok z w) (hk : I64 k) :
    (Instr.lookup t (.map (some b)) (.int .i64 k) true).run Tryz.prog w = .ok (.tuple #[(f k).getD z, .bool (f k).isSome]) w := by
  obtain ⟨D, ho, h1, h2⟩ := h
  obtain ⟨v, ps, hr, hv⟩ := ho.look_ok kI ht hz (zd := .held z) (zp := []) rfl (keyI hk)
  rw [hr, has_vw (h1 k hk)]
  rw [h1 k hk] at hv
  simp only [RV, Option.some.injEq, Prod.mk.injEq] at hv
  cases hf : f k with
  | none => rw [hf] at hv; simp only [vw, DataW.held.injEq] at hv; rw [hv.1]; rfl
  | some u => rw [hf] at hv; simp only [vw, DataW.held.injEq] at hv; rw [hv.1]; rfl

theorem Mp.look {t e : TypeId} {z : Value} (h : Mp w b n f) (ht : Tryz.prog.underlying t = some (.map 3 e)) (hz : (zeroValue e).run Tryz.prog w = .ok z w) (hk : I64 k) :
    (Instr.lookup t (.map (some b)) (.int .i64 k) false).run Tryz.prog w = .ok ((f k).getD z) w := by
  obtain ⟨D, ho, h1, h2⟩ := h
  obtain ⟨v, ps, hr, hv⟩ := ho.lookup kI ht hz (zd := .held z) (zp := []) rfl (keyI hk)
  rw [hr]
  rw [h1 k hk] at hv
  simp only [RV, Option.some.injEq, Prod.mk.injEq] at hv
  cases hf : f k with
  | none => rw [hf] at hv; simp only [vw, DataW.held.injEq] at hv; rw [hv.1]; rfl
  | some u => rw [hf] at hv; simp only [vw, DataW.held.injEq] at hv; rw [hv.1]; rfl

theorem lit_ne {j k : Int} (h : j ≠ k) : (Lit.int .i64 j) ≠ (Lit.int .i64 k) := by intro e; cases e; exact h rfl

theorem Mp.store {t e : TypeId} (h : Mp w b n f) (ht : Tryz.prog.underlying t = some (.map 3 e)) (hn : n < maxLen) (hk : I64 k) (v : Value) :
    ∃ w', (Instr.mapUpdate t (.map (some b)) (.int .i64 k) v).run Tryz.prog w = .ok () w' ∧ Mp w' b (n + 1) (upd f k v) ∧ w.mapTurned w' b := by
  obtain ⟨D, ho, h1, h2⟩ := h
  obtain ⟨w', hr, ho', hm⟩ := ho.store kI ht hn (keyI hk) (d := .held v) (ps := []) rfl
  refine ⟨w', hr, ⟨_, ho', fun j hj z => ?_, fun j hj => ?_⟩, hm⟩
  · by_cases e : j = k
    · subst e; rw [atKey_put_same (k := .int .i64 j) ho.isMap trivial]; simp [upd, vw]
    · rw [atKey_put_other (lit_ne e), h1 j hj]; simp [upd, e]
  · by_cases e : j = k
    · subst e; exact hk
    · exact h2 j (by simpa [upd, e] using hj)

theorem Mp.drop {t e : TypeId} (h : Mp w b n f) (ht : Tryz.prog.underlying t = some (.map 3 e)) (hk : I64 k) (ty : TypeId) :
    ∃ w', (Builtin.delete_ #[t, 3] ty #[.map (some b), .int .i64 k]).run Tryz.prog w = .ok (.tuple #[]) w' ∧ Mp w' b n (cut f k) ∧ w.mapTurned w' b := by
  obtain ⟨D, ho, h1, h2⟩ := h
  obtain ⟨w', hr, ho', hm⟩ := ho.drop kI ht (keyI hk) ty
  refine ⟨w', hr, ⟨_, ho', fun j hj z => ?_, fun j hj => ?_⟩, hm⟩
  · by_cases e : j = k
    · subst e; rw [atKey_del_same]; simp [cut, vw]
    · rw [atKey_del_other (lit_ne e), h1 j hj]; simp [cut, e]
  · by_cases e : j = k
    · subst e; exact hk
    · exact h2 j (by simpa [cut, e] using hj)

theorem Mp.clear {t e : TypeId} (h : Mp w b n f) (ht : Tryz.prog.underlying t = some (.map 3 e)) :
    ∃ w', (∀ ty, (Builtin.clear_ #[t] ty #[.map (some b)]).run Tryz.prog w = .ok (.tuple #[]) w') ∧ Mp w' b 0 (fun _ => none) ∧ w.mapTurned w' b := by
  obtain ⟨D, ⟨es, c, hb, F, hs, hD⟩, h1, h2⟩ := h
  have hst := F.stamped
  refine ⟨ChangeMaps.setBlock w b (.map #[] c), ?_, ⟨.map [], ⟨#[], c, ChangeMaps.heap_setBlock_same hb _, ⟨by simp, ?_, by simp⟩, Nat.le_refl _, rfl⟩, fun k hk z => rfl, fun k hk => absurd rfl hk⟩, ⟨es, c, #[], c, hb, rfl⟩⟩
  · intro ty; simp [Builtin.clear_, run_underlying ht, MapKept.run_getObj_map hb, MapKept.run_setObj_map _ hb, Result.andThen, ChangeMaps.setBlock]
  · exact MapKept.stamped_empty c
end

theorem turned_size {w w' : World} {b : Nat} (h : w.mapTurned w' b) : w'.heap.size = w.heap.size := by
  obtain ⟨es, c, es', c', hb, rfl⟩ := h; simp [ChangeMaps.setBlock]

/-! ### at the operation, for the walk -/
section
variable {w : World} {ops : Array Oper} {rest : List Oper} {o : Oper} {a : Act} {Q : Exit → Act → World → Prop} {b n : Nat} {f : Int → Option Value} {k : Int} {v : Value}
theorem wpList_storeM (hg : o.guard = none) (m x y : Operand) (t : TypeId) (hop : o.op = Op.mapUpdate t m x y) (e : TypeId) (ht : Tryz.prog.underlying t = some (.map 3 e))
    (h : Mp w b n f) (hm : a.eval m = .map (some b)) (hn : n < maxLen) (hx : a.eval x = .int .i64 k) (hv : a.eval y = v) (hk : I64 k)
    (hK : ∀ w', Mp w' b (n + 1) (upd f k v) → w.mapTurned w' b → wpList Tryz.prog ops Q rest (a.put o.dst undef) w') : wpList Tryz.prog ops Q (o :: rest) a w := by
  refine wpList_plain hg fun K' hK' => ?_
  obtain ⟨w', hrun, r1, r2⟩ := h.store ht hn hk v
  unfold Oper.wp
  simp [execOp, hop, hm, hx, hv, hrun, Result.andThen]
  exact hK' _ _ (hK w' r1 r2)
theorem wpList_dropM (hg : o.guard = none) (m x : Operand) (t : TypeId) (hop : o.op = Op.call { callee := Callee.builtin Builtin.delete, args := #[m, x], argTypes := #[t, 3] }) (e : TypeId) (ht : Tryz.prog.underlying t = some (.map 3 e))
    (h : Mp w b n f) (hm : a.eval m = .map (some b)) (hx : a.eval x = .int .i64 k) (hk : I64 k)
    (hK : ∀ w', Mp w' b n (cut f k) → w.mapTurned w' b → wpList Tryz.prog ops Q rest (a.put o.dst (.tuple #[])) w') : wpList Tryz.prog ops Q (o :: rest) a w := by
  refine wpList_plain hg fun K' hK' => ?_
  obtain ⟨w', hrun, r1, r2⟩ := h.drop ht hk o.type
  unfold Oper.wp
  simp [execOp, hop, resolve, invoke, builtin, hm, hx, hrun, Result.andThen]
  exact hK' _ _ (hK w' r1 r2)
theorem wpList_clearM (hg : o.guard = none) (m : Operand) (t : TypeId) (hop : o.op = Op.call { callee := Callee.builtin Builtin.clear, args := #[m], argTypes := #[t] }) (e : TypeId) (ht : Tryz.prog.underlying t = some (.map 3 e))
    (h : Mp w b n f) (hm : a.eval m = .map (some b))
    (hK : ∀ w', Mp w' b 0 (fun _ => none) → w.mapTurned w' b → wpList Tryz.prog ops Q rest (a.put o.dst (.tuple #[])) w') : wpList Tryz.prog ops Q (o :: rest) a w := by
  refine wpList_plain hg fun K' hK' => ?_
  obtain ⟨w', hrun, r1, r2⟩ := h.clear ht
  unfold Oper.wp
  simp [execOp, hop, resolve, invoke, builtin, hm, hrun, Result.andThen]
  exact hK' _ _ (hK w' r1 r2)

/-- A range over the map, under way: what is left to come. -/
def MRg (w : World) (b r n : Nat) (f : Int → Option Value) (left : Int → Bool) (cnt : Nat) : Prop :=
  ∃ (D : DataW Value) (lf : Lit → Bool), w.ranges Tryz.prog 3 RV b r n D lf cnt ∧ (∀ k, I64 k → ∀ z, D.atKey (.int .i64 k) z = vw (f k) z) ∧ (∀ k, f k ≠ none → I64 k) ∧ ∀ k, I64 k → lf (.int .i64 k) = left k
theorem MRg.mp {r cnt : Nat} {left : Int → Bool} (h : MRg w b r n f left cnt) : Mp w b n f := by obtain ⟨D, lf, hr, h1, h2, _⟩ := h; exact ⟨D, hr.owns, h1, h2⟩
theorem MRg.lt {r cnt : Nat} {left : Int → Bool} (h : MRg w b r n f left cnt) : r < w.heap.size := by obtain ⟨D, lf, hr, _⟩ := h; exact hr.lt
theorem MRg.ne {r cnt : Nat} {left : Int → Bool} (h : MRg w b r n f left cnt) : r ≠ b := by obtain ⟨D, lf, hr, _⟩ := h; exact hr.ne
theorem MRg.left_eq {r cnt : Nat} {left : Int → Bool} (h : MRg w b r n f left cnt) : w.rangeLeft b r = cnt := by obtain ⟨D, lf, hr, _⟩ := h; exact hr.left_eq
theorem MRg.kept {w' : World} {row : Option Nat} {r cnt : Nat} {left : Int → Bool} (h : MRg w b r n f left cnt) (hg : w.grownBy w' row) (h1 : some b ≠ row) (h2 : some r ≠ row) : MRg w' b r n f left cnt := by
  obtain ⟨D, lf, hr, h3⟩ := h; exact ⟨D, lf, hr.kept hg h1 h2, h3⟩
theorem MRg.alloc {r cnt : Nat} {left : Int → Bool} (h : MRg w b r n f left cnt) (ob : Obj) : MRg (w.alloc ob) b r n f left cnt := h.kept (World.grownBy_alloc w ob none) (by simp) (by simp)

theorem wpList_rangeM (hg : o.guard = none) (m : Operand) (t : TypeId) (hop : o.op = Op.range t m) (e : TypeId) (ht : Tryz.prog.underlying t = some (.map 3 e))
    (h : Mp w b n f) (hm : a.eval m = .map (some b))
    (hK : ∀ w' cnt, MRg w' b w.heap.size n f (fun k => (f k).isSome) cnt → w.grownBy w' none → w'.heap.size = w.heap.size + 1 → wpList Tryz.prog ops Q rest (a.put o.dst (.pointer (some ⟨w.heap.size, 0, none⟩))) w') :
    wpList Tryz.prog ops Q (o :: rest) a w := by
  obtain ⟨D, ho, h1, h2⟩ := h
  exact wpList_range_own w hg m t hop _ e kI ht RV b n D hm ho (fun w' hr hgr hs => hK w' _ ⟨D, _, hr, h1, h2, fun k hk => has_vw (h1 k hk)⟩ hgr hs)

theorem same_int (j k : Int) : (Lit.int .i64 j).sameKey (Lit.int .i64 k) = decide (j = k) := by
  by_cases h : j = k
  · subst h; simp; exact WideAt.sameKey_self trivial
  · simp [h]; exact Maps.sameKey_ne (lit_ne h)

theorem wpList_nextM (hg : o.guard = none) (it : Operand) (hop : o.op = Op.next it false) {r cnt : Nat} {left : Int → Bool} (h : MRg w b r n f left cnt) (hit : a.eval it = .pointer (some ⟨r, 0, none⟩))
    (hDone : (∀ k, I64 k → left k = false) → wpList Tryz.prog ops Q rest (a.put o.dst (.tuple #[.bool false])) w)
    (hMore : ∀ (x : Int) (c : Value) (w' : World) (cnt' : Nat), I64 x → left x = true → f x = some c → MRg w' b r n f (fun z => left z && !decide (z = x)) cnt' → cnt' < cnt →
      w.grownBy w' (some r) → w'.heap.size = w.heap.size → (Instr.entry (.pointer (some ⟨r, 0, none⟩))).run Tryz.prog w' = .ok (.tuple #[.int .i64 x, c]) w' → wpList Tryz.prog ops Q rest (a.put o.dst (.tuple #[.bool true, .int .i64 x, c])) w') :
    wpList Tryz.prog ops Q (o :: rest) a w := by
  obtain ⟨D, lf, hr, h1, h2, h3⟩ := h
  refine wpList_next_ranges w hg it hop 3 kI RV (Value.int .i64) (fun c : Value => c) (fun key kl hkey => by obtain ⟨x, rfl, _⟩ := Maps.keyOf_int_inv Tryz.underlying3 hkey; exact ⟨x, rfl⟩) (fun v y _ => ⟨v, rfl⟩) b r n D lf cnt hit hr (fun _ hl => hDone fun k hk => (h3 k hk).symm.trans (hl _)) ?_
  intro x c kl y w' cnt' hkey hlk hv hat hrg hlt hgr hsz hen
  obtain ⟨x', ex, rfl, hwx⟩ := Maps.keyOf_int_inv Tryz.underlying3 hkey
  cases ex
  have hx : I64 x := hwx
  have hy : y.1 = .held c := by simp only [RV, Option.some.injEq] at hv; rw [← hv]
  have hf : f x = some c := by
    have := hat .nil
    rw [h1 x hx, hy] at this
    cases hfx : f x with
    | none => rw [hfx] at this; simp [vw] at this
    | some u => rw [hfx] at this; simp [vw] at this; rw [this]
  exact hMore x c w' cnt' hx ((h3 x hx).symm.trans hlk) hf ⟨D, _, hrg, h1, h2, fun j hj => by simp only [h3 j hj, same_int]⟩ hlt hgr hsz hen
end

/-! ### how many -/
theorem pigeon : ∀ (m : Nat) (l : List Int), l.Nodup → (∀ x ∈ l, 0 ≤ x ∧ x < m) → l.length ≤ m
  | 0, [], _, _ => Nat.le_refl _
  | 0, x :: l, _, h => by have := h x (by simp); omega
  | m + 1, l, hn, h => by
    have h1 := pigeon m (l.erase m) (hn.erase _) (fun x hx => by
      have h2 := h x (List.mem_of_mem_erase hx)
      have h3 : x ≠ m := fun e => by subst e; exact (hn.not_mem_erase) hx
      omega)
    have := List.length_erase_le (a := (m : Int)) (l := l)
    have h4 : l.length ≤ (l.erase m).length + 1 := by rw [List.length_erase]; split <;> omega
    omega

def keyNum : Lit → Int
  | .int _ k => k
  | _ => 0

theorem Mp.small {w : World} {b n N : Nat} {f : Int → Option Value} (h : Mp w b n f) (hN : ∀ k, f k ≠ none → 0 ≤ k ∧ k < N) : Mp w b N f := by
  obtain ⟨D, ho, h1, h2⟩ := h
  obtain ⟨es, hD, hp, hk⟩ := ho.entries kI
  have hsz : Maps.size D ≤ N := by
    have hkeys : ∀ p ∈ es, ∃ k, p.1 = .int .i64 k ∧ f k ≠ none := by
      intro p hpm
      have hkl : ∃ k, p.1 = .int .i64 k ∧ I64 k := by
        obtain ⟨es', c, hb, F, hs, hDD⟩ := ho
        rw [hDD] at hD
        cases hD
        obtain ⟨x, hx, rfl⟩ := List.mem_map.1 (mem_sorted.1 hpm)
        obtain ⟨y, hy⟩ := F.reads x hx
        obtain ⟨k, _, e2, e3⟩ := Maps.keyOf_int_inv Tryz.underlying3 (WideElems.rd_key hy)
        exact ⟨k, by rw [WideElems.rg_of hy]; exact e2, e3⟩
      obtain ⟨k, e1, e2⟩ := hkl
      refine ⟨k, e1, fun e => ?_⟩
      have h5 := has_vw (h1 k e2)
      rw [e] at h5
      have h6 : Maps.has D (.int .i64 k) = true := by
        rw [hD]; exact List.any_eq_true.2 ⟨p, hpm, by rw [e1]; exact WideAt.sameKey_self trivial⟩
      rw [h6] at h5; cases h5
    subst hD
    have := pigeon N (es.map fun p => keyNum p.1) ?_ ?_
    · simpa [Maps.size] using this
    · rw [List.nodup_iff_pairwise_ne, List.pairwise_map]
      refine hp.imp_of_mem ?_
      intro p q hp1 hq1 hne e
      obtain ⟨k, hk1, _⟩ := hkeys p hp1
      obtain ⟨j, hj1, _⟩ := hkeys q hq1
      rw [hk1, hj1] at hne e
      exact hne (by simp [keyNum] at e; rw [e])
    · intro x hx
      obtain ⟨p, hp1, rfl⟩ := List.mem_map.1 hx
      obtain ⟨k, hk1, hk2⟩ := hkeys p hp1
      rw [hk1]; exact hN k hk2
  obtain ⟨es', c, hb, F, hs, hDD⟩ := ho
  refine ⟨D, ⟨es', c, hb, F, ?_, hDD⟩, h1, h2⟩
  rw [hDD] at hsz
  simpa [Maps.size, length_sorted] using hsz
end Go.Proofs.YteggkojlpgkhbaaGreat

namespace Go.Proofs.YteggkojlpgkhbaaGreat
open Go.RowKit Go.Maps
set_option linter.unusedVariables false

/-- A word as a value. -/
def arr (x : List UInt8) : Value := .agg (x.map bv).toArray
def lfun (L : Int → Option (List UInt8)) : Int → Option Value := fun k => (L k).map arr
def ffun (F : Int → Bool) : Int → Option Value := fun k => if F k then some (.bool true) else none

/-- Block g is a row of bytes that begins with S. -/
def Row (w : World) (g cap : Nat) (S : List UInt8) : Prop :=
  ∃ cur : Array Value, w.heap[g]? = some (.cells cur 5 (0, 0)) ∧ cur.size = cap ∧ S.length ≤ cap ∧ cap ≤ maxLen ∧ cur.toList.take S.length = S.map bv

/-- The device at block d: what is seen, what is loose (with what it was), what is flushed; all its blocks lie from B on. -/
structure Dev (w : World) (B d g cap lb fb : Nat) (S : List UInt8) (L : Int → Option (List UInt8)) (F : Int → Bool) : Prop where
  hd : w.heap[d]? = some (.cells #[.slice (some ⟨g, 0, none⟩) S.length cap, .map (some lb), .map (some fb)] 118 (0, 0))
  Bd : B ≤ d
  Bg : B ≤ g
  Bl : B ≤ lb
  Bf : B ≤ fb
  ne : lb ≠ fb
  row : Row w g cap S
  loose : ∃ n, Mp w lb n (lfun L)
  flush : ∃ n, Mp w fb n (ffun F)
  len : S.length % 8 = 0 ∧ S.length ≤ 65536
  keyL : ∀ k x, L k = some x → 0 ≤ k ∧ k * 8 + 8 ≤ S.length ∧ x.length = 8
  keyF : ∀ k, F k = true → 0 ≤ k ∧ k * 8 + 8 ≤ S.length

section
variable {w w' : World} {B d g cap lb fb : Nat} {S : List UInt8} {L : Int → Option (List UInt8)} {F : Int → Bool}
theorem Row.lt (h : Row w g cap S) : g < w.heap.size := by obtain ⟨cur, h1, _⟩ := h; exact row_lt h1
theorem Row.cong (h : Row w g cap S) (e : w'.heap[g]? = w.heap[g]?) : Row w' g cap S := by obtain ⟨cur, h1, h2⟩ := h; exact ⟨cur, e.trans h1, h2⟩
theorem Row.rd (h : Row w g cap S) : Rd w w.heap.size (some ⟨g, 0, none⟩) S.length cap S := by
  have hlt := h.lt
  obtain ⟨cur, hg, hs, hc, hm, ht⟩ := h
  refine ⟨rfl, hc, hm, by simp, fun _ => ⟨g, 0, rfl, hlt, fun i hi => ?_⟩⟩
  rw [Nat.zero_add, row_cell hg]
  have h2 : (cur.toList.take S.length)[i]? = some (bv S[i]) := by rw [ht]; simp [hi]
  rw [List.getElem?_take_of_lt hi] at h2
  simpa using h2
theorem Dev.dlt (h : Dev w B d g cap lb fb S L F) : d < w.heap.size := row_lt h.hd
theorem Dev.glt (h : Dev w B d g cap lb fb S L F) : g < w.heap.size := h.row.lt
theorem Dev.llt (h : Dev w B d g cap lb fb S L F) : lb < w.heap.size := by obtain ⟨n, hm⟩ := h.loose; exact hm.lt
theorem Dev.flt (h : Dev w B d g cap lb fb S L F) : fb < w.heap.size := by obtain ⟨n, hm⟩ := h.flush; exact hm.lt
theorem Dev.cong (h : Dev w B d g cap lb fb S L F) (e1 : w'.heap[d]? = w.heap[d]?) (e2 : w'.heap[g]? = w.heap[g]?) (e3 : w'.heap[lb]? = w.heap[lb]?) (e4 : w'.heap[fb]? = w.heap[fb]?) : Dev w' B d g cap lb fb S L F :=
  { h with hd := e1.trans h.hd, row := h.row.cong e2, loose := by obtain ⟨n, hm⟩ := h.loose; exact ⟨n, hm.cong e3⟩, flush := by obtain ⟨n, hm⟩ := h.flush; exact ⟨n, hm.cong e4⟩ }
/-- Behind a call that leaves all that was there. -/
theorem Dev.on (h : Dev w B d g cap lb fb S L F) (hb : Below w.heap.size w w') : Dev w' B d g cap lb fb S L F :=
  h.cong (hb.block d h.dlt) (hb.block g h.glt) (hb.block lb h.llt) (hb.block fb h.flt)
theorem Dev.alloc (h : Dev w B d g cap lb fb S L F) (o : Obj) : Dev (w.alloc o) B d g cap lb fb S L F := h.on (B1 w o)
theorem Dev.drew (h : Dev w B d g cap lb fb S L F) : Dev w.drew B d g cap lb fb S L F := h.cong rfl rfl rfl rfl
theorem Dev.less {B' : Nat} (h : Dev w B d g cap lb fb S L F) (hB : B' ≤ B) : Dev w B' d g cap lb fb S L F :=
  { h with Bd := Nat.le_trans hB h.Bd, Bg := Nat.le_trans hB h.Bg, Bl := Nat.le_trans hB h.Bl, Bf := Nat.le_trans hB h.Bf }
theorem Dev.c0 (h : Dev w B d g cap lb fb S L F) : w.cell? ⟨d, 0, none⟩ = some (.slice (some ⟨g, 0, none⟩) S.length cap) := by rw [row_cell h.hd]; rfl
theorem Dev.c1 (h : Dev w B d g cap lb fb S L F) : w.cell? ⟨d, 1, none⟩ = some (.map (some lb)) := by rw [row_cell h.hd]; rfl
theorem Dev.c2 (h : Dev w B d g cap lb fb S L F) : w.cell? ⟨d, 2, none⟩ = some (.map (some fb)) := by rw [row_cell h.hd]; rfl
theorem Dev.rd (h : Dev w B d g cap lb fb S L F) : Rd w w.heap.size (some ⟨g, 0, none⟩) S.length cap S := h.row.rd
end

theorem device_any (g n cap : Nat) (w : World) :
    Calls Tryz.prog 49 #[.slice (some ⟨g, 0, none⟩) n cap] w fun e w' => e = .returned (.pointer (some ⟨w.heap.size + 2, 0, none⟩)) ∧
      w' = ((w.alloc (.map #[] 0)).alloc (.map #[] 0)).alloc (.cells #[.slice (some ⟨g, 0, none⟩) n cap, .map (some w.heap.size), .map (some (w.heap.size + 1))] 118) := by
  have hmm := @run_makeMap Tryz.prog
  go_enter Tryz.func49, Tryz.ntmps49
  go_wp2
  go_ret
  exact ⟨rfl, rfl⟩

theorem dev_new (w : World) (B g cap : Nat) (S : List UInt8) (hr : Row w g cap S) (hB : B ≤ g) (hBw : B ≤ w.heap.size) (hl : S.length % 8 = 0 ∧ S.length ≤ 65536) :
    Dev (((w.alloc (.map #[] 0)).alloc (.map #[] 0)).alloc (.cells #[.slice (some ⟨g, 0, none⟩) S.length cap, .map (some w.heap.size), .map (some (w.heap.size + 1))] 118)) B (w.heap.size + 2) g cap w.heap.size (w.heap.size + 1) S (fun _ => none) (fun _ => false) := by
  have hg := hr.lt
  refine ⟨?_, by omega, hB, hBw, by omega, by omega, ?_, ⟨0, ?_⟩, ⟨0, ?_⟩, hl, (fun k x h => by cases h), (fun k h => by cases h)⟩
  · have := heap_alloc_new ((w.alloc (.map #[] 0)).alloc (.map #[] 0)) (.cells #[.slice (some ⟨g, 0, none⟩) S.length cap, .map (some w.heap.size), .map (some (w.heap.size + 1))] 118)
    simpa using this
  · have h1 := (B1 w (.map #[] 0)); have h2 := Ba h1 (.map #[] 0); have h3 := Ba h2 (.cells #[.slice (some ⟨g, 0, none⟩) S.length cap, .map (some w.heap.size), .map (some (w.heap.size + 1))] 118)
    exact hr.cong (h3.block g hg)
  · exact ((Mp.made w).alloc _).alloc _
  · have := (Mp.made (w.alloc (.map #[] 0))).alloc (.cells #[.slice (some ⟨g, 0, none⟩) S.length cap, .map (some w.heap.size), .map (some (w.heap.size + 1))] 118)
    have e : (ffun fun _ => false) = fun _ => none := by funext k; simp [ffun]
    rw [e]
    simpa using this

def zeros (n : Nat) : List UInt8 := List.replicate n 0
theorem zeros_length (n : Nat) : (zeros n).length = n := by simp [zeros]

set_option maxHeartbeats 400000 in
theorem new_ok (k : Int) (m : Nat) (hm : (m : Int) = k * 8) (h0 : 0 ≤ k) (h1 : k ≤ 8192) (w : World) :
    Calls Tryz.prog 20 #[.int .i64 k] w fun e w' => ∃ d g lb fb, e = .returned (.tuple #[.pointer (some ⟨d, 0, none⟩), .int .i64 0]) ∧ Dev w' w.heap.size d g m lb fb (zeros m) (fun _ => none) (fun _ => false) ∧ Below w.heap.size w w' := by
  have hmk := run_make8 m (k * 8) hm.symm (by omega)
  go_enter Tryz.func20, Tryz.ntmps20
  go_wp2_with fail
  refine (device_any _ _ _ _).mono ?_
  rintro e w1 ⟨rfl, rfl⟩
  go_wp2_with fail
  go_ret2
  refine ⟨w.heap.size + 1 + 2, w.heap.size, w.heap.size + 1, w.heap.size + 1 + 1, rfl, ?_, ?_⟩
  · have hr : Row (w.alloc (.cells (zrow m).toArray 5)) w.heap.size m (zeros m) :=
      ⟨_, heap_alloc_new w _, by simp [zrow], by simp [zeros], by unfold maxLen; omega, by simp [zrow, zeros]⟩
    have := dev_new _ w.heap.size w.heap.size m (zeros m) hr (Nat.le_refl _) (by simp) (by rw [zeros_length]; omega)
    simpa [zeros_length] using this
  · exact Ba (Ba (Ba (B1 w _) _) _) _

theorem new_bad (k : Int) (hk : k < 0 ∨ 8192 < k) (w : World) :
    Calls Tryz.prog 20 #[.int .i64 k] w fun e w' => e = .returned (.tuple #[.pointer none, .int .i64 1]) ∧ w' = w := by
  go_enter Tryz.func20, Tryz.ntmps20
  by_cases h : k < 0
  · go_wp2
    go_ret2
    exact ⟨rfl, rfl⟩
  · have h2 : 8192 < k := by omega
    go_wp2
    go_ret2
    exact ⟨rfl, rfl⟩

section
variable {w : World} {B d g cap lb fb : Nat} {S : List UInt8} {L : Int → Option (List UInt8)} {F : Int → Bool}
theorem len_any (h : Dev w B d g cap lb fb S L F) :
    Calls Tryz.prog 59 #[.pointer (some ⟨d, 0, none⟩)] w fun e w' => e = .returned (.int .i64 S.length) ∧ w' = w := by
  have hc := h.c0
  go_enter Tryz.func59, Tryz.ntmps59
  go_wp2
  go_ret
  exact ⟨rfl, rfl⟩

/-- What is amiss with so many bytes. -/
def hE (n at_ long : Int) : Int := if long < 0 then 1 else if at_ < 0 ∨ n - at_ < long then 30 else 0

set_option maxHeartbeats 400000 in
theorem dholds_any (h : Dev w B d g cap lb fb S L F) (at_ long : Int) (ha : I64 at_) (hl : I64 long) :
    Calls Tryz.prog 58 #[.pointer (some ⟨d, 0, none⟩), .int .i64 at_, .int .i64 long] w fun e w' => e = .returned (.int .i64 (hE S.length at_ long)) ∧ w' = w := by
  have ha2 := i64_iff.1 ha; have hl2 := i64_iff.1 hl
  have hlen := h.len.2
  obtain ⟨n, hn⟩ : ∃ n : Int, n = S.length := ⟨_, rfl⟩
  have hn2 : 0 ≤ n ∧ n ≤ 65536 := by omega
  have cl := len_any h
  rw [← hn] at cl ⊢
  have HC := hid cl
  clear h hlen hn cl ha hl
  go_enter Tryz.func58, Tryz.ntmps58
  by_cases h1 : long < 0
  · go_wp2_with fail
    go_ret
    exact ⟨by simp [hE, h1], rfl⟩
  · by_cases h2 : at_ < 0
    · go_wp2_with fail
      go_ret
      exact ⟨by unfold hE; rw [if_neg (by omega), if_pos (.inl h2)]; rfl, rfl⟩
    · go_wp2_with fail
      refine HC.out.mono ?_
      rintro e w1 ⟨rfl, rfl⟩
      by_cases h3 : n - at_ < long
      · go_wp2_with fail
        go_ret
        exact ⟨by unfold hE; rw [if_neg (by omega), if_pos (.inr h3)]; rfl, rfl⟩
      · go_wp2_with fail
        go_ret
        exact ⟨by unfold hE; rw [if_neg (by omega), if_neg (by omega)]; rfl, rfl⟩
end

/-- The first word, and the one behind the last. -/
def spA (at_ long : Int) : Int := if long = 0 then 0 else at_ / 8
def spB (at_ long : Int) : Int := if long = 0 then 0 else (at_ + long - 1) / 8 + 1

set_option maxHeartbeats 400000 in
theorem span_any (at_ long : Int) (h0 : 0 ≤ at_) (h1 : 0 ≤ long) (h2 : at_ + long ≤ 65536) (w : World) :
    Calls Tryz.prog 75 #[.int .i64 at_, .int .i64 long] w fun e w' => e = .returned (.tuple #[.int .i64 (spA at_ long), .int .i64 (spB at_ long)]) ∧ w' = w := by
  go_enter Tryz.func75, Tryz.ntmps75
  by_cases h : long = 0
  · go_wp2
    go_ret2
    exact ⟨by simp [spA, spB, h], rfl⟩
  · go_wp2
    go_ret2
    refine ⟨?_, rfl⟩
    simp [spA, spB, h]

section
variable {w : World} {B d g cap lb fb : Nat} {S : List UInt8} {L : Int → Option (List UInt8)} {F : Int → Bool}
set_option maxHeartbeats 400000 in
theorem word_any (h : Dev w B d g cap lb fb S L F) (n : Int) (m : Nat) (hm : (m : Int) = n * 8) (h8 : m + 8 ≤ S.length) :
    Calls Tryz.prog 56 #[.pointer (some ⟨d, 0, none⟩), .int .i64 n] w fun e w' => e = .returned (.slice (some ⟨g, m, none⟩) 8 (cap - m)) ∧ w' = w := by
  have hc := h.c0
  have hl := h.len.2
  obtain ⟨cur, _, _, hcap, hmax, _⟩ := h.row
  obtain ⟨x, hx⟩ : ∃ x : Int, x = n * 8 := ⟨_, rfl⟩
  have hn : n * 8 = x := hx.symm
  have hxm : x.toNat = m := by omega
  obtain ⟨C, hC⟩ : ∃ C : Int, C = cap := ⟨_, rfl⟩
  have h0 : 0 ≤ x := by omega
  have h1 : x ≤ 65536 := by omega
  have h2 : x + 8 ≤ cap := by omega
  have hcm : m + 8 ≤ cap := by omega
  have hN2 := hid hcap; have hm2 := hid hm; have hX := hid hxm
  obtain ⟨N, hN⟩ : ∃ N, N = S.length := ⟨_, rfl⟩
  rw [← hN] at hc
  clear h hN hx hl hmax hm h8 hC hcap hxm
  go_enter Tryz.func56, Tryz.ntmps56
  go_wp2
  go_ret
  have e1 := hX.out
  refine ⟨?_, rfl⟩
  show Ending.returned (Value.slice (some ⟨g, x.toNat, none⟩) ((x + 8).toNat - x.toNat) (cap - x.toNat)) = _
  rw [e1, show (x + 8).toNat - m = 8 by omega]

/-- bytes.Clone of bytes that are not nil. -/
theorem bclone_any (ad : Addr) (n c : Nat) (l : List UInt8) (w : World) (h : Rd w w.heap.size (some ad) n c l) (hm : n ≤ 1000000) :
    Calls Tryz.prog 50 #[.slice (some ad) n c] w fun e w' => ∃ v, e = .returned v ∧ Own w' w.heap.size v l ∧ v ≠ .slice none 0 0 ∧ Below w.heap.size w w' := by
  have hq := fun W => Lib.run_eql_slice_nil (P := Tryz.prog) W 22 5 (some ad) n c 0 0 Tryz.underlying22
  have H := hid h; clear h
  go_enter Tryz.func50, Tryz.ntmps50
  go_wp2_with (at_builtin; refine wpList_append8 rfl (.tmp 5) (.tmp 6) rfl rfl (own_new w [] 0 rfl (by unfold maxLen; omega)) rfl (H.out.on (B1 _ _)) (by simp) (by simp; omega) ?_; intro v' w' how hgr hnil)
  go_ret
  refine ⟨_, rfl, by simpa using how, (fun e => by have := hnil e; cases this), ?_⟩
  have hg : (w.alloc (Obj.cells #[] 5)).grownBy w' (some w.heap.size) := hgr
  exact (B1 w (Obj.cells #[] 5)).grown hg (by simp) (fun k hk => by cases hk; exact Nat.le_refl _)

theorem bytes_any (h : Dev w B d g cap lb fb S L F) :
    Calls Tryz.prog 45 #[.pointer (some ⟨d, 0, none⟩)] w fun e w' => ∃ v, e = .returned v ∧ Own w' w.heap.size v S ∧ Below w.heap.size w w' := by
  have hc := h.c0
  have hcl := bclone_any _ _ _ S w h.rd (by have := h.len.2; omega)
  have H := hid hcl; clear h hcl
  obtain ⟨N, hN⟩ : ∃ N, N = S.length := ⟨_, rfl⟩
  rw [← hN] at hc H
  clear hN
  go_enter Tryz.func45, Tryz.ntmps45
  go_wp2_with fail
  refine H.out.mono ?_
  rintro e w1 ⟨v, rfl, ho, hn, hb⟩
  have HO := hid ho; clear ho hn
  go_wp2_with fail
  go_ret
  exact ⟨v, rfl, HO.out, hb⟩

theorem hE_ok {n a l : Int} (h : hE n a l = 0) : 0 ≤ a ∧ 0 ≤ l ∧ a + l ≤ n := by
  unfold hE at h; split at h
  · omega
  · split at h <;> omega

set_option maxHeartbeats 400000 in
theorem read_ok (h : Dev w B d g cap lb fb S L F) (at_ long : Int) (ha : I64 at_) (hl : I64 long) (he : hE S.length at_ long = 0) :
    Calls Tryz.prog 24 #[.pointer (some ⟨d, 0, none⟩), .int .i64 at_, .int .i64 long] w fun e w' => ∃ v, e = .returned (.tuple #[v, .int .i64 0]) ∧ Own w' w.heap.size v ((S.drop at_.toNat).take long.toNat) ∧ Below w.heap.size w w' := by
  have hc := h.c0
  have hlen := h.len.2
  have hh := dholds_any h at_ long ha hl
  rw [he] at hh
  obtain ⟨h0, h1, h2⟩ := hE_ok he
  have hrd := h.rd
  obtain ⟨cur, _, _, hcap, hmax, _⟩ := h.row
  have hr2 := (hrd.drop (k := at_.toNat) (by omega)).take (m := long.toNat) (by omega)
  have h3 : at_ + long ≤ 65536 := by omega
  have h4 : at_ + long ≤ cap := by omega
  have HH := hid hh; have HR := hid hr2; have HC := hid hcap
  obtain ⟨N, hN⟩ : ∃ N, N = S.length := ⟨_, rfl⟩
  rw [← hN] at hc
  have HE : Hid ((at_ + long).toNat - at_.toNat = long.toNat) := show _ = _ by omega
  have HM : Hid (long.toNat ≤ 1000000) := show _ ≤ _ by omega
  clear h hN hlen he hh hrd hr2 hmax hcap ha hl h2
  by_cases hq : cap = at_.toNat
  · subst hq
    rw [if_pos rfl, Nat.sub_self] at HR
    go_enter Tryz.func24, Tryz.ntmps24
    go_wp2_with fail
    refine HH.out.mono ?_
    rintro e w1 ⟨rfl, rfl⟩
    go_wp2_with fail
    rw [HE.out]
    refine (bclone_any _ _ _ _ _ HR.out HM.out).mono ?_
    rintro e w2 ⟨v, rfl, ho, hn, hb⟩
    have HO := hid ho; clear ho hn
    go_wp2_with fail
    go_ret2
    exact ⟨v, rfl, HO.out, hb⟩
  · rw [if_neg hq] at HR
    simp only [Option.map_some, add_plain, Nat.zero_add] at HR
    go_enter Tryz.func24, Tryz.ntmps24
    go_wp2_with fail
    refine HH.out.mono ?_
    rintro e w1 ⟨rfl, rfl⟩
    go_wp2_with fail
    rw [HE.out]
    refine (bclone_any _ _ _ _ _ HR.out HM.out).mono ?_
    rintro e w2 ⟨v, rfl, ho, hn, hb⟩
    have HO := hid ho; clear ho hn
    go_wp2_with fail
    go_ret2
    exact ⟨v, rfl, HO.out, hb⟩

set_option maxHeartbeats 400000 in
theorem read_bad (h : Dev w B d g cap lb fb S L F) (at_ long : Int) (ha : I64 at_) (hl : I64 long) (he : hE S.length at_ long ≠ 0) :
    Calls Tryz.prog 24 #[.pointer (some ⟨d, 0, none⟩), .int .i64 at_, .int .i64 long] w fun e w' => e = .returned (.tuple #[.slice none 0 0, .int .i64 (hE S.length at_ long)]) ∧ w' = w := by
  have hh := dholds_any h at_ long ha hl
  obtain ⟨x, hx⟩ : ∃ x, x = hE S.length at_ long := ⟨_, rfl⟩
  rw [← hx] at hh he ⊢
  have HH := hid hh
  clear h hh hx ha hl
  go_enter Tryz.func24, Tryz.ntmps24
  go_wp2_with fail
  refine HH.out.mono ?_
  rintro e w1 ⟨rfl, rfl⟩
  go_wp2_with fail
  go_ret2
  exact ⟨rfl, rfl⟩
end
end Go.Proofs.YteggkojlpgkhbaaGreat
