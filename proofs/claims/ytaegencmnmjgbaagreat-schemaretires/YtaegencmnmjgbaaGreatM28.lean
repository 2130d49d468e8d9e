/-
  A change in memory; a table whose fields and moves a loop makes.
  A field, and a move's number, are put into rows of the call's own; an order.
-/
import Derived.Test.YtaegencmnmjgbaaGreatM20
import Derived.Test.YtaegencmnmjgbaaGreatM27

namespace Go.Proofs.YtaegencmnmjgbaaGreat
open Go.RowKit
set_option linter.unusedVariables false
set_option linter.unusedSimpArgs false
def chV (c : Ch) (A : Option Addr) (n cp : Nat) : Value := .agg #[.int .i64 c.op, .string (bs c.nm), .string (bs c.to.nm), .int .i64 c.to.k, .int .i64 c.to.g, .int .i64 c.dk, .int .u64 c.dn, .string c.dt, .slice A n cp]
def CB (w : World) (b : Nat) (c : Ch) (A : Option Addr) (n cp : Nat) (ty : TypeId) : Prop := w.heap[b]? = some (.cells #[.int .i64 c.op, .string (bs c.nm), .string (bs c.to.nm), .int .i64 c.to.k, .int .i64 c.to.g, .int .i64 c.dk, .int .u64 c.dn, .string c.dt, .slice A n cp] ty (0, 0))
def chOk (c : Ch) : Prop := I64 c.op ∧ I64 c.to.k ∧ I64 c.to.g ∧ I64 c.dk ∧ U64 c.dn ∧ c.to.nm.length ≤ 140737488351232
section
variable {w w' : World} {b b' : Nat} {c : Ch} {A : Option Addr} {n cp : Nat} {ty : TypeId}
theorem CB.lt (h : CB w b c A n cp ty) : b < w.heap.size := row_lt h
theorem CB.on (h : CB w b c A n cp ty) (hb : Below w.heap.size w w') : CB w' b c A n cp ty := (hb.block b h.lt).trans h
theorem CB.new (w : World) (c : Ch) (A : Option Addr) (n cp : Nat) (ty : TypeId) : CB (w.alloc (.cells #[.int .i64 c.op, .string (bs c.nm), .string (bs c.to.nm), .int .i64 c.to.k, .int .i64 c.to.g, .int .i64 c.dk, .int .u64 c.dn, .string c.dt, .slice A n cp] ty)) w.heap.size c A n cp ty := heap_alloc_new w _
theorem CB.cells (h : CB w b c A n cp ty) : w.cell? ⟨b, 0, none⟩ = some (.int .i64 c.op) ∧ w.cell? ⟨b, 1, none⟩ = some (.string (bs c.nm)) ∧ w.cell? ⟨b, 2, none⟩ = some (.string (bs c.to.nm)) ∧ w.cell? ⟨b, 3, none⟩ = some (.int .i64 c.to.k) ∧ w.cell? ⟨b, 4, none⟩ = some (.int .i64 c.to.g) ∧ w.cell? ⟨b, 5, none⟩ = some (.int .i64 c.dk) ∧ w.cell? ⟨b, 6, none⟩ = some (.int .u64 c.dn) ∧ w.cell? ⟨b, 7, none⟩ = some (.string c.dt) ∧ w.cell? ⟨b, 8, none⟩ = some (.slice A n cp) :=
  ⟨row_cell h 0, row_cell h 1, row_cell h 2, row_cell h 3, row_cell h 4, row_cell h 5, row_cell h 6, row_cell h 7, row_cell h 8⟩
end
structure MkC (w W : World) (q : Nat) (s v1 v2 : Value) (B : Nat) (lf : List Fd) (lm : List Mv) : Prop where
  tb : TBx W q s v1 v2 110
  of : OwF W B v1 lf
  om : OwM W B 150 v2 lm
  bl : Below w.heap.size w W
  qb : q < B
  wq : w.heap.size ≤ q
  az : B ≤ W.heap.size
section
variable {w W W' : World} {q B : Nat} {s v1 v2 v : Value} {lf lf' : List Fd} {lm lm' : List Mv}
theorem MkC.on (h : MkC w W q s v1 v2 B lf lm) (hb : Below W.heap.size W W') : MkC w W' q s v1 v2 B lf lm :=
  ⟨h.tb.on hb, h.of.on hb, h.om.on hb, h.bl.trans (hb.mono h.bl.size), h.qb, h.wq, Nat.le_trans h.az hb.size⟩
theorem OwM.keepF (h : OwM W B 150 v lm) {row : Option Nat} (hg : W.grownBy W' row) (hr : ∀ r, row = some r → ∃ cs, W.heap[r]? = some (.cells cs 68 (0, 0))) : OwM W' B 150 v lm := by
  refine ⟨h.1, ?_⟩
  rcases h.2 with h1 | ⟨g, cap, cur, hv, hbase, hg2, h3⟩
  · exact .inl h1
  · refine .inr ⟨g, cap, cur, hv, hbase, (hg.block g (row_lt hg2) (fun e => ?_)).trans hg2, h3⟩
    obtain ⟨cs, hc⟩ := hr g e.symm
    rw [hg2] at hc; cases hc
theorem OwF.keepM (h : OwF W B v lf) {row : Option Nat} (hg : W.grownBy W' row) (hr : ∀ r, row = some r → ∃ cs, W.heap[r]? = some (.cells cs 150 (0, 0))) : OwF W' B v lf := by
  refine ⟨h.1, ?_⟩
  rcases h.2 with h1 | ⟨g, cap, cur, hv, hbase, hg2, h3⟩
  · exact .inl h1
  · refine .inr ⟨g, cap, cur, hv, hbase, (hg.block g (row_lt hg2) (fun e => ?_)).trans hg2, h3⟩
    obtain ⟨cs, hc⟩ := hr g e.symm
    rw [hg2] at hc; cases hc
theorem MkC.appF (h : MkC w W q s v1 v2 B lf lm) (hg : W.grownBy W' v1.ownBlock) (ho : OwF W' B v lf') : MkC w (W'.setCell ⟨q, 1, none⟩ v) q s v v2 B lf' lm :=
  ⟨(h.tb.grown hg (fun e => by have := (h.of.blk2 q e.symm).1; have := h.qb; omega)).set1 v, ho.set h.qb 1 _, (h.om.keepF hg (fun r e => (h.of.blk2 r e).2)).set h.qb 1 _,
    ((h.bl.grown hg h.bl.size (fun j e => Nat.le_trans (Nat.le_trans h.wq (Nat.le_of_lt h.qb)) (h.of.blk2 j e).1)).setCell (p := ⟨q, 1, none⟩) h.wq _), h.qb, h.wq, by simp only [size_set]; exact Nat.le_trans h.az hg.size⟩
theorem MkC.appM (h : MkC w W q s v1 v2 B lf lm) (hg : W.grownBy W' v2.ownBlock) (ho : OwM W' B 150 v lm') : MkC w (W'.setCell ⟨q, 2, none⟩ v) q s v1 v B lf lm' :=
  ⟨(h.tb.grown hg (fun e => by have := (h.om.blk2 q e.symm).1; have := h.qb; omega)).set2 v, (h.of.keepM hg (fun r e => (h.om.blk2 r e).2)).set h.qb 2 _, ho.set h.qb 2 _,
    ((h.bl.grown hg h.bl.size (fun j e => Nat.le_trans (Nat.le_trans h.wq (Nat.le_of_lt h.qb)) (h.om.blk2 j e).1)).setCell (p := ⟨q, 2, none⟩) h.wq _), h.qb, h.wq, by simp only [size_set]; exact Nat.le_trans h.az hg.size⟩
end
def MkQ (w : World) (l : List Fd) (c : Ch) (e : Ending) (w' : World) : Prop := ∃ v, e = .returned (.tuple #[v, .int .i64 (mkE l c)]) ∧ RdT w' w'.heap.size v (mkT l c) ∧ Below w.heap.size w w'
end Go.Proofs.YtaegencmnmjgbaaGreat

namespace Go.Proofs.YtaegencmnmjgbaaGreat
open Go.RowKit
set_option linter.unusedVariables false
set_option linter.unusedSimpArgs false
theorem cellsFd_set : ∀ (l : List Fd) (i : Nat) (f : Fd), i < l.length → (((cellsFd l).set (i * 3) (.string (bs f.nm))).set (i * 3 + 1) (.int .i64 f.k)).set (i * 3 + 2) (.int .i64 f.g) = cellsFd (l.set i f)
  | [], i, f, h => by simp at h
  | x :: l, 0, f, h => rfl
  | x :: l, i + 1, f, h => by
    have e : cellsFd (x :: l) = x.cells ++ cellsFd l := rfl
    have e2 : cellsFd ((x :: l).set (i + 1) f) = x.cells ++ cellsFd (l.set i f) := rfl
    rw [e, e2, ← cellsFd_set l i f (by simpa using h)]
    have hl : x.cells.length = 3 := rfl
    rw [List.set_append_right _ _ (by rw [hl]; omega), List.set_append_right _ _ (by rw [hl]; omega), List.set_append_right _ _ (by rw [hl]; omega), hl]
    rw [show (i + 1) * 3 - 3 = i * 3 by omega, show (i + 1) * 3 + 1 - 3 = i * 3 + 1 by omega, show (i + 1) * 3 + 2 - 3 = i * 3 + 2 by omega]
theorem cellsMv_set : ∀ (l : List Mv) (i : Nat) (m : Mv) (x : Int), l[i]? = some m → (cellsMv l).set (i * 4) (.int .i64 x) = cellsMv (l.set i ⟨x, m.k, m.n, m.t⟩)
  | [], i, m, x, h => by simp at h
  | y :: l, 0, m, x, h => by simp at h; subst h; rfl
  | y :: l, i + 1, m, x, h => by
    have e : cellsMv (y :: l) = y.cells ++ cellsMv l := rfl
    have e2 : cellsMv ((y :: l).set (i + 1) ⟨x, m.k, m.n, m.t⟩) = y.cells ++ cellsMv (l.set i ⟨x, m.k, m.n, m.t⟩) := rfl
    rw [e, e2, ← cellsMv_set l i m x (by simpa using h)]
    have hl : y.cells.length = 4 := rfl
    rw [List.set_append_right _ _ (by rw [hl]; omega), hl, show (i + 1) * 4 - 4 = i * 4 by omega]
theorem OwF.put {w : World} {B : Nat} {v : Value} {l : List Fd} (h : OwF w B v l) {i : Nat} (hi : i < l.length) (f : Fd) :
    ∃ g cap, v = .slice (some ⟨g, 0, none⟩) l.length cap ∧ B ≤ g ∧ (∃ cs, w.heap[g]? = some (.cells cs 68 (0, 0)) ∧ l.length * 3 ≤ cs.size) ∧ OwF (((w.setCell ⟨g, i * 3, none⟩ (.string (bs f.nm))).setCell ⟨g, i * 3 + 1, none⟩ (.int .i64 f.k)).setCell ⟨g, i * 3 + 2, none⟩ (.int .i64 f.g)) B v (l.set i f) := by
  rcases h.2 with ⟨rfl, hn⟩ | ⟨g, cap, cur, rfl, hbase, hg, hnc, hm, hs, hl⟩
  · omega
  · refine ⟨g, cap, rfl, hbase, ⟨cur, hg, by rw [hs]; exact Nat.mul_le_mul_right 3 hnc⟩, by rw [cellsFd_length], .inr ⟨g, cap, _, by rw [List.length_set], hbase, row_set (row_set (row_set hg (i * 3) _) (i * 3 + 1) _) (i * 3 + 2) _, by rw [List.length_set]; exact hnc, hm, by simp [hs], ?_⟩⟩
    rw [List.length_set, ← cellsFd_set l i f hi, ← hl]
    simp only [Array.toList_setIfInBounds, List.take_set]
theorem OwM.put {w : World} {B : Nat} {ty : TypeId} {v : Value} {l : List Mv} (h : OwM w B ty v l) {i : Nat} {m : Mv} (hi : l[i]? = some m) (x : Int) :
    ∃ g cap, v = .slice (some ⟨g, 0, none⟩) l.length cap ∧ B ≤ g ∧ (∃ cs, w.heap[g]? = some (.cells cs ty (0, 0)) ∧ l.length * 4 ≤ cs.size) ∧ OwM (w.setCell ⟨g, i * 4, none⟩ (.int .i64 x)) B ty v (l.set i ⟨x, m.k, m.n, m.t⟩) := by
  rcases h.2 with ⟨rfl, hn⟩ | ⟨g, cap, cur, rfl, hbase, hg, hnc, hm, hs, hl⟩
  · rw [List.eq_nil_of_length_eq_zero hn] at hi; simp at hi
  · refine ⟨g, cap, rfl, hbase, ⟨cur, hg, by rw [hs]; exact Nat.mul_le_mul_right 4 hnc⟩, by rw [cellsMv_length], .inr ⟨g, cap, _, by rw [List.length_set], hbase, row_set hg (i * 4) _, by rw [List.length_set]; exact hnc, hm, by simp [hs], ?_⟩⟩
    rw [List.length_set, ← cellsMv_set l i m x hi, ← hl]
    simp only [Array.toList_setIfInBounds, List.take_set]
theorem OwM.heapEq {w w' : World} {B : Nat} {ty : TypeId} {v : Value} {l : List Mv} (h : OwM w B ty v l) (he : w'.heap = w.heap) : OwM w' B ty v l := by
  refine ⟨h.1, ?_⟩
  rcases h.2 with h1 | ⟨g, cap, cur, hv, hbase, hg, h3⟩
  · exact .inl h1
  · exact .inr ⟨g, cap, cur, hv, hbase, by rw [he]; exact hg, h3⟩
theorem OwM.setF {w : World} {B g : Nat} {v : Value} {l : List Mv} (h : OwM w B 150 v l) {cs : Array Value} (hg : w.heap[g]? = some (.cells cs 68 (0, 0))) (i : Nat) (u : Value) : OwM (w.setCell ⟨g, i, none⟩ u) B 150 v l := by
  refine ⟨h.1, ?_⟩
  rcases h.2 with h1 | ⟨q, cap, cur, hv, hbase, hq, h3⟩
  · exact .inl h1
  · refine .inr ⟨q, cap, cur, hv, hbase, (Below.heap_setCell w ⟨g, i, none⟩ u q (fun e => ?_)).trans hq, h3⟩
    have e : q = g := e
    subst e; rw [hg] at hq; cases hq
theorem OwF.setM {w : World} {B g : Nat} {v : Value} {l : List Fd} (h : OwF w B v l) {cs : Array Value} (hg : w.heap[g]? = some (.cells cs 150 (0, 0))) (i : Nat) (u : Value) : OwF (w.setCell ⟨g, i, none⟩ u) B v l := by
  refine ⟨h.1, ?_⟩
  rcases h.2 with h1 | ⟨q, cap, cur, hv, hbase, hq, h3⟩
  · exact .inl h1
  · refine .inr ⟨q, cap, cur, hv, hbase, (Below.heap_setCell w ⟨g, i, none⟩ u q (fun e => ?_)).trans hq, h3⟩
    have e : q = g := e
    subst e; rw [hg] at hq; cases hq
theorem newF_id {l : List Fd} {c : Ch} {k : Option Nat} (h2 : c.op ≠ 2) (h3 : c.op ≠ 3) (h4 : c.op ≠ 4) : ∀ n, n ≤ l.length → newF l c k n = l.take n
  | 0, _ => by simp [newF, idxs]
  | n + 1, hn => by
    have hf : l[n]? = some l[n] := List.getElem?_eq_getElem (by omega)
    rw [newF_keep hf (by unfold keepB; simp [h2]), newF_id h2 h3 h4 n (by omega), List.take_add_one, hf]
    unfold ed; simp [h3, h4]
theorem mvF_id {c : Ch} {k : Option Nat} (h2 : c.op ≠ 2) (n : Nat) : mvF c k n = selfL n := by
  unfold mvF selfL; rw [idxs_all h2]
def odP (l : List Fd) (od : List Int) (i : Nat) : List Fd := (odF l od).take i ++ l.drop i
def omP (n : Nat) (od : List Int) (i : Nat) : List Mv := (odM od).take i ++ (selfL n).drop i
theorem odF_at {l : List Fd} : ∀ {od : List Int}, (∀ x ∈ od, 0 ≤ x ∧ x < l.length) → ∀ (i : Nat) (x : Int), od[i]? = some x → (odF l od)[i]? = l[x.toNat]?
  | [], _, i, x, h => by simp at h
  | y :: od, ho, i, x, h => by
    have hy := ho y (by simp)
    have e : fdAt l y = l[y.toNat]? := by unfold fdAt; rw [if_pos hy.1]
    have hs : l[y.toNat]? = some (l[y.toNat]'(by omega)) := List.getElem?_eq_getElem (by omega)
    have e2 : odF l (y :: od) = (l[y.toNat]'(by omega)) :: odF l od := by unfold odF; rw [List.filterMap_cons, e, hs]
    rw [e2]
    cases i with
    | zero => simp at h; subst h; rw [hs]; rfl
    | succ i => simp at h; rw [List.getElem?_cons_succ]; exact odF_at (fun z hz => ho z (by simp [hz])) i x h
theorem odF_length {l : List Fd} : ∀ {od : List Int}, (∀ x ∈ od, 0 ≤ x ∧ x < l.length) → (odF l od).length = od.length
  | [], _ => rfl
  | y :: od, ho => by
    have hy := ho y (by simp)
    have e : fdAt l y = l[y.toNat]? := by unfold fdAt; rw [if_pos hy.1]
    have hs : l[y.toNat]? = some (l[y.toNat]'(by omega)) := List.getElem?_eq_getElem (by omega)
    have e2 : odF l (y :: od) = (l[y.toNat]'(by omega)) :: odF l od := by unfold odF; rw [List.filterMap_cons, e, hs]
    rw [e2, List.length_cons, List.length_cons, odF_length (fun z hz => ho z (by simp [hz]))]
theorem step_set {α : Type} {a b : List α} {i : Nat} {x : α} (ha : a[i]? = some x) (hb : i < b.length) : (a.take i ++ b.drop i).set i x = a.take (i + 1) ++ b.drop (i + 1) := by
  have hl : i < a.length := (List.getElem?_eq_some_iff.1 ha).1
  rw [List.set_append_right _ _ (by rw [List.length_take]; omega), List.length_take, Nat.min_eq_left (by omega), Nat.sub_self, List.take_add_one, ha, List.drop_eq_getElem_cons hb, List.set_cons_zero, List.append_assoc]
  rfl
theorem odM_at {od : List Int} {i : Nat} {x : Int} (h : od[i]? = some x) : (odM od)[i]? = some ⟨x, 0, 0, ⟨#[]⟩⟩ := by unfold odM; rw [List.getElem?_map, h]; rfl
theorem omP_at {n i : Nat} {od : List Int} (hi : i < n) (hl : od.length = n) : (omP n od i)[i]? = some (selfM i) := by
  unfold omP
  have h1 : ((odM od).take i).length = i := by rw [List.length_take]; simp [odM]; omega
  rw [List.getElem?_append_right (by omega), h1, Nat.sub_self, List.getElem?_drop, Nat.add_zero, selfL_get hi]
end Go.Proofs.YtaegencmnmjgbaaGreat
