/-
  Changes of layer 8: mathematics.
  The document's all of layer 8; changes in memory.
  A change in memory; a table whose fields and moves a loop makes.
  A field, and a move's number, are put into rows of the call's own; an order.
  The document's Make of layer 8, of Op 1.
  The document's Make of layer 8, of Op 2.
  The document's Make of layer 8, of Op 3.
  The document's Make of layer 8, of Op 4.
  The document's Make of layer 8, of Op 5.
  The document's Make of layer 8.
  Many changes: mathematics; slices of changes; tables stand where another one's box turns.
-/
import Derived.Test.YtjodbopnibdolaaGreatM12
import Derived.Test.YtjodbopnibdolaaGreatM15
import Derived.Test.YtjodbopnibdolaaGreatM13
import Derived.Test.YtjodbopnibdolaaGreatM21

namespace Go.Proofs.YtjodbopnibdolaaGreat
open Go.RowKit
set_option linter.unusedVariables false

/-- A change: what it does, the field's name, the new field, the value, the order. -/
structure Ch where
  op : Int
  nm : List UInt8
  to : Fd
  dk : Int
  dn : Int
  dt : ByteArray
  od : List Int

/-- What becomes of the field of a number. -/
def ed (c : Ch) (k : Option Nat) (i : Nat) (f : Fd) : Fd :=
  if c.op = 3 ∧ k = some i then { f with nm := c.to.nm } else if c.op = 4 ∧ k = some i then { f with k := c.to.k, g := c.to.g } else f
def keepB (c : Ch) (k : Option Nat) (i : Nat) : Bool := !(decide (c.op = 2) && decide (k = some i))
def idxs (c : Ch) (k : Option Nat) (n : Nat) : List Nat := (List.range n).filter (keepB c k)
def newF (l : List Fd) (c : Ch) (k : Option Nat) (n : Nat) : List Fd := (idxs c k n).filterMap fun i => (l[i]?).map (ed c k i)
def mvF (c : Ch) (k : Option Nat) (n : Nat) : List Mv := (idxs c k n).map selfM
/-- Are they all numbers below n, each once? -/
def allB (od : List Int) (n : Nat) : Bool := decide (od.length = n) && (List.range n).all fun i => decide (od.count (i : Int) = 1)
def odF (l : List Fd) (od : List Int) : List Fd := od.filterMap fun i => fdAt l i
def odM (od : List Int) : List Mv := od.map fun i => ⟨i, 0, 0, ⟨#[]⟩⟩
/-- The new fields, and the moves, where nothing is amiss. -/
def newC (l : List Fd) (c : Ch) : List Fd := if c.op = 1 then newF l c (findN l c.nm) l.length ++ [c.to] else if c.op = 5 then odF l c.od else newF l c (findN l c.nm) l.length
def mvC (l : List Fd) (c : Ch) : List Mv := if c.op = 1 then mvF c (findN l c.nm) l.length ++ [⟨-1, c.dk, c.dn, c.dt⟩] else if c.op = 5 then odM c.od else mvF c (findN l c.nm) l.length
/-- Does it not cast? -/
def noCast (l : List Fd) (c : Ch) (k : Option Nat) (n : Nat) : Bool := decide (c.op = 4) && (match k with | some i => decide (i < n) && (match l[i]? with | some f => !castsF f.k f.g c.to.k c.to.g | none => false) | none => false)
def noAdd (c : Ch) : Bool := decide (c.op = 1) && !(rightF c.dk c.dn c.dt.size c.to.k c.to.g && (decide (c.to.k ≠ 11) || decide (c.dn = 0)))
def noOrd (l : List Fd) (c : Ch) : Bool := decide (c.op = 5) && !allB c.od l.length
/-- The error. -/
def mkE (l : List Fd) (c : Ch) : Int :=
  if rightL l = false then 60
  else if c.op < 1 ∨ 5 < c.op then 80
  else if 2 ≤ c.op ∧ c.op ≤ 4 ∧ findN l c.nm = none then 61
  else if noCast l c (findN l c.nm) l.length then 80
  else if noAdd c then 80
  else if noOrd l c then 80
  else if rightL (newC l c) then 0 else 80
def mkT (l : List Fd) (c : Ch) : Tb := if mkE l c = 0 then ⟨l, newC l c, mvC l c⟩ else Tb.none

theorem idxs_zero (c : Ch) (k : Option Nat) : idxs c k 0 = [] := rfl
theorem idxs_succ (c : Ch) (k : Option Nat) (n : Nat) : idxs c k (n + 1) = idxs c k n ++ (if keepB c k n then [n] else []) := by
  unfold idxs
  rw [List.range_succ, List.filter_append]
  congr 1
  cases h : keepB c k n <;> simp [h]
theorem newF_keep {l : List Fd} {c : Ch} {k : Option Nat} {n : Nat} {f : Fd} (hf : l[n]? = some f) (h : keepB c k n = true) : newF l c k (n + 1) = newF l c k n ++ [ed c k n f] := by
  unfold newF; rw [idxs_succ, h]; simp [hf]
theorem newF_drop {l : List Fd} {c : Ch} {k : Option Nat} {n : Nat} (h : keepB c k n = false) : newF l c k (n + 1) = newF l c k n := by
  unfold newF; rw [idxs_succ, h]; simp
theorem mvF_keep {c : Ch} {k : Option Nat} {n : Nat} (h : keepB c k n = true) : mvF c k (n + 1) = mvF c k n ++ [selfM n] := by
  unfold mvF; rw [idxs_succ, h]; simp
theorem mvF_drop {c : Ch} {k : Option Nat} {n : Nat} (h : keepB c k n = false) : mvF c k (n + 1) = mvF c k n := by
  unfold mvF; rw [idxs_succ, h]; simp
theorem idxs_length (c : Ch) (k : Option Nat) (n : Nat) : (idxs c k n).length ≤ n := by
  have := List.length_filter_le (keepB c k) (List.range n); simpa [idxs] using this
theorem idxs_lt {c : Ch} {k : Option Nat} {n : Nat} : ∀ i ∈ idxs c k n, i < n := fun i hi => by
  unfold idxs at hi; rw [List.mem_filter, List.mem_range] at hi; exact hi.1
theorem idxs_all {c : Ch} {k : Option Nat} (h : c.op ≠ 2) (n : Nat) : idxs c k n = List.range n := by
  unfold idxs; rw [List.filter_eq_self]; intro i _; unfold keepB; simp [h]
theorem newF_length (l : List Fd) (c : Ch) (k : Option Nat) (n : Nat) : (newF l c k n).length ≤ n :=
  Nat.le_trans (List.length_filterMap_le _ _) (idxs_length c k n)
theorem newF_length_eq {l : List Fd} {c : Ch} {k : Option Nat} {n : Nat} (hn : n ≤ l.length) : (newF l c k n).length = (idxs c k n).length := by
  induction n with
  | zero => rfl
  | succ n ih =>
    cases h : keepB c k n with
    | true => rw [newF_keep (List.getElem?_eq_getElem (by omega)) h, idxs_succ, h]; simp [ih (by omega)]
    | false => rw [newF_drop h, idxs_succ, h]; simp [ih (by omega)]
theorem mvF_length (c : Ch) (k : Option Nat) (n : Nat) : (mvF c k n).length = (idxs c k n).length := by simp [mvF]
theorem newF_I64 {l : List Fd} {c : Ch} {k : Option Nat} {n : Nat} (P : Fd → Prop) (h : ∀ f ∈ l, ∀ i, P (ed c k i f)) : ∀ f ∈ newF l c k n, P f := fun f hf => by
  unfold newF at hf
  rw [List.mem_filterMap] at hf
  obtain ⟨i, _, hi⟩ := hf
  rw [Option.map_eq_some_iff] at hi
  obtain ⟨g, hg, rfl⟩ := hi
  exact h g (List.mem_of_getElem? hg) i
theorem noCast_succ {l : List Fd} {c : Ch} {k : Option Nat} {n : Nat} (h : noCast l c k n = false) (h2 : ¬ (c.op = 4 ∧ k = some n)) : noCast l c k (n + 1) = false := by
  unfold noCast at *
  by_cases h4 : c.op = 4
  · cases k with
    | none => simp
    | some i =>
      have hne : i ≠ n := fun e => h2 ⟨h4, by rw [e]⟩
      have hd : decide (i < n + 1) = decide (i < n) := by rw [decide_eq_decide]; omega
      simp only [hd]; exact h
  · simp [h4]
theorem noCast_ok {l : List Fd} {c : Ch} {k : Option Nat} {n : Nat} {f : Fd} (h4 : c.op = 4) (hk : k = some n) (hf : l[n]? = some f) (hc : castsF f.k f.g c.to.k c.to.g = true) (m : Nat) : noCast l c k m = false := by
  subst hk; unfold noCast; simp [hf, hc]
theorem noCast_bad {l : List Fd} {c : Ch} {k : Option Nat} {n : Nat} {f : Fd} (h4 : c.op = 4) (hk : k = some n) (hf : l[n]? = some f) (hc : castsF f.k f.g c.to.k c.to.g = false) : noCast l c k l.length = true := by
  subst hk; unfold noCast; dsimp only; rw [hf]; simp [h4, hc, (List.getElem?_eq_some_iff.1 hf).1]
theorem allB_iff {od : List Int} {n : Nat} : allB od n = true ↔ od.length = n ∧ ∀ i : Nat, i < n → od.count (i : Int) = 1 := by
  unfold allB; simp
def inB (n : Nat) (x : Int) : Bool := decide (0 ≤ x) && decide (x < n)
theorem cnt_succ (n : Nat) : ∀ od : List Int, od.countP (inB (n + 1)) = od.countP (inB n) + od.count (n : Int)
  | [] => rfl
  | x :: od => by
    rw [List.countP_cons, List.countP_cons, List.count_cons, cnt_succ n od]
    by_cases h : x = (n : Int)
    · have h1 : inB (n + 1) x = true := by unfold inB; simp [h]; omega
      have h2 : inB n x = false := by unfold inB; simp [h]
      rw [h1, h2]; simp [h]; omega
    · have h1 : inB (n + 1) x = inB n x := by
        unfold inB
        congr 1
        rw [decide_eq_decide]; omega
      have h3 : (x == (n : Int)) = false := by simpa using h
      rw [h1, h3]; simp; omega
theorem cnt_all (od : List Int) : ∀ n : Nat, (∀ i : Nat, i < n → od.count (i : Int) = 1) → od.countP (inB n) = n
  | 0, _ => by
    rw [List.countP_eq_zero]; intro x _; unfold inB; simp
  | n + 1, h => by rw [cnt_succ, cnt_all od n (fun i hi => h i (by omega)), h n (by omega)]
/-- All numbers below n, each once: then none is another one. -/
theorem allB_mem {od : List Int} {n : Nat} (h : allB od n = true) : ∀ x ∈ od, 0 ≤ x ∧ x < n := by
  obtain ⟨hl, hc⟩ := allB_iff.1 h
  have h1 := cnt_all od n hc
  rw [← hl] at h1
  intro x hx
  have h2 := List.countP_eq_length.1 h1 x hx
  unfold inB at h2
  simp at h2
  omega
theorem mkT_ok {l : List Fd} {c : Ch} (h : mkE l c = 0) : mkT l c = ⟨l, newC l c, mvC l c⟩ := by unfold mkT; rw [if_pos h]
theorem mkT_no {l : List Fd} {c : Ch} (h : mkE l c ≠ 0) : mkT l c = Tb.none := by unfold mkT; rw [if_neg h]
end Go.Proofs.YtjodbopnibdolaaGreat

namespace Go.Proofs.YtjodbopnibdolaaGreat
open Go.RowKit
set_option linter.unusedVariables false

theorem count_take {l : List Int} {x : Int} {j : Nat} {y : Int} (h : l[j]? = some y) : (l.take (j + 1)).count x = (l.take j).count x + (if y = x then 1 else 0) := by
  rw [List.take_add_one, h, List.count_append]
  by_cases c : y = x
  · simp [c]
  · simp [c]

end Go.Proofs.YtjodbopnibdolaaGreat

namespace Go.Proofs.YtjodbopnibdolaaGreat
open Go.RowKit
set_option linter.unusedVariables false
set_option linter.unusedSimpArgs false

/-- A change as an argument. -/
def chV (c : Ch) (A : Option Addr) (n cp : Nat) : Value := .agg #[.int .i64 c.op, .string (bs c.nm), .string (bs c.to.nm), .int .i64 c.to.k, .int .i64 c.to.g, .int .i64 c.dk, .int .u64 c.dn, .string c.dt, .slice A n cp]
def chO (c : Ch) (A : Option Addr) (n cp : Nat) (ty : TypeId) : Obj := .cells #[.int .i64 c.op, .string (bs c.nm), .string (bs c.to.nm), .int .i64 c.to.k, .int .i64 c.to.g, .int .i64 c.dk, .int .u64 c.dn, .string c.dt, .slice A n cp] ty
def CB (w : World) (b : Nat) (c : Ch) (A : Option Addr) (n cp : Nat) (ty : TypeId) : Prop := w.heap[b]? = some (.cells #[.int .i64 c.op, .string (bs c.nm), .string (bs c.to.nm), .int .i64 c.to.k, .int .i64 c.to.g, .int .i64 c.dk, .int .u64 c.dn, .string c.dt, .slice A n cp] ty (0, 0))
/-- Its numbers are whole numbers; its new name is short. -/
def chOk (c : Ch) : Prop := I64 c.op ∧ I64 c.to.k ∧ I64 c.to.g ∧ I64 c.dk ∧ U64 c.dn ∧ c.to.nm.length ≤ 100000
section
variable {w w' : World} {b b' : Nat} {c : Ch} {A : Option Addr} {n cp : Nat} {ty : TypeId}
theorem CB.lt (h : CB w b c A n cp ty) : b < w.heap.size := row_lt h
theorem CB.on (h : CB w b c A n cp ty) (hb : Below w.heap.size w w') : CB w' b c A n cp ty := (hb.block b h.lt).trans h
theorem CB.new (w : World) (c : Ch) (A : Option Addr) (n cp : Nat) (ty : TypeId) : CB (w.alloc (.cells #[.int .i64 c.op, .string (bs c.nm), .string (bs c.to.nm), .int .i64 c.to.k, .int .i64 c.to.g, .int .i64 c.dk, .int .u64 c.dn, .string c.dt, .slice A n cp] ty)) w.heap.size c A n cp ty := heap_alloc_new w _
theorem CB.cells (h : CB w b c A n cp ty) : w.cell? ⟨b, 0, none⟩ = some (.int .i64 c.op) ∧ w.cell? ⟨b, 1, none⟩ = some (.string (bs c.nm)) ∧ w.cell? ⟨b, 2, none⟩ = some (.string (bs c.to.nm)) ∧ w.cell? ⟨b, 3, none⟩ = some (.int .i64 c.to.k) ∧ w.cell? ⟨b, 4, none⟩ = some (.int .i64 c.to.g) ∧ w.cell? ⟨b, 5, none⟩ = some (.int .i64 c.dk) ∧ w.cell? ⟨b, 6, none⟩ = some (.int .u64 c.dn) ∧ w.cell? ⟨b, 7, none⟩ = some (.string c.dt) ∧ w.cell? ⟨b, 8, none⟩ = some (.slice A n cp) :=
  ⟨row_cell h 0, row_cell h 1, row_cell h 2, row_cell h 3, row_cell h 4, row_cell h 5, row_cell h 6, row_cell h 7, row_cell h 8⟩
end

section
variable {w W W' : World} {q B : Nat} {s v1 v2 v : Value} {lf lf' : List Fd} {lm lm' : List Mv}
end
/-- What Make answers. -/
def MkQ (w : World) (l : List Fd) (c : Ch) (e : Ending) (w' : World) : Prop := ∃ v, e = .returned (.tuple #[v, .int .i64 (mkE l c)]) ∧ RdT w' w'.heap.size v (mkT l c) ∧ Below w.heap.size w w'
end Go.Proofs.YtjodbopnibdolaaGreat

namespace Go.Proofs.YtjodbopnibdolaaGreat
open Go.RowKit
set_option linter.unusedVariables false
set_option linter.unusedSimpArgs false

theorem cellsFd_set : ∀ (l : List Fd) (i : Nat) (f : Fd), i < l.length → (((cellsFd l).set (i * 3) (.string (bs f.nm))).set (i * 3 + 1) (.int .i64 f.k)).set (i * 3 + 2) (.int .i64 f.g) = cellsFd (l.set i f)
  | [], i, f, h => by simp at h
  | x :: l, 0, f, h => rfl
  | x :: l, i + 1, f, h => by
    have e : cellsFd (x :: l) = x.cells ++ cellsFd l := rfl
    have e2 : cellsFd ((x :: l).set (i + 1) f) = x.cells ++ cellsFd (l.set i f) := rfl
    rw [e, e2, ← cellsFd_set l i f (by simpa using h)]
    have hl : x.cells.length = 3 := rfl
    rw [List.set_append_right _ _ (by rw [hl]; omega), List.set_append_right _ _ (by rw [hl]; omega), List.set_append_right _ _ (by rw [hl]; omega), hl]
    rw [show (i + 1) * 3 - 3 = i * 3 by omega, show (i + 1) * 3 + 1 - 3 = i * 3 + 1 by omega, show (i + 1) * 3 + 2 - 3 = i * 3 + 2 by omega]
theorem cellsMv_set : ∀ (l : List Mv) (i : Nat) (m : Mv) (x : Int), l[i]? = some m → (cellsMv l).set (i * 4) (.int .i64 x) = cellsMv (l.set i ⟨x, m.k, m.n, m.t⟩)
  | [], i, m, x, h => by simp at h
  | y :: l, 0, m, x, h => by simp at h; subst h; rfl
  | y :: l, i + 1, m, x, h => by
    have e : cellsMv (y :: l) = y.cells ++ cellsMv l := rfl
    have e2 : cellsMv ((y :: l).set (i + 1) ⟨x, m.k, m.n, m.t⟩) = y.cells ++ cellsMv (l.set i ⟨x, m.k, m.n, m.t⟩) := rfl
    rw [e, e2, ← cellsMv_set l i m x (by simpa using h)]
    have hl : y.cells.length = 4 := rfl
    rw [List.set_append_right _ _ (by rw [hl]; omega), hl, show (i + 1) * 4 - 4 = i * 4 by omega]
theorem OwF.put {w : World} {B : Nat} {v : Value} {l : List Fd} (h : OwF w B v l) {i : Nat} (hi : i < l.length) (f : Fd) :
    ∃ g cap, v = .slice (some ⟨g, 0, none⟩) l.length cap ∧ B ≤ g ∧ (∃ cs, w.heap[g]? = some (.cells cs 29 (0, 0)) ∧ l.length * 3 ≤ cs.size) ∧ OwF (((w.setCell ⟨g, i * 3, none⟩ (.string (bs f.nm))).setCell ⟨g, i * 3 + 1, none⟩ (.int .i64 f.k)).setCell ⟨g, i * 3 + 2, none⟩ (.int .i64 f.g)) B v (l.set i f) := by
  rcases h.2 with ⟨rfl, hn⟩ | ⟨g, cap, cur, rfl, hbase, hg, hnc, hm, hs, hl⟩
  · omega
  · refine ⟨g, cap, rfl, hbase, ⟨cur, hg, by rw [hs]; exact Nat.mul_le_mul_right 3 hnc⟩, by rw [cellsFd_length], .inr ⟨g, cap, _, by rw [List.length_set], hbase, row_set (row_set (row_set hg (i * 3) _) (i * 3 + 1) _) (i * 3 + 2) _, by rw [List.length_set]; exact hnc, hm, by simp [hs], ?_⟩⟩
    rw [List.length_set, ← cellsFd_set l i f hi, ← hl]
    simp only [Array.toList_setIfInBounds, List.take_set]
theorem OwM.put {w : World} {B : Nat} {ty : TypeId} {v : Value} {l : List Mv} (h : OwM w B ty v l) {i : Nat} {m : Mv} (hi : l[i]? = some m) (x : Int) :
    ∃ g cap, v = .slice (some ⟨g, 0, none⟩) l.length cap ∧ B ≤ g ∧ (∃ cs, w.heap[g]? = some (.cells cs ty (0, 0)) ∧ l.length * 4 ≤ cs.size) ∧ OwM (w.setCell ⟨g, i * 4, none⟩ (.int .i64 x)) B ty v (l.set i ⟨x, m.k, m.n, m.t⟩) := by
  rcases h.2 with ⟨rfl, hn⟩ | ⟨g, cap, cur, rfl, hbase, hg, hnc, hm, hs, hl⟩
  · rw [List.eq_nil_of_length_eq_zero hn] at hi; simp at hi
  · refine ⟨g, cap, rfl, hbase, ⟨cur, hg, by rw [hs]; exact Nat.mul_le_mul_right 4 hnc⟩, by rw [cellsMv_length], .inr ⟨g, cap, _, by rw [List.length_set], hbase, row_set hg (i * 4) _, by rw [List.length_set]; exact hnc, hm, by simp [hs], ?_⟩⟩
    rw [List.length_set, ← cellsMv_set l i m x hi, ← hl]
    simp only [Array.toList_setIfInBounds, List.take_set]
theorem OwM.heapEq {w w' : World} {B : Nat} {ty : TypeId} {v : Value} {l : List Mv} (h : OwM w B ty v l) (he : w'.heap = w.heap) : OwM w' B ty v l := by
  refine ⟨h.1, ?_⟩
  rcases h.2 with h1 | ⟨g, cap, cur, hv, hbase, hg, h3⟩
  · exact .inl h1
  · exact .inr ⟨g, cap, cur, hv, hbase, by rw [he]; exact hg, h3⟩
/-! ### An order -/
theorem newF_id {l : List Fd} {c : Ch} {k : Option Nat} (h2 : c.op ≠ 2) (h3 : c.op ≠ 3) (h4 : c.op ≠ 4) : ∀ n, n ≤ l.length → newF l c k n = l.take n
  | 0, _ => by simp [newF, idxs]
  | n + 1, hn => by
    have hf : l[n]? = some l[n] := List.getElem?_eq_getElem (by omega)
    rw [newF_keep hf (by unfold keepB; simp [h2]), newF_id h2 h3 h4 n (by omega), List.take_add_one, hf]
    unfold ed; simp [h3, h4]
theorem mvF_id {c : Ch} {k : Option Nat} (h2 : c.op ≠ 2) (n : Nat) : mvF c k n = selfL n := by
  unfold mvF selfL; rw [idxs_all h2]
/-- Fields of which the first i are ordered anew. -/
def odP (l : List Fd) (od : List Int) (i : Nat) : List Fd := (odF l od).take i ++ l.drop i
def omP (n : Nat) (od : List Int) (i : Nat) : List Mv := (odM od).take i ++ (selfL n).drop i
theorem odF_at {l : List Fd} : ∀ {od : List Int}, (∀ x ∈ od, 0 ≤ x ∧ x < l.length) → ∀ (i : Nat) (x : Int), od[i]? = some x → (odF l od)[i]? = l[x.toNat]?
  | [], _, i, x, h => by simp at h
  | y :: od, ho, i, x, h => by
    have hy := ho y (by simp)
    have e : fdAt l y = l[y.toNat]? := by unfold fdAt; rw [if_pos hy.1]
    have hs : l[y.toNat]? = some (l[y.toNat]'(by omega)) := List.getElem?_eq_getElem (by omega)
    have e2 : odF l (y :: od) = (l[y.toNat]'(by omega)) :: odF l od := by unfold odF; rw [List.filterMap_cons, e, hs]
    rw [e2]
    cases i with
    | zero => simp at h; subst h; rw [hs]; rfl
    | succ i => simp at h; rw [List.getElem?_cons_succ]; exact odF_at (fun z hz => ho z (by simp [hz])) i x h
theorem odF_length {l : List Fd} : ∀ {od : List Int}, (∀ x ∈ od, 0 ≤ x ∧ x < l.length) → (odF l od).length = od.length
  | [], _ => rfl
  | y :: od, ho => by
    have hy := ho y (by simp)
    have e : fdAt l y = l[y.toNat]? := by unfold fdAt; rw [if_pos hy.1]
    have hs : l[y.toNat]? = some (l[y.toNat]'(by omega)) := List.getElem?_eq_getElem (by omega)
    have e2 : odF l (y :: od) = (l[y.toNat]'(by omega)) :: odF l od := by unfold odF; rw [List.filterMap_cons, e, hs]
    rw [e2, List.length_cons, List.length_cons, odF_length (fun z hz => ho z (by simp [hz]))]
theorem step_set {α : Type} {a b : List α} {i : Nat} {x : α} (ha : a[i]? = some x) (hb : i < b.length) : (a.take i ++ b.drop i).set i x = a.take (i + 1) ++ b.drop (i + 1) := by
  have hl : i < a.length := (List.getElem?_eq_some_iff.1 ha).1
  rw [List.set_append_right _ _ (by rw [List.length_take]; omega), List.length_take, Nat.min_eq_left (by omega), Nat.sub_self, List.take_add_one, ha, List.drop_eq_getElem_cons hb, List.set_cons_zero, List.append_assoc]
  rfl
theorem odM_at {od : List Int} {i : Nat} {x : Int} (h : od[i]? = some x) : (odM od)[i]? = some ⟨x, 0, 0, ⟨#[]⟩⟩ := by unfold odM; rw [List.getElem?_map, h]; rfl
theorem omP_at {n i : Nat} {od : List Int} (hi : i < n) (hl : od.length = n) : (omP n od i)[i]? = some (selfM i) := by
  unfold omP
  have h1 : ((odM od).take i).length = i := by rw [List.length_take]; simp [odM]; omega
  rw [List.getElem?_append_right (by omega), h1, Nat.sub_self, List.getElem?_drop, Nat.add_zero, selfL_get hi]
end Go.Proofs.YtjodbopnibdolaaGreat

namespace Go.Proofs.YtjodbopnibdolaaGreat
open Go.RowKit
set_option linter.unusedVariables false
set_option linter.unusedSimpArgs false

end Go.Proofs.YtjodbopnibdolaaGreat

namespace Go.Proofs.YtjodbopnibdolaaGreat
open Go.RowKit
set_option linter.unusedVariables false
set_option linter.unusedSimpArgs false

end Go.Proofs.YtjodbopnibdolaaGreat

namespace Go.Proofs.YtjodbopnibdolaaGreat
open Go.RowKit
set_option linter.unusedVariables false
set_option linter.unusedSimpArgs false

end Go.Proofs.YtjodbopnibdolaaGreat

namespace Go.Proofs.YtjodbopnibdolaaGreat
open Go.RowKit
set_option linter.unusedVariables false
set_option linter.unusedSimpArgs false

end Go.Proofs.YtjodbopnibdolaaGreat

namespace Go.Proofs.YtjodbopnibdolaaGreat
open Go.RowKit
set_option linter.unusedVariables false
set_option linter.unusedSimpArgs false

end Go.Proofs.YtjodbopnibdolaaGreat

namespace Go.Proofs.YtjodbopnibdolaaGreat
open Go.RowKit
set_option linter.unusedVariables false
set_option linter.unusedSimpArgs false

end Go.Proofs.YtjodbopnibdolaaGreat

namespace Go.Proofs.YtjodbopnibdolaaGreat
open Go.RowKit
set_option linter.unusedVariables false
set_option linter.unusedSimpArgs false

/-- What many changes make of a table. -/
def allF : Tb → List Ch → Tb × Int
  | T, [] => (T, 0)
  | T, c :: cs => if mkE T.nw c ≠ 0 then (Tb.none, mkE T.nw c) else if compB T (mkT T.nw c) then allF (compT T (mkT T.nw c)) cs else (Tb.none, 70)
def all8 (l : List Fd) (cs : List Ch) : Tb × Int := if rightL l then allF (sameT l) cs else (Tb.none, 60)
theorem allF_at {T : Tb} {cs : List Ch} {j : Nat} {c : Ch} (h : cs[j]? = some c) : allF T (cs.drop j) = if mkE T.nw c ≠ 0 then (Tb.none, mkE T.nw c) else if compB T (mkT T.nw c) then allF (compT T (mkT T.nw c)) (cs.drop (j + 1)) else (Tb.none, 70) := by
  have hl := (List.getElem?_eq_some_iff.1 h).1
  have e : cs[j] = c := (List.getElem?_eq_some_iff.1 h).2
  rw [List.drop_eq_getElem_cons hl, e]; rfl
theorem name_short {s : List UInt8} (h : nameB s = true) : s.length ≤ 15 := by
  unfold nameB at h
  simp only [Bool.and_eq_true, decide_eq_true_eq] at h
  exact h.1.1.2
theorem right_short {l : List Fd} (h : rightL l = true) : short l := fun f hf => by
  obtain ⟨i, hi⟩ := List.getElem?_of_mem hf
  have := name_short ((rightL_iff.1 h).2 i f hi).1
  omega
theorem rightT_short {T : Tb} (h : rightT T = true) : shortT T := ⟨right_short (rightT_iff.1 h).1, right_short (rightT_iff.1 h).2.1⟩
theorem newC_right {l : List Fd} {c : Ch} (h : mkE l c = 0) : rightL l = true ∧ rightL (newC l c) = true := by
  unfold mkE at h
  split at h
  · omega
  · rename_i h1
    refine ⟨by simpa using h1, ?_⟩
    split at h
    · omega
    · split at h
      · omega
      · split at h
        · omega
        · split at h
          · omega
          · split at h
            · omega
            · split at h
              · assumption
              · omega
theorem mkT_short {l : List Fd} {c : Ch} (h : mkE l c = 0) : shortT (mkT l c) := by
  rw [mkT_ok h]; exact ⟨right_short (newC_right h).1, right_short (newC_right h).2⟩

/-- A change in memory. -/
def ChC (w : World) (b off : Nat) (c : Ch) (s : Value) : Prop := w.cell? ⟨b, off, none⟩ = some (.int .i64 c.op) ∧ w.cell? ⟨b, off + 1, none⟩ = some (.string (bs c.nm)) ∧ w.cell? ⟨b, off + 2, none⟩ = some (.string (bs c.to.nm)) ∧ w.cell? ⟨b, off + 3, none⟩ = some (.int .i64 c.to.k) ∧ w.cell? ⟨b, off + 4, none⟩ = some (.int .i64 c.to.g) ∧ w.cell? ⟨b, off + 5, none⟩ = some (.int .i64 c.dk) ∧ w.cell? ⟨b, off + 6, none⟩ = some (.int .u64 c.dn) ∧ w.cell? ⟨b, off + 7, none⟩ = some (.string c.dt) ∧ w.cell? ⟨b, off + 8, none⟩ = some s
/-- A slice of changes. -/
def RdC (w : World) (B : Nat) (A : Option Addr) (n cap : Nat) (l : List Ch) : Prop :=
  l.length = n ∧ n ≤ cap ∧ cap ≤ maxLen ∧ (∀ c ∈ l, I64 c.op ∧ I64 c.to.k ∧ I64 c.to.g ∧ I64 c.dk ∧ U64 c.dn) ∧ (0 < n → ∃ b off, A = some ⟨b, off, none⟩ ∧ b < B ∧ ∀ i (h : i < l.length), ∃ A2 n2 c2, ChC w b (off + i * 9) l[i] (.slice A2 n2 c2) ∧ RdI w B A2 n2 c2 l[i].od)
theorem ChC.below {w w' : World} {b off B : Nat} {c : Ch} {s : Value} (h : ChC w b off c s) (hb : Below B w w') (hlt : b < B) : ChC w' b off c s :=
  ⟨(hb.cell (p := ⟨b, off, none⟩) hlt).trans h.1, (hb.cell (p := ⟨b, off + 1, none⟩) hlt).trans h.2.1, (hb.cell (p := ⟨b, off + 2, none⟩) hlt).trans h.2.2.1, (hb.cell (p := ⟨b, off + 3, none⟩) hlt).trans h.2.2.2.1, (hb.cell (p := ⟨b, off + 4, none⟩) hlt).trans h.2.2.2.2.1, (hb.cell (p := ⟨b, off + 5, none⟩) hlt).trans h.2.2.2.2.2.1, (hb.cell (p := ⟨b, off + 6, none⟩) hlt).trans h.2.2.2.2.2.2.1, (hb.cell (p := ⟨b, off + 7, none⟩) hlt).trans h.2.2.2.2.2.2.2.1, (hb.cell (p := ⟨b, off + 8, none⟩) hlt).trans h.2.2.2.2.2.2.2.2⟩
theorem RdC.on {w w' : World} {A : Option Addr} {n cap : Nat} {l : List Ch} (h : RdC w w.heap.size A n cap l) (hb : Below w.heap.size w w') : RdC w' w'.heap.size A n cap l :=
  ⟨h.1, h.2.1, h.2.2.1, h.2.2.2.1, fun hn => by
    obtain ⟨b, off, e, hlt, hc⟩ := h.2.2.2.2 hn
    refine ⟨b, off, e, Nat.lt_of_lt_of_le hlt hb.size, fun i hi => ?_⟩
    obtain ⟨A2, n2, c2, h1, h2⟩ := hc i hi
    exact ⟨A2, n2, c2, h1.below hb hlt, h2.on hb⟩⟩
theorem RdC.at {w : World} {A : Option Addr} {n cap : Nat} {l : List Ch} (h : RdC w w.heap.size A n cap l) {i : Nat} {c : Ch} (hi : l[i]? = some c) : i < n ∧ (I64 c.op ∧ I64 c.to.k ∧ I64 c.to.g ∧ I64 c.dk ∧ U64 c.dn) ∧ ∃ b off A2 n2 c2, A = some ⟨b, off, none⟩ ∧ (∀ w', Below w.heap.size w w' → ChC w' b (off + i * 9) c (.slice A2 n2 c2)) ∧ RdI w w.heap.size A2 n2 c2 c.od := by
  have hl : i < l.length := (List.getElem?_eq_some_iff.1 hi).1
  have e : l[i] = c := (List.getElem?_eq_some_iff.1 hi).2
  obtain ⟨b, off, e2, hlt, hc⟩ := h.2.2.2.2 (by have := h.1; omega)
  obtain ⟨A2, n2, c2, h1, h2⟩ := hc i hl
  rw [e] at h1 h2
  exact ⟨by have := h.1; omega, h.2.2.2.1 _ (List.mem_of_getElem? hi), b, off, A2, n2, c2, e2, fun w' hb => h1.below hb hlt, h2⟩

/-- Where a box holds slices only, no field and no move stands in it. -/
def Sl (v : Value) : Prop := ∃ A n c, v = .slice A n c
theorem tbx_cell {W : World} {q i : Nat} {s1 s2 s3 u : Value} {ty : TypeId} (h : TBx W q s1 s2 s3 ty) (h1 : Sl s1) (h2 : Sl s2) (h3 : Sl s3) (hu : W.cell? ⟨q, i, none⟩ = some u) : Sl u := by
  rw [row_cell h] at hu
  match i, hu with
  | 0, e => simp at e; rw [← e]; exact h1
  | 1, e => simp at e; rw [← e]; exact h2
  | 2, e => simp at e; rw [← e]; exact h3
  | n + 3, e => simp at e
theorem cell_set_ne {W : World} {q b i k : Nat} {u : Value} (h : b ≠ q) : (W.setCell ⟨q, k, none⟩ u).cell? ⟨b, i, none⟩ = W.cell? ⟨b, i, none⟩ := by
  unfold World.cell?; rw [Below.heap_setCell W ⟨q, k, none⟩ u b h]
theorem RdF.box {W : World} {B q : Nat} {A : Option Addr} {n c : Nat} {l : List Fd} {s1 s2 s3 : Value} {ty : TypeId} (h : RdF W B A n c l) (ht : TBx W q s1 s2 s3 ty) (h1 : Sl s1) (h2 : Sl s2) (h3 : Sl s3) (k : Nat) (u : Value) : RdF (W.setCell ⟨q, k, none⟩ u) B A n c l :=
  ⟨h.1, h.2.1, h.2.2.1, h.2.2.2.1, fun hn => by
    obtain ⟨b, off, e, hlt, hc⟩ := h.2.2.2.2 hn
    have hne : b ≠ q := fun hq => by
      subst hq
      obtain ⟨_, _, _, h⟩ := tbx_cell ht h1 h2 h3 (hc 0 (by have := h.1; omega)).1
      cases h
    refine ⟨b, off, e, hlt, fun i hi => ?_⟩
    obtain ⟨c0, c1, c2⟩ := hc i hi
    exact ⟨(cell_set_ne hne).trans c0, (cell_set_ne hne).trans c1, (cell_set_ne hne).trans c2⟩⟩
theorem RdM.box {W : World} {B q : Nat} {A : Option Addr} {n c : Nat} {l : List Mv} {s1 s2 s3 : Value} {ty : TypeId} (h : RdM W B A n c l) (ht : TBx W q s1 s2 s3 ty) (h1 : Sl s1) (h2 : Sl s2) (h3 : Sl s3) (k : Nat) (u : Value) : RdM (W.setCell ⟨q, k, none⟩ u) B A n c l :=
  ⟨h.1, h.2.1, h.2.2.1, h.2.2.2.1, fun hn => by
    obtain ⟨b, off, e, hlt, hc⟩ := h.2.2.2.2 hn
    have hne : b ≠ q := fun hq => by
      subst hq
      obtain ⟨_, _, _, h⟩ := tbx_cell ht h1 h2 h3 (hc 0 (by have := h.1; omega)).1
      cases h
    refine ⟨b, off, e, hlt, fun i hi => ?_⟩
    obtain ⟨c0, c1, c2, c3⟩ := hc i hi
    exact ⟨(cell_set_ne hne).trans c0, (cell_set_ne hne).trans c1, (cell_set_ne hne).trans c2, (cell_set_ne hne).trans c3⟩⟩
/-- A table stands where the box of a table turns into another one's. -/
theorem RdT.box3 {W : World} {q : Nat} {v : Value} {T : Tb} {s1 s2 s3 u1 u2 u3 : Value} {ty : TypeId} (h : RdT W W.heap.size v T) (ht : TBx W q s1 s2 s3 ty) (h1 : Sl s1) (h2 : Sl s2) (h3 : Sl s3) (k1 : Sl u1) (k2 : Sl u2) (k3 : Sl u3) :
    RdT (((W.setCell ⟨q, 0, none⟩ u1).setCell ⟨q, 1, none⟩ u2).setCell ⟨q, 2, none⟩ u3) (((W.setCell ⟨q, 0, none⟩ u1).setCell ⟨q, 1, none⟩ u2).setCell ⟨q, 2, none⟩ u3).heap.size v T := by
  obtain ⟨A, n, c, A2, n2, c2, A3, n3, c3, e, a1, a2, a3⟩ := h
  have t1 := ht.set0 u1
  have t2 := t1.set1 u2
  simp only [size_set]
  exact ⟨A, n, c, A2, n2, c2, A3, n3, c3, e, ((a1.box ht h1 h2 h3 0 u1).box t1 k1 h2 h3 1 u2).box t2 k1 k2 h3 2 u3, ((a2.box ht h1 h2 h3 0 u1).box t1 k1 h2 h3 1 u2).box t2 k1 k2 h3 2 u3, ((a3.box ht h1 h2 h3 0 u1).box t1 k1 h2 h3 1 u2).box t2 k1 k2 h3 2 u3⟩
end Go.Proofs.YtjodbopnibdolaaGreat
