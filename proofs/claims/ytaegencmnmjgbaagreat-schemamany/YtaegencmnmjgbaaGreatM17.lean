/-
  The document's Compose of layer 7.
  A change in memory; a table whose fields and moves a loop makes.
  A field, and a move's number, are put into rows of the call's own; an order.
  Many changes: mathematics; slices of changes; tables stand where another one's box turns.
  What a change makes is a right table: mathematics.
  A field that no change names stays: mathematics.
-/
import Derived.Test.YtaegencmnmjgbaaGreatM16
import Derived.Test.YtaegencmnmjgbaaGreatM5
import Derived.Deep.Cut
import Derived.Test.YtaegencmnmjgbaaGreatM10
import Derived.Test.YtaegencmnmjgbaaGreatM11

namespace Go.Proofs.YtaegencmnmjgbaaGreat
open Go.RowKit
set_option linter.unusedVariables false
theorem MB.set3 {w : World} {b : Nat} {m : Mv} {ty : TypeId} (h : MB w b m ty) (k n : Int) (t : ByteArray) : MB (((w.setCell ⟨b, 1, none⟩ (.int .i64 k)).setCell ⟨b, 2, none⟩ (.int .u64 n)).setCell ⟨b, 3, none⟩ (.string t)) b ⟨m.fr, k, n, t⟩ ty := row_set (row_set (row_set h 1 _) 2 _) 3 _
theorem MB.set4 {w : World} {b : Nat} {m : Mv} {ty : TypeId} (h : MB w b m ty) (x : Mv) : MB ((((w.setCell ⟨b, 0, none⟩ (.int .i64 x.fr)).setCell ⟨b, 1, none⟩ (.int .i64 x.k)).setCell ⟨b, 2, none⟩ (.int .u64 x.n)).setCell ⟨b, 3, none⟩ (.string x.t)) b x ty := row_set (row_set (row_set (row_set h 0 _) 1 _) 2 _) 3 _
theorem B4 {B b : Nat} {w w' : World} (h : Below B w w') (hb : B ≤ b) (x y z u : Value) : Below B w ((((w'.setCell ⟨b, 0, none⟩ x).setCell ⟨b, 1, none⟩ y).setCell ⟨b, 2, none⟩ z).setCell ⟨b, 3, none⟩ u) := (B3 h hb x y z).setCell (p := ⟨b, 3, none⟩) hb _
theorem B3' {B b : Nat} {w w' : World} (h : Below B w w') (hb : B ≤ b) (x y z : Value) : Below B w (((w'.setCell ⟨b, 1, none⟩ x).setCell ⟨b, 2, none⟩ y).setCell ⟨b, 3, none⟩ z) := ((h.setCell (p := ⟨b, 1, none⟩) hb _).setCell (p := ⟨b, 2, none⟩) hb _).setCell (p := ⟨b, 3, none⟩) hb _
end Go.Proofs.YtaegencmnmjgbaaGreat

namespace Go.Proofs.YtaegencmnmjgbaaGreat
open Go.RowKit
set_option linter.unusedVariables false
set_option linter.unusedSimpArgs false
def chV (c : Ch) (A : Option Addr) (n cp : Nat) : Value := .agg #[.int .i64 c.op, .string (bs c.nm), .string (bs c.to.nm), .int .i64 c.to.k, .int .i64 c.to.g, .int .i64 c.dk, .int .u64 c.dn, .string c.dt, .slice A n cp]
def CB (w : World) (b : Nat) (c : Ch) (A : Option Addr) (n cp : Nat) (ty : TypeId) : Prop := w.heap[b]? = some (.cells #[.int .i64 c.op, .string (bs c.nm), .string (bs c.to.nm), .int .i64 c.to.k, .int .i64 c.to.g, .int .i64 c.dk, .int .u64 c.dn, .string c.dt, .slice A n cp] ty (0, 0))
def chOk (c : Ch) : Prop := I64 c.op ∧ I64 c.to.k ∧ I64 c.to.g ∧ I64 c.dk ∧ U64 c.dn ∧ c.to.nm.length ≤ 140737488351232
section
variable {w w' : World} {b b' : Nat} {c : Ch} {A : Option Addr} {n cp : Nat} {ty : TypeId}
theorem CB.lt (h : CB w b c A n cp ty) : b < w.heap.size := row_lt h
theorem CB.on (h : CB w b c A n cp ty) (hb : Below w.heap.size w w') : CB w' b c A n cp ty := (hb.block b h.lt).trans h
theorem CB.new (w : World) (c : Ch) (A : Option Addr) (n cp : Nat) (ty : TypeId) : CB (w.alloc (.cells #[.int .i64 c.op, .string (bs c.nm), .string (bs c.to.nm), .int .i64 c.to.k, .int .i64 c.to.g, .int .i64 c.dk, .int .u64 c.dn, .string c.dt, .slice A n cp] ty)) w.heap.size c A n cp ty := heap_alloc_new w _
theorem CB.cells (h : CB w b c A n cp ty) : w.cell? ⟨b, 0, none⟩ = some (.int .i64 c.op) ∧ w.cell? ⟨b, 1, none⟩ = some (.string (bs c.nm)) ∧ w.cell? ⟨b, 2, none⟩ = some (.string (bs c.to.nm)) ∧ w.cell? ⟨b, 3, none⟩ = some (.int .i64 c.to.k) ∧ w.cell? ⟨b, 4, none⟩ = some (.int .i64 c.to.g) ∧ w.cell? ⟨b, 5, none⟩ = some (.int .i64 c.dk) ∧ w.cell? ⟨b, 6, none⟩ = some (.int .u64 c.dn) ∧ w.cell? ⟨b, 7, none⟩ = some (.string c.dt) ∧ w.cell? ⟨b, 8, none⟩ = some (.slice A n cp) :=
  ⟨row_cell h 0, row_cell h 1, row_cell h 2, row_cell h 3, row_cell h 4, row_cell h 5, row_cell h 6, row_cell h 7, row_cell h 8⟩
end
end Go.Proofs.YtaegencmnmjgbaaGreat

namespace Go.Proofs.YtaegencmnmjgbaaGreat
open Go.RowKit
set_option linter.unusedVariables false
set_option linter.unusedSimpArgs false
theorem cellsFd_set : ∀ (l : List Fd) (i : Nat) (f : Fd), i < l.length → (((cellsFd l).set (i * 3) (.string (bs f.nm))).set (i * 3 + 1) (.int .i64 f.k)).set (i * 3 + 2) (.int .i64 f.g) = cellsFd (l.set i f)
  | [], i, f, h => by simp at h
  | x :: l, 0, f, h => rfl
  | x :: l, i + 1, f, h => by
    have e : cellsFd (x :: l) = x.cells ++ cellsFd l := rfl
    have e2 : cellsFd ((x :: l).set (i + 1) f) = x.cells ++ cellsFd (l.set i f) := rfl
    rw [e, e2, ← cellsFd_set l i f (by simpa using h)]
    have hl : x.cells.length = 3 := rfl
    rw [List.set_append_right _ _ (by rw [hl]; omega), List.set_append_right _ _ (by rw [hl]; omega), List.set_append_right _ _ (by rw [hl]; omega), hl]
    rw [show (i + 1) * 3 - 3 = i * 3 by omega, show (i + 1) * 3 + 1 - 3 = i * 3 + 1 by omega, show (i + 1) * 3 + 2 - 3 = i * 3 + 2 by omega]
theorem OwF.put {w : World} {B : Nat} {v : Value} {l : List Fd} (h : OwF w B v l) {i : Nat} (hi : i < l.length) (f : Fd) :
    ∃ g cap, v = .slice (some ⟨g, 0, none⟩) l.length cap ∧ B ≤ g ∧ (∃ cs, w.heap[g]? = some (.cells cs 68 (0, 0)) ∧ l.length * 3 ≤ cs.size) ∧ OwF (((w.setCell ⟨g, i * 3, none⟩ (.string (bs f.nm))).setCell ⟨g, i * 3 + 1, none⟩ (.int .i64 f.k)).setCell ⟨g, i * 3 + 2, none⟩ (.int .i64 f.g)) B v (l.set i f) := by
  rcases h.2 with ⟨rfl, hn⟩ | ⟨g, cap, cur, rfl, hbase, hg, hnc, hm, hs, hl⟩
  · omega
  · refine ⟨g, cap, rfl, hbase, ⟨cur, hg, by rw [hs]; exact Nat.mul_le_mul_right 3 hnc⟩, by rw [cellsFd_length], .inr ⟨g, cap, _, by rw [List.length_set], hbase, row_set (row_set (row_set hg (i * 3) _) (i * 3 + 1) _) (i * 3 + 2) _, by rw [List.length_set]; exact hnc, hm, by simp [hs], ?_⟩⟩
    rw [List.length_set, ← cellsFd_set l i f hi, ← hl]
    simp only [Array.toList_setIfInBounds, List.take_set]
theorem newF_id {l : List Fd} {c : Ch} {k : Option Nat} (h2 : c.op ≠ 2) (h3 : c.op ≠ 3) (h4 : c.op ≠ 4) : ∀ n, n ≤ l.length → newF l c k n = l.take n
  | 0, _ => by simp [newF, idxs]
  | n + 1, hn => by
    have hf : l[n]? = some l[n] := List.getElem?_eq_getElem (by omega)
    rw [newF_keep hf (by unfold keepB; simp [h2]), newF_id h2 h3 h4 n (by omega), List.take_add_one, hf]
    unfold ed; simp [h3, h4]
theorem mvF_id {c : Ch} {k : Option Nat} (h2 : c.op ≠ 2) (n : Nat) : mvF c k n = selfL n := by
  unfold mvF selfL; rw [idxs_all h2]
theorem odF_at {l : List Fd} : ∀ {od : List Int}, (∀ x ∈ od, 0 ≤ x ∧ x < l.length) → ∀ (i : Nat) (x : Int), od[i]? = some x → (odF l od)[i]? = l[x.toNat]?
  | [], _, i, x, h => by simp at h
  | y :: od, ho, i, x, h => by
    have hy := ho y (by simp)
    have e : fdAt l y = l[y.toNat]? := by unfold fdAt; rw [if_pos hy.1]
    have hs : l[y.toNat]? = some (l[y.toNat]'(by omega)) := List.getElem?_eq_getElem (by omega)
    have e2 : odF l (y :: od) = (l[y.toNat]'(by omega)) :: odF l od := by unfold odF; rw [List.filterMap_cons, e, hs]
    rw [e2]
    cases i with
    | zero => simp at h; subst h; rw [hs]; rfl
    | succ i => simp at h; rw [List.getElem?_cons_succ]; exact odF_at (fun z hz => ho z (by simp [hz])) i x h
theorem odF_length {l : List Fd} : ∀ {od : List Int}, (∀ x ∈ od, 0 ≤ x ∧ x < l.length) → (odF l od).length = od.length
  | [], _ => rfl
  | y :: od, ho => by
    have hy := ho y (by simp)
    have e : fdAt l y = l[y.toNat]? := by unfold fdAt; rw [if_pos hy.1]
    have hs : l[y.toNat]? = some (l[y.toNat]'(by omega)) := List.getElem?_eq_getElem (by omega)
    have e2 : odF l (y :: od) = (l[y.toNat]'(by omega)) :: odF l od := by unfold odF; rw [List.filterMap_cons, e, hs]
    rw [e2, List.length_cons, List.length_cons, odF_length (fun z hz => ho z (by simp [hz]))]
end Go.Proofs.YtaegencmnmjgbaaGreat

namespace Go.Proofs.YtaegencmnmjgbaaGreat
open Go.RowKit
set_option linter.unusedVariables false
set_option linter.unusedSimpArgs false
def allF : Tb → List Ch → Tb × Int
  | T, [] => (T, 0)
  | T, c :: cs => if mkE T.nw c ≠ 0 then (Tb.none, mkE T.nw c) else if compB T (mkT T.nw c) then allF (compT T (mkT T.nw c)) cs else (Tb.none, 70)
def all8 (l : List Fd) (cs : List Ch) : Tb × Int := if rightL l then allF (sameT l) cs else (Tb.none, 60)
theorem allF_at {T : Tb} {cs : List Ch} {j : Nat} {c : Ch} (h : cs[j]? = some c) : allF T (cs.drop j) = if mkE T.nw c ≠ 0 then (Tb.none, mkE T.nw c) else if compB T (mkT T.nw c) then allF (compT T (mkT T.nw c)) (cs.drop (j + 1)) else (Tb.none, 70) := by
  have hl := (List.getElem?_eq_some_iff.1 h).1
  have e : cs[j] = c := (List.getElem?_eq_some_iff.1 h).2
  rw [List.drop_eq_getElem_cons hl, e]; rfl
theorem name_short {s : List UInt8} (h : nameB s = true) : s.length ≤ 15 := by
  unfold nameB at h
  simp only [Bool.and_eq_true, decide_eq_true_eq] at h
  exact h.1.1.2
theorem right_short {l : List Fd} (h : rightL l = true) : short l := fun f hf => by
  obtain ⟨i, hi⟩ := List.getElem?_of_mem hf
  have := name_short ((rightL_iff.1 h).2 i f hi).1
  omega
theorem rightT_short {T : Tb} (h : rightT T = true) : shortT T := ⟨right_short (rightT_iff.1 h).1, right_short (rightT_iff.1 h).2.1⟩
theorem newC_right {l : List Fd} {c : Ch} (h : mkE l c = 0) : rightL l = true ∧ rightL (newC l c) = true := by
  unfold mkE at h
  split at h
  · omega
  · rename_i h1
    refine ⟨by simpa using h1, ?_⟩
    split at h
    · omega
    · split at h
      · omega
      · split at h
        · omega
        · split at h
          · omega
          · split at h
            · omega
            · split at h
              · assumption
              · omega
theorem mkT_short {l : List Fd} {c : Ch} (h : mkE l c = 0) : shortT (mkT l c) := by
  rw [mkT_ok h]; exact ⟨right_short (newC_right h).1, right_short (newC_right h).2⟩
def ChC (w : World) (b off : Nat) (c : Ch) (s : Value) : Prop := w.cell? ⟨b, off, none⟩ = some (.int .i64 c.op) ∧ w.cell? ⟨b, off + 1, none⟩ = some (.string (bs c.nm)) ∧ w.cell? ⟨b, off + 2, none⟩ = some (.string (bs c.to.nm)) ∧ w.cell? ⟨b, off + 3, none⟩ = some (.int .i64 c.to.k) ∧ w.cell? ⟨b, off + 4, none⟩ = some (.int .i64 c.to.g) ∧ w.cell? ⟨b, off + 5, none⟩ = some (.int .i64 c.dk) ∧ w.cell? ⟨b, off + 6, none⟩ = some (.int .u64 c.dn) ∧ w.cell? ⟨b, off + 7, none⟩ = some (.string c.dt) ∧ w.cell? ⟨b, off + 8, none⟩ = some s
def RdC (w : World) (B : Nat) (A : Option Addr) (n cap : Nat) (l : List Ch) : Prop :=
  l.length = n ∧ n ≤ cap ∧ cap ≤ maxLen ∧ (∀ c ∈ l, I64 c.op ∧ I64 c.to.k ∧ I64 c.to.g ∧ I64 c.dk ∧ U64 c.dn) ∧ (0 < n → ∃ b off, A = some ⟨b, off, none⟩ ∧ b < B ∧ ∀ i (h : i < l.length), ∃ A2 n2 c2, ChC w b (off + i * 9) l[i] (.slice A2 n2 c2) ∧ RdI w B A2 n2 c2 l[i].od)
theorem ChC.below {w w' : World} {b off B : Nat} {c : Ch} {s : Value} (h : ChC w b off c s) (hb : Below B w w') (hlt : b < B) : ChC w' b off c s :=
  ⟨(hb.cell (p := ⟨b, off, none⟩) hlt).trans h.1, (hb.cell (p := ⟨b, off + 1, none⟩) hlt).trans h.2.1, (hb.cell (p := ⟨b, off + 2, none⟩) hlt).trans h.2.2.1, (hb.cell (p := ⟨b, off + 3, none⟩) hlt).trans h.2.2.2.1, (hb.cell (p := ⟨b, off + 4, none⟩) hlt).trans h.2.2.2.2.1, (hb.cell (p := ⟨b, off + 5, none⟩) hlt).trans h.2.2.2.2.2.1, (hb.cell (p := ⟨b, off + 6, none⟩) hlt).trans h.2.2.2.2.2.2.1, (hb.cell (p := ⟨b, off + 7, none⟩) hlt).trans h.2.2.2.2.2.2.2.1, (hb.cell (p := ⟨b, off + 8, none⟩) hlt).trans h.2.2.2.2.2.2.2.2⟩
theorem RdC.on {w w' : World} {A : Option Addr} {n cap : Nat} {l : List Ch} (h : RdC w w.heap.size A n cap l) (hb : Below w.heap.size w w') : RdC w' w'.heap.size A n cap l :=
  ⟨h.1, h.2.1, h.2.2.1, h.2.2.2.1, fun hn => by
    obtain ⟨b, off, e, hlt, hc⟩ := h.2.2.2.2 hn
    refine ⟨b, off, e, Nat.lt_of_lt_of_le hlt hb.size, fun i hi => ?_⟩
    obtain ⟨A2, n2, c2, h1, h2⟩ := hc i hi
    exact ⟨A2, n2, c2, h1.below hb hlt, h2.on hb⟩⟩
theorem RdC.at {w : World} {A : Option Addr} {n cap : Nat} {l : List Ch} (h : RdC w w.heap.size A n cap l) {i : Nat} {c : Ch} (hi : l[i]? = some c) : i < n ∧ (I64 c.op ∧ I64 c.to.k ∧ I64 c.to.g ∧ I64 c.dk ∧ U64 c.dn) ∧ ∃ b off A2 n2 c2, A = some ⟨b, off, none⟩ ∧ (∀ w', Below w.heap.size w w' → ChC w' b (off + i * 9) c (.slice A2 n2 c2)) ∧ RdI w w.heap.size A2 n2 c2 c.od := by
  have hl : i < l.length := (List.getElem?_eq_some_iff.1 hi).1
  have e : l[i] = c := (List.getElem?_eq_some_iff.1 hi).2
  obtain ⟨b, off, e2, hlt, hc⟩ := h.2.2.2.2 (by have := h.1; omega)
  obtain ⟨A2, n2, c2, h1, h2⟩ := hc i hl
  rw [e] at h1 h2
  exact ⟨by have := h.1; omega, h.2.2.2.1 _ (List.mem_of_getElem? hi), b, off, A2, n2, c2, e2, fun w' hb => h1.below hb hlt, h2⟩
def Sl (v : Value) : Prop := ∃ A n c, v = .slice A n c
theorem tbx_cell {W : World} {q i : Nat} {s1 s2 s3 u : Value} {ty : TypeId} (h : TBx W q s1 s2 s3 ty) (h1 : Sl s1) (h2 : Sl s2) (h3 : Sl s3) (hu : W.cell? ⟨q, i, none⟩ = some u) : Sl u := by
  rw [row_cell h] at hu
  match i, hu with
  | 0, e => simp at e; rw [← e]; exact h1
  | 1, e => simp at e; rw [← e]; exact h2
  | 2, e => simp at e; rw [← e]; exact h3
  | n + 3, e => simp at e
theorem cell_set_ne {W : World} {q b i k : Nat} {u : Value} (h : b ≠ q) : (W.setCell ⟨q, k, none⟩ u).cell? ⟨b, i, none⟩ = W.cell? ⟨b, i, none⟩ := by
  unfold World.cell?; rw [Below.heap_setCell W ⟨q, k, none⟩ u b h]
theorem RdF.box {W : World} {B q : Nat} {A : Option Addr} {n c : Nat} {l : List Fd} {s1 s2 s3 : Value} {ty : TypeId} (h : RdF W B A n c l) (ht : TBx W q s1 s2 s3 ty) (h1 : Sl s1) (h2 : Sl s2) (h3 : Sl s3) (k : Nat) (u : Value) : RdF (W.setCell ⟨q, k, none⟩ u) B A n c l :=
  ⟨h.1, h.2.1, h.2.2.1, h.2.2.2.1, fun hn => by
    obtain ⟨b, off, e, hlt, hc⟩ := h.2.2.2.2 hn
    have hne : b ≠ q := fun hq => by
      subst hq
      obtain ⟨_, _, _, h⟩ := tbx_cell ht h1 h2 h3 (hc 0 (by have := h.1; omega)).1
      cases h
    refine ⟨b, off, e, hlt, fun i hi => ?_⟩
    obtain ⟨c0, c1, c2⟩ := hc i hi
    exact ⟨(cell_set_ne hne).trans c0, (cell_set_ne hne).trans c1, (cell_set_ne hne).trans c2⟩⟩
theorem RdM.box {W : World} {B q : Nat} {A : Option Addr} {n c : Nat} {l : List Mv} {s1 s2 s3 : Value} {ty : TypeId} (h : RdM W B A n c l) (ht : TBx W q s1 s2 s3 ty) (h1 : Sl s1) (h2 : Sl s2) (h3 : Sl s3) (k : Nat) (u : Value) : RdM (W.setCell ⟨q, k, none⟩ u) B A n c l :=
  ⟨h.1, h.2.1, h.2.2.1, h.2.2.2.1, fun hn => by
    obtain ⟨b, off, e, hlt, hc⟩ := h.2.2.2.2 hn
    have hne : b ≠ q := fun hq => by
      subst hq
      obtain ⟨_, _, _, h⟩ := tbx_cell ht h1 h2 h3 (hc 0 (by have := h.1; omega)).1
      cases h
    refine ⟨b, off, e, hlt, fun i hi => ?_⟩
    obtain ⟨c0, c1, c2, c3⟩ := hc i hi
    exact ⟨(cell_set_ne hne).trans c0, (cell_set_ne hne).trans c1, (cell_set_ne hne).trans c2, (cell_set_ne hne).trans c3⟩⟩
theorem RdT.box3 {W : World} {q : Nat} {v : Value} {T : Tb} {s1 s2 s3 u1 u2 u3 : Value} {ty : TypeId} (h : RdT W W.heap.size v T) (ht : TBx W q s1 s2 s3 ty) (h1 : Sl s1) (h2 : Sl s2) (h3 : Sl s3) (k1 : Sl u1) (k2 : Sl u2) (k3 : Sl u3) :
    RdT (((W.setCell ⟨q, 0, none⟩ u1).setCell ⟨q, 1, none⟩ u2).setCell ⟨q, 2, none⟩ u3) (((W.setCell ⟨q, 0, none⟩ u1).setCell ⟨q, 1, none⟩ u2).setCell ⟨q, 2, none⟩ u3).heap.size v T := by
  obtain ⟨A, n, c, A2, n2, c2, A3, n3, c3, e, a1, a2, a3⟩ := h
  have t1 := ht.set0 u1
  have t2 := t1.set1 u2
  simp only [size_set]
  exact ⟨A, n, c, A2, n2, c2, A3, n3, c3, e, ((a1.box ht h1 h2 h3 0 u1).box t1 k1 h2 h3 1 u2).box t2 k1 k2 h3 2 u3, ((a2.box ht h1 h2 h3 0 u1).box t1 k1 h2 h3 1 u2).box t2 k1 k2 h3 2 u3, ((a3.box ht h1 h2 h3 0 u1).box t1 k1 h2 h3 1 u2).box t2 k1 k2 h3 2 u3⟩
end Go.Proofs.YtaegencmnmjgbaaGreat

namespace Go.Proofs.YtaegencmnmjgbaaGreat
open Go.RowKit
set_option linter.unusedVariables false
set_option linter.unusedSimpArgs false
theorem newF_get {l : List Fd} {c : Ch} {k : Option Nat} : ∀ {n : Nat}, n ≤ l.length → ∀ {i : Nat} {f' : Fd}, (newF l c k n)[i]? = some f' → ∃ x f, (idxs c k n)[i]? = some x ∧ l[x]? = some f ∧ f' = ed c k x f
  | 0, _, i, f', h => by simp [newF, idxs] at h
  | n + 1, hn, i, f', h => by
    have hf : l[n]? = some l[n] := List.getElem?_eq_getElem (by omega)
    cases hk : keepB c k n with
    | false =>
      rw [newF_drop hk] at h
      obtain ⟨x, f, h1, h2, h3⟩ := newF_get (by omega) h
      exact ⟨x, f, by rw [idxs_succ, hk]; simpa using h1, h2, h3⟩
    | true =>
      rw [newF_keep hf hk] at h
      have hl := newF_length_eq (l := l) (c := c) (k := k) (n := n) (by omega)
      by_cases hi : i < (newF l c k n).length
      · rw [List.getElem?_append_left hi] at h
        obtain ⟨x, f, h1, h2, h3⟩ := newF_get (by omega) h
        exact ⟨x, f, by rw [idxs_succ, hk, List.getElem?_append_left (by omega)]; exact h1, h2, h3⟩
      · rw [List.getElem?_append_right (by omega)] at h
        have hi0 : i - (newF l c k n).length = 0 := by
          by_cases e : i - (newF l c k n).length = 0
          · exact e
          · rw [List.getElem?_eq_none (by simp; omega)] at h; cases h
        rw [hi0] at h
        simp at h
        refine ⟨n, l[n], ?_, hf, h.symm⟩
        rw [idxs_succ, hk, List.getElem?_append_right (by omega), ← hl, hi0]; rfl
theorem mkE_facts {l : List Fd} {c : Ch} (h : mkE l c = 0) : rightL l = true ∧ 1 ≤ c.op ∧ c.op ≤ 5 ∧ (2 ≤ c.op → c.op ≤ 4 → ∃ k, findN l c.nm = some k) ∧ noCast l c (findN l c.nm) l.length = false ∧ noAdd c = false ∧ noOrd l c = false ∧ rightL (newC l c) = true := by
  have hr := newC_right h
  unfold mkE at h
  rw [hr.1, if_neg (by simp)] at h
  by_cases h1 : c.op < 1 ∨ 5 < c.op
  · rw [if_pos h1] at h; omega
  · rw [if_neg h1] at h
    by_cases h2 : 2 ≤ c.op ∧ c.op ≤ 4 ∧ findN l c.nm = none
    · rw [if_pos h2] at h; omega
    · rw [if_neg h2] at h
      cases h3 : noCast l c (findN l c.nm) l.length with
      | true => rw [h3, if_pos rfl] at h; omega
      | false =>
        rw [h3, if_neg (by simp)] at h
        cases h4 : noAdd c with
        | true => rw [h4, if_pos rfl] at h; omega
        | false =>
          rw [h4, if_neg (by simp)] at h
          cases h5 : noOrd l c with
          | true => rw [h5, if_pos rfl] at h; omega
          | false =>
            refine ⟨hr.1, by omega, by omega, fun a b => ?_, rfl, rfl, rfl, hr.2⟩
            cases hf : findN l c.nm with
            | none => exact absurd ⟨a, b, hf⟩ h2
            | some k => exact ⟨k, rfl⟩
theorem pass_may {l : List Fd} {c : Ch} (hr : rightL l = true) (hn : noCast l c (findN l c.nm) l.length = false) {i : Nat} {m : Mv} {f' : Fd} (hm : (mvF c (findN l c.nm) l.length)[i]? = some m) (hf : (newF l c (findN l c.nm) l.length)[i]? = some f') : mvB l m f' = true := by
  obtain ⟨x, f, h1, h2, h3⟩ := newF_get (Nat.le_refl _) hf
  unfold mvF at hm
  rw [List.getElem?_map, h1] at hm
  cases hm
  refine self_may hr h2 ?_
  have hs := casts_self (right_may hr f (List.mem_of_getElem? h2))
  rw [h3]
  unfold ed
  by_cases a : c.op = 3 ∧ findN l c.nm = some x
  · rw [if_pos a]; exact hs
  · rw [if_neg a]
    by_cases b : c.op = 4 ∧ findN l c.nm = some x
    · rw [if_pos b]
      cases hc : castsF f.k f.g c.to.k c.to.g with
      | true => rfl
      | false => rw [noCast_bad b.1 b.2 h2 hc] at hn; cases hn
    · rw [if_neg b]; exact hs
theorem mkT_right {l : List Fd} {c : Ch} (h : mkE l c = 0) : rightT (mkT l c) = true := by
  obtain ⟨hr, h1, h5, hk, hc, ha, ho, hn⟩ := mkE_facts h
  rw [mkT_ok h, rightT_iff]
  refine ⟨hr, hn, ?_, fun i m f' hm hf => ?_⟩
  · show (mvC l c).length = (newC l c).length
    unfold mvC newC
    by_cases o1 : c.op = 1
    · rw [if_pos o1, if_pos o1]; simp [mvF_length, newF_length_eq (Nat.le_refl l.length)]
    · rw [if_neg o1, if_neg o1]
      by_cases o5 : c.op = 5
      · rw [if_pos o5, if_pos o5]
        have hb : allB c.od l.length = true := by unfold noOrd at ho; simpa [o5] using ho
        rw [odF_length (allB_mem hb)]; simp [odM]
      · rw [if_neg o5, if_neg o5, mvF_length, newF_length_eq (Nat.le_refl _)]
  · show mvB l m f' = true
    have hm' : (mvC l c)[i]? = some m := hm
    have hf' : (newC l c)[i]? = some f' := hf
    unfold mvC at hm'
    unfold newC at hf'
    by_cases o1 : c.op = 1
    · rw [if_pos o1] at hm' hf'
      have hl : (mvF c (findN l c.nm) l.length).length = (newF l c (findN l c.nm) l.length).length := by rw [mvF_length, newF_length_eq (Nat.le_refl _)]
      by_cases hi : i < (newF l c (findN l c.nm) l.length).length
      · rw [List.getElem?_append_left (by omega)] at hm' hf'
        exact pass_may hr hc hm' hf'
      · rw [List.getElem?_append_right (by omega)] at hm' hf'
        have hi0 : i - (newF l c (findN l c.nm) l.length).length = 0 := by
          by_cases e : i - (newF l c (findN l c.nm) l.length).length = 0
          · exact e
          · rw [List.getElem?_eq_none (by simp; omega)] at hf'; cases hf'
        rw [hi0] at hf'; rw [hl, hi0] at hm'
        simp at hm' hf'
        subst hm'; subst hf'
        rw [mvB_new (m := ⟨-1, c.dk, c.dn, c.dt⟩) rfl]
        unfold noAdd at ha
        simp only [o1, decide_true, Bool.true_and, Bool.not_eq_false'] at ha
        exact ha
    · rw [if_neg o1] at hm' hf'
      by_cases o5 : c.op = 5
      · rw [if_pos o5] at hm' hf'
        have hb : allB c.od l.length = true := by unfold noOrd at ho; simpa [o5] using ho
        unfold odM at hm'
        rw [List.getElem?_map] at hm'
        cases hx : c.od[i]? with
        | none => rw [hx] at hm'; cases hm'
        | some x =>
          rw [hx] at hm'; cases hm'
          rw [odF_at (allB_mem hb) i x hx] at hf'
          have hxb := allB_mem hb x (List.mem_of_getElem? hx)
          rw [mvB_old (m := ⟨x, 0, 0, ⟨#[]⟩⟩) hxb.1 hf', casts_self (right_may hr f' (List.mem_of_getElem? hf'))]
          rfl
      · rw [if_neg o5] at hm' hf'
        exact pass_may hr hc hm' hf'
end Go.Proofs.YtaegencmnmjgbaaGreat

namespace Go.Proofs.YtaegencmnmjgbaaGreat
open Go.RowKit
set_option linter.unusedVariables false
set_option linter.unusedSimpArgs false
theorem newF_at {l : List Fd} {c : Ch} {k : Option Nat} {i x : Nat} {f : Fd} (hx : (idxs c k l.length)[i]? = some x) (hf : l[x]? = some f) : (newF l c k l.length)[i]? = some (ed c k x f) := by
  have hi : i < (newF l c k l.length).length := by rw [newF_length_eq (Nat.le_refl _)]; exact (List.getElem?_eq_some_iff.1 hx).1
  have h := List.getElem?_eq_getElem hi
  obtain ⟨y, g, h1, h2, h3⟩ := newF_get (Nat.le_refl _) h
  rw [hx] at h1; cases h1
  rw [hf] at h2; cases h2
  rw [h, h3]
end Go.Proofs.YtaegencmnmjgbaaGreat
