/-
  Moves and tables in memory; the document's Right of layer 7.
  The document's Refs and Get of layer 6.
  The document's Get of layer 6.
  The document's Set of layer 6.
  The bytes of fields, read: mathematics; rows of fields of the call's own; the document's Decode of layer 6.
  Rows of moves, and of fields, that a call makes.
-/
import Derived.Test.YtaegencmnmjgbaaGreatM10
import Derived.Test.YtaegencmnmjgbaaGreatM3

namespace Go.Proofs.YtaegencmnmjgbaaGreat
open Go.RowKit
set_option linter.unusedVariables false
def MvC (w : World) (b off : Nat) (m : Mv) : Prop := w.cell? ⟨b, off, none⟩ = some (.int .i64 m.fr) ∧ w.cell? ⟨b, off + 1, none⟩ = some (.int .i64 m.k) ∧ w.cell? ⟨b, off + 2, none⟩ = some (.int .u64 m.n) ∧ w.cell? ⟨b, off + 3, none⟩ = some (.string m.t)
def RdM (w : World) (B : Nat) (A : Option Addr) (n cap : Nat) (l : List Mv) : Prop :=
  l.length = n ∧ n ≤ cap ∧ cap ≤ maxLen ∧ (∀ m ∈ l, I64 m.fr ∧ I64 m.k ∧ U64 m.n) ∧ (0 < n → ∃ b off, A = some ⟨b, off, none⟩ ∧ b < B ∧ ∀ i (h : i < l.length), MvC w b (off + i * 4) l[i])
section
variable {w w' : World} {B B' n cap : Nat} {A : Option Addr} {l : List Mv}
theorem MvC.below {b off : Nat} {m : Mv} (h : MvC w b off m) (hb : Below B w w') (hlt : b < B) : MvC w' b off m :=
  ⟨(hb.cell (p := ⟨b, off, none⟩) hlt).trans h.1, (hb.cell (p := ⟨b, off + 1, none⟩) hlt).trans h.2.1, (hb.cell (p := ⟨b, off + 2, none⟩) hlt).trans h.2.2.1, (hb.cell (p := ⟨b, off + 3, none⟩) hlt).trans h.2.2.2⟩
theorem RdM.below (h : RdM w B A n cap l) (hb : Below B w w') : RdM w' B A n cap l :=
  ⟨h.1, h.2.1, h.2.2.1, h.2.2.2.1, fun hn => by
    obtain ⟨b, off, e, hlt, hc⟩ := h.2.2.2.2 hn
    exact ⟨b, off, e, hlt, fun i hi => (hc i hi).below hb hlt⟩⟩
theorem RdM.more (h : RdM w B A n cap l) (hB : B ≤ B') : RdM w B' A n cap l :=
  ⟨h.1, h.2.1, h.2.2.1, h.2.2.2.1, fun hn => by
    obtain ⟨b, off, e, hlt, hc⟩ := h.2.2.2.2 hn
    exact ⟨b, off, e, by omega, hc⟩⟩
theorem RdM.on (h : RdM w w.heap.size A n cap l) (hb : Below w.heap.size w w') : RdM w' w'.heap.size A n cap l := (h.below hb).more hb.size
theorem RdM.nil (w : World) (B : Nat) : RdM w B none 0 0 [] := ⟨rfl, by omega, by simp [maxLen], by simp, fun h => by omega⟩
theorem RdM.at (h : RdM w B A n cap l) {i : Nat} {m : Mv} (hi : l[i]? = some m) : i < n ∧ I64 m.fr ∧ I64 m.k ∧ U64 m.n ∧ ∃ b off, A = some ⟨b, off, none⟩ ∧ ∀ w', Below B w w' → MvC w' b (off + i * 4) m := by
  have hl : i < l.length := (List.getElem?_eq_some_iff.1 hi).1
  rw [List.getElem?_eq_getElem hl] at hi
  cases hi
  obtain ⟨b, off, e, hlt, hc⟩ := h.2.2.2.2 (by have := h.1; omega)
  obtain ⟨h1, h2, h3⟩ := h.2.2.2.1 _ (List.getElem_mem hl)
  exact ⟨by have := h.1; omega, h1, h2, h3, b, off, e, fun w' hb => (hc i hl).below hb hlt⟩
end
def RdT (w : World) (B : Nat) (v : Value) (T : Tb) : Prop := ∃ A n c A2 n2 c2 A3 n3 c3, v = .agg #[.slice A n c, .slice A2 n2 c2, .slice A3 n3 c3] ∧ RdF w B A n c T.o ∧ RdF w B A2 n2 c2 T.nw ∧ RdM w B A3 n3 c3 T.mv
theorem RdT.on {w w' : World} {v : Value} {T : Tb} (h : RdT w w.heap.size v T) (hb : Below w.heap.size w w') : RdT w' w'.heap.size v T := by
  obtain ⟨A, n, c, A2, n2, c2, A3, n3, c3, e, h1, h2, h3⟩ := h
  exact ⟨A, n, c, A2, n2, c2, A3, n3, c3, e, h1.on hb, h2.on hb, h3.on hb⟩
def shortT (T : Tb) : Prop := short T.o ∧ short T.nw
def MB (w : World) (b : Nat) (m : Mv) (ty : TypeId) : Prop := w.heap[b]? = some (.cells #[.int .i64 m.fr, .int .i64 m.k, .int .u64 m.n, .string m.t] ty (0, 0))
def TBx (w : World) (b : Nat) (v1 v2 v3 : Value) (ty : TypeId) : Prop := w.heap[b]? = some (.cells #[v1, v2, v3] ty (0, 0))
section
variable {w w' : World} {b B : Nat} {m : Mv} {v1 v2 v3 : Value} {ty : TypeId}
theorem mb_new (w : World) (m : Mv) (ty : TypeId) : MB (w.alloc (.cells #[.int .i64 m.fr, .int .i64 m.k, .int .u64 m.n, .string m.t] ty)) w.heap.size m ty := heap_alloc_new w _
theorem tb_new (w : World) (v1 v2 v3 : Value) (ty : TypeId) : TBx (w.alloc (.cells #[v1, v2, v3] ty)) w.heap.size v1 v2 v3 ty := heap_alloc_new w _
theorem MB.lt (h : MB w b m ty) : b < w.heap.size := row_lt h
theorem TBx.lt (h : TBx w b v1 v2 v3 ty) : b < w.heap.size := row_lt h
theorem MB.below (h : MB w b m ty) (hb : Below B w w') (hlt : b < B) : MB w' b m ty := (hb.block b hlt).trans h
theorem TBx.below (h : TBx w b v1 v2 v3 ty) (hb : Below B w w') (hlt : b < B) : TBx w' b v1 v2 v3 ty := (hb.block b hlt).trans h
theorem MB.on (h : MB w b m ty) (hb : Below w.heap.size w w') : MB w' b m ty := h.below hb h.lt
theorem TBx.on (h : TBx w b v1 v2 v3 ty) (hb : Below w.heap.size w w') : TBx w' b v1 v2 v3 ty := h.below hb h.lt
theorem MB.cells (h : MB w b m ty) : w.cell? ⟨b, 0, none⟩ = some (.int .i64 m.fr) ∧ w.cell? ⟨b, 1, none⟩ = some (.int .i64 m.k) ∧ w.cell? ⟨b, 2, none⟩ = some (.int .u64 m.n) ∧ w.cell? ⟨b, 3, none⟩ = some (.string m.t) := ⟨row_cell h 0, row_cell h 1, row_cell h 2, row_cell h 3⟩
theorem TBx.cells (h : TBx w b v1 v2 v3 ty) : w.cell? ⟨b, 0, none⟩ = some v1 ∧ w.cell? ⟨b, 1, none⟩ = some v2 ∧ w.cell? ⟨b, 2, none⟩ = some v3 := ⟨row_cell h 0, row_cell h 1, row_cell h 2⟩
end
theorem toList_nil {t : ByteArray} (h : t.toList = []) : t.size = 0 := by
  rw [ByteArray.toList_eq] at h
  show t.data.size = 0
  rw [← Array.length_toList, h]; rfl
theorem toList_ne {t : ByteArray} (h : ¬ t.toList = []) : ¬ t.size = 0 := fun e => h (by rw [size_nil t e, ByteArray.toList_eq])
end Go.Proofs.YtaegencmnmjgbaaGreat

namespace Go.Proofs.YtaegencmnmjgbaaGreat
open Go.RowKit
set_option linter.unusedVariables false
theorem layL_right {l : List Fd} (h : rightL l = true) : layL l = layP 0 l := by unfold layL; rw [h]; rfl
theorem layT_right {l : List Fd} (h : rightL l = true) : layT l = layN l := by unfold layT; rw [h]; rfl
theorem layL_wrong {l : List Fd} (h : rightL l = false) : layL l = [] := by unfold layL; rw [h]; rfl
theorem layT_wrong {l : List Fd} (h : rightL l = false) : layT l = 0 := by unfold layT; rw [h]; rfl
theorem layT_bd (l : List Fd) : 0 ≤ layT l ∧ layT l ≤ 1160 := by
  cases hr : rightL l with
  | false => rw [layT_wrong hr]; omega
  | true => rw [layT_right hr]; have := layN_bounds hr; omega
end Go.Proofs.YtaegencmnmjgbaaGreat

namespace Go.Proofs.YtaegencmnmjgbaaGreat
open Go.RowKit
set_option linter.unusedVariables false
def getR (s : List UInt8) (l : List Fd) (nm : List UInt8) : Value :=
  if rightL l = true ∧ (s.length : Int) = layN l then
    match findN l nm with
    | none => .tuple #[.agg #[.int .i64 0, .int .u64 0, .string ⟨#[]⟩], .int .i64 61]
    | some i => match l[i]?, (layP 0 l)[i]? with
      | some f, some p => decR ((s.drop p.toNat).take f.long.toNat) f.k f.g
      | _, _ => undef
  else .tuple #[.agg #[.int .i64 0, .int .u64 0, .string ⟨#[]⟩], .int .i64 60]
theorem getR_form {s : List UInt8} {l : List Fd} {nm : List UInt8} (h : ¬ (rightL l = true ∧ (s.length : Int) = layN l)) : getR s l nm = .tuple #[.agg #[.int .i64 0, .int .u64 0, .string ⟨#[]⟩], .int .i64 60] := by unfold getR; rw [if_neg h]
theorem getR_none {s : List UInt8} {l : List Fd} {nm : List UInt8} (h : rightL l = true ∧ (s.length : Int) = layN l) (hf : findN l nm = none) : getR s l nm = .tuple #[.agg #[.int .i64 0, .int .u64 0, .string ⟨#[]⟩], .int .i64 61] := by unfold getR; rw [if_pos h, hf]
theorem getR_some {s : List UInt8} {l : List Fd} {nm : List UInt8} (h : rightL l = true ∧ (s.length : Int) = layN l) {i : Nat} {f : Fd} {p : Int} (hf : findN l nm = some i) (hi : l[i]? = some f) (hp : (layP 0 l)[i]? = some p) : getR s l nm = decR ((s.drop p.toNat).take f.long.toNat) f.k f.g := by
  unfold getR; rw [if_pos h, hf]; simp only [hi, hp]
theorem VB.set3 {w : World} {b : Nat} {k n : Int} {t : ByteArray} (h : VB w b k n t) (k' n' : Int) (t' : ByteArray) : VB (((w.setCell ⟨b, 0, none⟩ (.int .i64 k')).setCell ⟨b, 1, none⟩ (.int .u64 n')).setCell ⟨b, 2, none⟩ (.string t')) b k' n' t' := ((h.setKind k').setBits n').setText t'
theorem B3 {B b : Nat} {w w' : World} (h : Below B w w') (hb : B ≤ b) (x y z : Value) : Below B w (((w'.setCell ⟨b, 0, none⟩ x).setCell ⟨b, 1, none⟩ y).setCell ⟨b, 2, none⟩ z) := ((h.setCell hb _).setCell hb _).setCell hb _
theorem ExO.of {r : Option Nat} {w w' : World} (h : Below w.heap.size w w') : ExO r w w' := ⟨h.os, h.tape, h.output, h.size, fun i hi _ => h.block i hi⟩
theorem ExO.set3 {r b : Nat} {w : World} (e : r = b) (x y z : Value) : ExO (some r) w (((w.setCell ⟨b, 0, none⟩ x).setCell ⟨b, 1, none⟩ y).setCell ⟨b, 2, none⟩ z) := by
  subst e; exact grown_set (grown_set (grown_set (grown_refl w (some r)) 0 x) 1 y) 2 z
end Go.Proofs.YtaegencmnmjgbaaGreat

namespace Go.Proofs.YtaegencmnmjgbaaGreat
open Go.RowKit
set_option linter.unusedVariables false
def encB (vk n : Int) (t : ByteArray) (k g : Int) : List UInt8 := (encT vk n t k g).data.toList
theorem encB_eq (vk n : Int) (t : ByteArray) (k g : Int) : encT vk n t k g = bs (encB vk n t k g) := by
  unfold encB bs; simp
theorem encB_length {vk n : Int} {t : ByteArray} {k g : Int} (h : rightF vk n t.size k g = true) : ((encB vk n t k g).length : Int) = longF k g := by
  have hm : mayF k g = true := by
    have h1 := h
    unfold rightF at h1
    simp only [Bool.and_eq_true] at h1
    exact h1.1.1
  unfold encB encT
  rw [if_pos h]
  unfold encL
  by_cases h12 : k = 12
  · subst h12
    rw [if_pos rfl]
    have hl : longF 12 g = g := by unfold longF; rw [hm]; rfl
    have h2 : (t.size : Int) = g := by
      unfold rightF at h
      simp only [Bool.and_eq_true, if_true, decide_eq_true_eq] at h
      exact h.2.2
    rw [hl, ← h2]
    rfl
  · rw [if_neg h12]
    have h8 := longF_le8 g h12
    have h0 := longF_nonneg k g
    show ((((le n 8).take (longF k g).toNat).length : Nat) : Int) = _
    rw [List.length_take, le_length]; omega
def setS6 (s : List UInt8) (l : List Fd) (nm : List UInt8) (vk n : Int) (t : ByteArray) : List UInt8 × Int :=
  if rightL l = true ∧ (s.length : Int) = layN l then
    match findN l nm with
    | none => ([], 61)
    | some i => match l[i]?, (layP 0 l)[i]? with
      | some f, some p => if rightF vk n t.size f.k f.g then (setL s p.toNat (encB vk n t f.k f.g), 0) else ([], 50)
      | _, _ => ([], 0)
  else ([], 60)
section
variable {s : List UInt8} {l : List Fd} {nm : List UInt8} {vk n : Int} {t : ByteArray}
theorem set_form (h : ¬ (rightL l = true ∧ (s.length : Int) = layN l)) : setS6 s l nm vk n t = ([], 60) := by unfold setS6; rw [if_neg h]
theorem set_none (h : rightL l = true ∧ (s.length : Int) = layN l) (hf : findN l nm = none) : setS6 s l nm vk n t = ([], 61) := by unfold setS6; rw [if_pos h, hf]
theorem set_some (h : rightL l = true ∧ (s.length : Int) = layN l) {i : Nat} {f : Fd} {p : Int} (hf : findN l nm = some i) (hi : l[i]? = some f) (hp : (layP 0 l)[i]? = some p) : setS6 s l nm vk n t = if rightF vk n t.size f.k f.g then (setL s p.toNat (encB vk n t f.k f.g), 0) else ([], 50) := by
  unfold setS6; rw [if_pos h, hf]; simp only [hi, hp]
end
end Go.Proofs.YtaegencmnmjgbaaGreat

namespace Go.Proofs.YtaegencmnmjgbaaGreat
open Go.RowKit
set_option linter.unusedVariables false
def Fd.cells (f : Fd) : List Value := [.string (bs f.nm), .int .i64 f.k, .int .i64 f.g]
def cellsFd (l : List Fd) : List Value := (l.map Fd.cells).flatten
theorem cellsFd_length (l : List Fd) : (cellsFd l).length = l.length * 3 := by
  induction l with
  | nil => rfl
  | cons o os ih => have : cellsFd (o :: os) = o.cells ++ cellsFd os := rfl; rw [this, List.length_append, ih]; simp [Fd.cells]; omega
theorem cellsFd_get : ∀ (os : List Fd) (i : Nat) (h : i < os.length), ∀ j, j < 3 → (cellsFd os)[i * 3 + j]? = (os[i].cells)[j]? := by
  intro os
  induction os with
  | nil => intro i h; simp at h
  | cons x os ih =>
    intro i h j hj
    have e : cellsFd (x :: os) = x.cells ++ cellsFd os := rfl
    have hl : x.cells.length = 3 := rfl
    rw [e]
    cases i with
    | zero => rw [List.getElem?_append_left (by omega), Nat.zero_mul, Nat.zero_add]; rfl
    | succ i =>
      rw [List.getElem?_append_right (by omega), hl, show (i + 1) * 3 + j - 3 = i * 3 + j by omega]
      exact ih i (by simpa using h) j hj
def OwF (w : World) (base : Nat) (v : Value) (l : List Fd) : Prop := w.ownsRow base 68 3 v l.length (cellsFd l)
theorem OwF.nil (w : World) (base : Nat) : OwF w base (.slice none 0 0) [] := World.ownsRow_nil _ _ _ _
section
variable {w w' : World} {base : Nat} {v : Value} {l : List Fd}
theorem OwF.on (h : OwF w base v l) (hb : Below w.heap.size w w') : OwF w' base v l := by
  refine ⟨h.1, ?_⟩
  rcases h.2 with h1 | ⟨g, cap, cur, hv, hbase, hg, h3⟩
  · exact .inl h1
  · exact .inr ⟨g, cap, cur, hv, hbase, (hb.block g (row_lt hg)).trans hg, h3⟩
theorem OwF.less {base' : Nat} (h : OwF w base v l) (hb : base' ≤ base) : OwF w base' v l := by
  refine ⟨h.1, ?_⟩
  rcases h.2 with h1 | ⟨g, cap, cur, hv, hbase, hg⟩
  · exact .inl h1
  · exact .inr ⟨g, cap, cur, hv, Nat.le_trans hb hbase, hg⟩
theorem OwF.rd (h : OwF w base v l) (hx : ∀ f ∈ l, I64 f.k ∧ I64 f.g ∧ f.nm.length ≤ nmMax) : ∃ A cap, v = .slice A l.length cap ∧ RdF w w.heap.size A l.length cap l := by
  rcases h.2 with ⟨rfl, hn⟩ | ⟨g, cap, cur, rfl, hbase, hg, hnc, hm, hs, hl⟩
  · have : l = [] := List.eq_nil_of_length_eq_zero hn
    subst this
    exact ⟨none, 0, rfl, RdF.nil _ _⟩
  · refine ⟨some ⟨g, 0, none⟩, cap, rfl, rfl, hnc, hm, hx, fun hn => ⟨g, 0, rfl, row_lt hg, fun i hi => ?_⟩⟩
    have t : ∀ j, j < 3 → w.cell? ⟨g, 0 + i * 3 + j, none⟩ = (l[i].cells)[j]? := fun j hj => by
      rw [row_cell hg, Nat.zero_add, ← cellsFd_get l i hi j hj, ← hl, List.getElem?_take_of_lt (by omega), Array.getElem?_toList]
    exact ⟨t 0 (by omega), t 1 (by omega), t 2 (by omega)⟩
end
theorem infoFd : (Tryz.prog.info? 68).map (fun i => (i.zero, i.size, i.bytes)) = some (some (.agg #[.string ⟨#[]⟩, .int .i64 0, .int .i64 0]), 3, 32) := by kernel_rfl
end Go.Proofs.YtaegencmnmjgbaaGreat

namespace Go.Proofs.YtaegencmnmjgbaaGreat
open Go.RowKit
set_option linter.unusedVariables false
def Mv.cells (m : Mv) : List Value := [.int .i64 m.fr, .int .i64 m.k, .int .u64 m.n, .string m.t]
def cellsMv (l : List Mv) : List Value := (l.map Mv.cells).flatten
theorem cellsMv_length (l : List Mv) : (cellsMv l).length = l.length * 4 := by
  induction l with
  | nil => rfl
  | cons o os ih => have : cellsMv (o :: os) = o.cells ++ cellsMv os := rfl; rw [this, List.length_append, ih]; simp [Mv.cells]; omega
theorem cellsMv_get : ∀ (os : List Mv) (i : Nat) (h : i < os.length), ∀ j, j < 4 → (cellsMv os)[i * 4 + j]? = (os[i].cells)[j]? := by
  intro os
  induction os with
  | nil => intro i h; simp at h
  | cons x os ih =>
    intro i h j hj
    have e : cellsMv (x :: os) = x.cells ++ cellsMv os := rfl
    have hl : x.cells.length = 4 := rfl
    rw [e]
    cases i with
    | zero => rw [List.getElem?_append_left (by omega), Nat.zero_mul, Nat.zero_add]; rfl
    | succ i =>
      rw [List.getElem?_append_right (by omega), hl, show (i + 1) * 4 + j - 4 = i * 4 + j by omega]
      exact ih i (by simpa using h) j hj
def OwM (w : World) (base : Nat) (ty : TypeId) (v : Value) (l : List Mv) : Prop := w.ownsRow base ty 4 v l.length (cellsMv l)
theorem OwM.nil (w : World) (base : Nat) (ty : TypeId) : OwM w base ty (.slice none 0 0) [] := World.ownsRow_nil _ _ _ _
section
variable {w w' : World} {base : Nat} {v : Value} {l : List Mv} {ty : TypeId}
theorem OwM.on (h : OwM w base ty v l) (hb : Below w.heap.size w w') : OwM w' base ty v l := by
  refine ⟨h.1, ?_⟩
  rcases h.2 with h1 | ⟨g, cap, cur, hv, hbase, hg, h3⟩
  · exact .inl h1
  · exact .inr ⟨g, cap, cur, hv, hbase, (hb.block g (row_lt hg)).trans hg, h3⟩
theorem OwM.less {base' : Nat} (h : OwM w base ty v l) (hb : base' ≤ base) : OwM w base' ty v l := by
  refine ⟨h.1, ?_⟩
  rcases h.2 with h1 | ⟨g, cap, cur, hv, hbase, hg⟩
  · exact .inl h1
  · exact .inr ⟨g, cap, cur, hv, Nat.le_trans hb hbase, hg⟩
theorem OwM.blk2 (h : OwM w base ty v l) : ∀ r, v.ownBlock = some r → base ≤ r ∧ ∃ cs, w.heap[r]? = some (.cells cs ty (0, 0)) := by
  intro j hj
  rcases h.2 with ⟨e, _⟩ | ⟨g, cap, cur, e, hbase, hg, _⟩
  · rw [e] at hj; simp [Value.ownBlock] at hj
  · rw [e] at hj; simp [Value.ownBlock] at hj; subst hj; exact ⟨hbase, _, hg⟩
theorem OwM.shape (h : OwM w base ty v l) : ∃ A n c, v = .slice A n c := by
  rcases h.2 with ⟨e, _⟩ | ⟨g, cap, cur, e, _⟩
  · exact ⟨_, _, _, e⟩
  · exact ⟨_, _, _, e⟩
theorem OwM.set (h : OwM w base ty v l) {g : Nat} (hb : g < base) (i : Nat) (u : Value) : OwM (w.setCell ⟨g, i, none⟩ u) base ty v l := by
  refine ⟨h.1, ?_⟩
  rcases h.2 with h1 | ⟨q, cap, cur, hv, hbase, hg, h3⟩
  · exact .inl h1
  · exact .inr ⟨q, cap, cur, hv, hbase, (Below.heap_setCell w ⟨g, i, none⟩ u q (show q ≠ g by omega)).trans hg, h3⟩
theorem OwM.rd (h : OwM w base ty v l) (hx : ∀ m ∈ l, I64 m.fr ∧ I64 m.k ∧ U64 m.n) : ∃ A cap, v = .slice A l.length cap ∧ RdM w w.heap.size A l.length cap l := by
  rcases h.2 with ⟨rfl, hn⟩ | ⟨g, cap, cur, rfl, hbase, hg, hnc, hm, hs, hl⟩
  · have : l = [] := List.eq_nil_of_length_eq_zero hn
    subst this
    exact ⟨none, 0, rfl, RdM.nil _ _⟩
  · refine ⟨some ⟨g, 0, none⟩, cap, rfl, rfl, hnc, hm, hx, fun hn => ⟨g, 0, rfl, row_lt hg, fun i hi => ?_⟩⟩
    have t : ∀ j, j < 4 → w.cell? ⟨g, 0 + i * 4 + j, none⟩ = (l[i].cells)[j]? := fun j hj => by
      rw [row_cell hg, Nat.zero_add, ← cellsMv_get l i hi j hj, ← hl, List.getElem?_take_of_lt (by omega), Array.getElem?_toList]
    exact ⟨t 0 (by omega), t 1 (by omega), t 2 (by omega), t 3 (by omega)⟩
end
theorem infoMp : (Tryz.prog.info? 161).map (fun i => (i.zero, i.size, i.bytes)) = some (some (.agg #[.int .i64 0, .int .i64 0, .int .u64 0, .string ⟨#[]⟩]), 4, 40) := by kernel_rfl
theorem run_appMv {e sl : TypeId} (hU : Tryz.prog.underlying sl = some (.slice e)) (hi8 : (Tryz.prog.info? e).map (fun i => (i.zero, i.size, i.bytes)) = some (some (.agg #[.int .i64 0, .int .i64 0, .int .u64 0, .string ⟨#[]⟩]), 4, 40)) {w : World} {base : Nat} {v : Value} {l : List Mv} (h : OwM w base e v l) (m : Mv) (hlen : l.length ≤ 1000000) (hb : base ≤ w.heap.size) (ty : TypeId) :
    ∃ v' w', (Builtin.append_ #[sl, sl] ty #[v, .slice (some ⟨w.heap.size, 0, none⟩) 1 1]).run Tryz.prog (w.alloc (.cells #[.int .i64 m.fr, .int .i64 m.k, .int .u64 m.n, .string m.t] e)) = .ok v' w' ∧ OwM w' base e v' (l ++ [m]) ∧ (w.alloc (.cells #[.int .i64 m.fr, .int .i64 m.k, .int .u64 m.n, .string m.t] e)).grownBy w' v.ownBlock := by
  have hk : Below w.heap.size w (w.alloc (.cells #[.int .i64 m.fr, .int .i64 m.k, .int .u64 m.n, .string m.t] e)) := B1 _ _
  cases hi : Tryz.prog.info? e with
  | none => rw [hi] at hi8; cases hi8
  | some i =>
    rw [hi] at hi8
    simp only [Option.map_some, Option.some.injEq, Prod.mk.injEq] at hi8
    obtain ⟨hz, hsz, hby⟩ := hi8
    obtain ⟨v', W', hr, ho, hg, hnil⟩ := run_append_own (P := Tryz.prog) (w.alloc (.cells #[.int .i64 m.fr, .int .i64 m.k, .int .u64 m.n, .string m.t] e)) base sl ty e i (.agg #[.int .i64 0, .int .i64 0, .int .u64 0, .string ⟨#[]⟩]) 4 40 hU hi hz hsz hby rfl (by omega) v l.length (cellsMv l) (h.on hk) ⟨w.heap.size, 0, none⟩ 1 1 m.cells rfl (fun j u hj => by rw [add_plain, Nat.zero_add, row_cell (heap_alloc_new w _)]; match j, hj with | 0, h => exact h | 1, h => exact h | 2, h => exact h | 3, h => exact h) (by intro u hu; simp [Mv.cells] at hu; rcases hu with rfl | rfl | rfl | rfl <;> rfl) (by unfold maxLen; omega) (by omega) (Nat.le_trans hb hk.size)
    refine ⟨v', W', hr, ?_, hg⟩
    unfold OwM
    have e : cellsMv (l ++ [m]) = cellsMv l ++ m.cells := by simp [cellsMv]
    rw [List.length_append, e]; exact ho
theorem run_appFd2 {w : World} {base : Nat} {v : Value} {l : List Fd} (h : OwF w base v l) (f : Fd) (hlen : l.length ≤ 1000000) (hb : base ≤ w.heap.size) (ty : TypeId) :
    ∃ v' w', (Builtin.append_ #[32, 32] ty #[v, .slice (some ⟨w.heap.size, 0, none⟩) 1 1]).run Tryz.prog (w.alloc (.cells #[.string (bs f.nm), .int .i64 f.k, .int .i64 f.g] 68)) = .ok v' w' ∧ OwF w' base v' (l ++ [f]) ∧ (w.alloc (.cells #[.string (bs f.nm), .int .i64 f.k, .int .i64 f.g] 68)).grownBy w' v.ownBlock := by
  have hi8 := infoFd
  have hk : Below w.heap.size w (w.alloc (.cells #[.string (bs f.nm), .int .i64 f.k, .int .i64 f.g] 68)) := B1 _ _
  cases hi : Tryz.prog.info? 68 with
  | none => rw [hi] at hi8; cases hi8
  | some i =>
    rw [hi] at hi8
    simp only [Option.map_some, Option.some.injEq, Prod.mk.injEq] at hi8
    obtain ⟨hz, hsz, hby⟩ := hi8
    obtain ⟨v', W', hr, ho, hg, hnil⟩ := run_append_own (P := Tryz.prog) (w.alloc (.cells #[.string (bs f.nm), .int .i64 f.k, .int .i64 f.g] 68)) base 32 ty 68 i (.agg #[.string ⟨#[]⟩, .int .i64 0, .int .i64 0]) 3 32 Tryz.underlying32 hi hz hsz hby rfl (by omega) v l.length (cellsFd l) (h.on hk) ⟨w.heap.size, 0, none⟩ 1 1 f.cells rfl (fun j u hj => by rw [add_plain, Nat.zero_add, row_cell (heap_alloc_new w _)]; match j, hj with | 0, h => exact h | 1, h => exact h | 2, h => exact h) (by intro u hu; simp [Fd.cells] at hu; rcases hu with rfl | rfl | rfl <;> rfl) (by unfold maxLen; omega) (by omega) (Nat.le_trans hb hk.size)
    refine ⟨v', W', hr, ?_, hg⟩
    unfold OwF
    have e : cellsFd (l ++ [f]) = cellsFd l ++ f.cells := by simp [cellsFd]
    rw [List.length_append, e]; exact ho
section
variable {w w' : World} {base : Nat} {v : Value} {l : List Fd}
theorem OwF.blk2 (h : OwF w base v l) : ∀ r, v.ownBlock = some r → base ≤ r ∧ ∃ cs, w.heap[r]? = some (.cells cs 68 (0, 0)) := by
  intro j hj
  rcases h.2 with ⟨e, _⟩ | ⟨g, cap, cur, e, hbase, hg, _⟩
  · rw [e] at hj; simp [Value.ownBlock] at hj
  · rw [e] at hj; simp [Value.ownBlock] at hj; subst hj; exact ⟨hbase, _, hg⟩
theorem OwF.shape (h : OwF w base v l) : ∃ A n c, v = .slice A n c := by
  rcases h.2 with ⟨e, _⟩ | ⟨g, cap, cur, e, _⟩
  · exact ⟨_, _, _, e⟩
  · exact ⟨_, _, _, e⟩
theorem OwF.set (h : OwF w base v l) {g : Nat} (hb : g < base) (i : Nat) (u : Value) : OwF (w.setCell ⟨g, i, none⟩ u) base v l := by
  refine ⟨h.1, ?_⟩
  rcases h.2 with h1 | ⟨q, cap, cur, hv, hbase, hg, h3⟩
  · exact .inl h1
  · exact .inr ⟨q, cap, cur, hv, hbase, (Below.heap_setCell w ⟨g, i, none⟩ u q (show q ≠ g by omega)).trans hg, h3⟩
end
end Go.Proofs.YtaegencmnmjgbaaGreat
