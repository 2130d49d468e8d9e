/-
  Moves and tables in memory; the document's Right of layer 7.
  The document's Refs and Get of layer 6.
  The document's Get of layer 6.
  The document's Set of layer 6.
  The document's Encode of layer 6; the bytes of fields: mathematics.
  The bytes of fields, read: mathematics; rows of fields of the call's own; the document's Decode of layer 6.
-/
import Derived.Test.YtjodbopnibdolaaM11
import Derived.Test.YtjodbopnibdolaaM5
import Derived.Test.YtjodbopnibdolaaM2

namespace Go.Proofs.Ytjodbopnibdolaa
open Go.RowKit
set_option linter.unusedVariables false

def MvC (w : World) (b off : Nat) (m : Mv) : Prop := w.cell? ⟨b, off, none⟩ = some (.int .i64 m.fr) ∧ w.cell? ⟨b, off + 1, none⟩ = some (.int .i64 m.k) ∧ w.cell? ⟨b, off + 2, none⟩ = some (.int .u64 m.n) ∧ w.cell? ⟨b, off + 3, none⟩ = some (.string m.t)
/-- A slice of moves. -/
def RdM (w : World) (B : Nat) (A : Option Addr) (n cap : Nat) (l : List Mv) : Prop :=
  l.length = n ∧ n ≤ cap ∧ cap ≤ maxLen ∧ (∀ m ∈ l, I64 m.fr ∧ I64 m.k ∧ U64 m.n) ∧ (0 < n → ∃ b off, A = some ⟨b, off, none⟩ ∧ b < B ∧ ∀ i (h : i < l.length), MvC w b (off + i * 4) l[i])
section
variable {w w' : World} {B B' n cap : Nat} {A : Option Addr} {l : List Mv}
theorem MvC.below {b off : Nat} {m : Mv} (h : MvC w b off m) (hb : Below B w w') (hlt : b < B) : MvC w' b off m :=
  ⟨(hb.cell (p := ⟨b, off, none⟩) hlt).trans h.1, (hb.cell (p := ⟨b, off + 1, none⟩) hlt).trans h.2.1, (hb.cell (p := ⟨b, off + 2, none⟩) hlt).trans h.2.2.1, (hb.cell (p := ⟨b, off + 3, none⟩) hlt).trans h.2.2.2⟩
theorem RdM.below (h : RdM w B A n cap l) (hb : Below B w w') : RdM w' B A n cap l :=
  ⟨h.1, h.2.1, h.2.2.1, h.2.2.2.1, fun hn => by
    obtain ⟨b, off, e, hlt, hc⟩ := h.2.2.2.2 hn
    exact ⟨b, off, e, hlt, fun i hi => (hc i hi).below hb hlt⟩⟩
theorem RdM.more (h : RdM w B A n cap l) (hB : B ≤ B') : RdM w B' A n cap l :=
  ⟨h.1, h.2.1, h.2.2.1, h.2.2.2.1, fun hn => by
    obtain ⟨b, off, e, hlt, hc⟩ := h.2.2.2.2 hn
    exact ⟨b, off, e, by omega, hc⟩⟩
theorem RdM.on (h : RdM w w.heap.size A n cap l) (hb : Below w.heap.size w w') : RdM w' w'.heap.size A n cap l := (h.below hb).more hb.size
theorem RdM.nil (w : World) (B : Nat) : RdM w B none 0 0 [] := ⟨rfl, by omega, by simp [maxLen], by simp, fun h => by omega⟩
theorem RdM.at (h : RdM w B A n cap l) {i : Nat} {m : Mv} (hi : l[i]? = some m) : i < n ∧ I64 m.fr ∧ I64 m.k ∧ U64 m.n ∧ ∃ b off, A = some ⟨b, off, none⟩ ∧ ∀ w', Below B w w' → MvC w' b (off + i * 4) m := by
  have hl : i < l.length := (List.getElem?_eq_some_iff.1 hi).1
  rw [List.getElem?_eq_getElem hl] at hi
  cases hi
  obtain ⟨b, off, e, hlt, hc⟩ := h.2.2.2.2 (by have := h.1; omega)
  obtain ⟨h1, h2, h3⟩ := h.2.2.2.1 _ (List.getElem_mem hl)
  exact ⟨by have := h.1; omega, h1, h2, h3, b, off, e, fun w' hb => (hc i hl).below hb hlt⟩
end
/-- A table's three slices. -/
def RdT (w : World) (B : Nat) (v : Value) (T : Tb) : Prop := ∃ A n c A2 n2 c2 A3 n3 c3, v = .agg #[.slice A n c, .slice A2 n2 c2, .slice A3 n3 c3] ∧ RdF w B A n c T.o ∧ RdF w B A2 n2 c2 T.nw ∧ RdM w B A3 n3 c3 T.mv
theorem RdT.on {w w' : World} {v : Value} {T : Tb} (h : RdT w w.heap.size v T) (hb : Below w.heap.size w w') : RdT w' w'.heap.size v T := by
  obtain ⟨A, n, c, A2, n2, c2, A3, n3, c3, e, h1, h2, h3⟩ := h
  exact ⟨A, n, c, A2, n2, c2, A3, n3, c3, e, h1.on hb, h2.on hb, h3.on hb⟩
def shortT (T : Tb) : Prop := short T.o ∧ short T.nw

/-- A box of a move; of a table. -/
def MB (w : World) (b : Nat) (m : Mv) (ty : TypeId) : Prop := w.heap[b]? = some (.cells #[.int .i64 m.fr, .int .i64 m.k, .int .u64 m.n, .string m.t] ty (0, 0))
def TBx (w : World) (b : Nat) (v1 v2 v3 : Value) (ty : TypeId) : Prop := w.heap[b]? = some (.cells #[v1, v2, v3] ty (0, 0))
section
variable {w w' : World} {b B : Nat} {m : Mv} {v1 v2 v3 : Value} {ty : TypeId}
theorem mb_new (w : World) (m : Mv) (ty : TypeId) : MB (w.alloc (.cells #[.int .i64 m.fr, .int .i64 m.k, .int .u64 m.n, .string m.t] ty)) w.heap.size m ty := heap_alloc_new w _
theorem tb_new (w : World) (v1 v2 v3 : Value) (ty : TypeId) : TBx (w.alloc (.cells #[v1, v2, v3] ty)) w.heap.size v1 v2 v3 ty := heap_alloc_new w _
theorem MB.lt (h : MB w b m ty) : b < w.heap.size := row_lt h
theorem TBx.lt (h : TBx w b v1 v2 v3 ty) : b < w.heap.size := row_lt h
theorem MB.below (h : MB w b m ty) (hb : Below B w w') (hlt : b < B) : MB w' b m ty := (hb.block b hlt).trans h
theorem TBx.below (h : TBx w b v1 v2 v3 ty) (hb : Below B w w') (hlt : b < B) : TBx w' b v1 v2 v3 ty := (hb.block b hlt).trans h
theorem MB.on (h : MB w b m ty) (hb : Below w.heap.size w w') : MB w' b m ty := h.below hb h.lt
theorem TBx.on (h : TBx w b v1 v2 v3 ty) (hb : Below w.heap.size w w') : TBx w' b v1 v2 v3 ty := h.below hb h.lt
theorem MB.cells (h : MB w b m ty) : w.cell? ⟨b, 0, none⟩ = some (.int .i64 m.fr) ∧ w.cell? ⟨b, 1, none⟩ = some (.int .i64 m.k) ∧ w.cell? ⟨b, 2, none⟩ = some (.int .u64 m.n) ∧ w.cell? ⟨b, 3, none⟩ = some (.string m.t) := ⟨row_cell h 0, row_cell h 1, row_cell h 2, row_cell h 3⟩
theorem TBx.cells (h : TBx w b v1 v2 v3 ty) : w.cell? ⟨b, 0, none⟩ = some v1 ∧ w.cell? ⟨b, 1, none⟩ = some v2 ∧ w.cell? ⟨b, 2, none⟩ = some v3 := ⟨row_cell h 0, row_cell h 1, row_cell h 2⟩
end

theorem toList_nil {t : ByteArray} (h : t.toList = []) : t.size = 0 := by
  rw [ByteArray.toList_eq] at h
  show t.data.size = 0
  rw [← Array.length_toList, h]; rfl
theorem toList_ne {t : ByteArray} (h : ¬ t.toList = []) : ¬ t.size = 0 := fun e => h (by rw [size_nil t e, ByteArray.toList_eq])
end Go.Proofs.Ytjodbopnibdolaa

namespace Go.Proofs.Ytjodbopnibdolaa
open Go.RowKit
set_option linter.unusedVariables false

def refP : Int → List Fd → List Int
  | _, [] => []
  | a, f :: l => (if f.k = 11 then [placeF a f] else []) ++ refP (placeF a f + f.long) l
def refL (l : List Fd) : List Int := if rightL l then refP 0 l else []
theorem refP_append : ∀ (l l' : List Fd) (a : Int), refP a (l ++ l') = refP a l ++ refP (layE a l) l' := by
  intro l; induction l with
  | nil => intro l' a; rfl
  | cons f l ih => intro l' a; have := ih l' (placeF a f + f.long); show _ ++ refP (placeF a f + f.long) (l ++ l') = (_ ++ refP (placeF a f + f.long) l) ++ refP (layE (placeF a f + f.long) l) l'; rw [this, List.append_assoc]
theorem refP_take {l : List Fd} {i : Nat} {f : Fd} (h : l[i]? = some f) (a : Int) : refP a (l.take (i + 1)) = refP a (l.take i) ++ (if f.k = 11 then [placeF (layE a (l.take i)) f] else []) := by
  rw [List.take_add_one, h, refP_append]; simp [refP]
theorem refP_le : ∀ (l : List Fd) (a : Int), (refP a l).length ≤ l.length := by
  intro l; induction l with
  | nil => intro a; simp [refP]
  | cons f l ih => intro a; have := ih (placeF a f + f.long); show ((if f.k = 11 then [placeF a f] else []) ++ refP (placeF a f + f.long) l).length ≤ _; rw [List.length_append]; split <;> simp <;> omega
theorem lay_bd {l : List Fd} {x : Int} (hx : x ∈ layL l) : 0 ≤ x ∧ x ≤ 1160 := by
  unfold layL at hx
  cases hr : rightL l with
  | false => rw [hr] at hx; cases hx
  | true =>
    rw [hr] at hx
    have hx : x ∈ layP 0 l := hx
    obtain ⟨i, hi⟩ := List.mem_iff_getElem?.1 hx
    have hil : i < l.length := by
      by_cases c : i < l.length
      · exact c
      · rw [List.getElem?_eq_none (by rw [layP_length]; omega)] at hi; cases hi
    have h1 := lay_in hr (List.getElem?_eq_getElem hil) hi
    have h2 := layN_bounds hr
    have h3 := long_pos (right_may hr _ (List.getElem_mem hil))
    omega
theorem refP_sub : ∀ (l : List Fd) (a : Int), ∀ x ∈ refP a l, x ∈ layP a l := by
  intro l; induction l with
  | nil => intro a x hx; cases hx
  | cons f l ih =>
    intro a x hx
    have hx : x ∈ (if f.k = 11 then [placeF a f] else []) ++ refP (placeF a f + f.long) l := hx
    show x ∈ placeF a f :: layP (placeF a f + f.long) l
    rcases List.mem_append.1 hx with h | h
    · split at h
      · rw [List.mem_singleton] at h; rw [h]; exact List.mem_cons_self
      · cases h
    · exact List.mem_cons_of_mem _ (ih _ x h)
theorem ref_bd {l : List Fd} {x : Int} (hx : x ∈ refL l) : 0 ≤ x ∧ x ≤ 1160 := by
  refine lay_bd (l := l) ?_
  unfold refL at hx; unfold layL
  cases hr : rightL l with
  | false => rw [hr] at hx; cases hx
  | true => rw [hr] at hx; exact refP_sub l 0 x hx
theorem lay_I64 {l : List Fd} : ∀ x ∈ layL l, I64 x := fun x hx => by have := lay_bd hx; exact i64_iff.2 (by omega)
theorem layL_right {l : List Fd} (h : rightL l = true) : layL l = layP 0 l := by unfold layL; rw [h]; rfl
theorem layT_right {l : List Fd} (h : rightL l = true) : layT l = layN l := by unfold layT; rw [h]; rfl
theorem layL_wrong {l : List Fd} (h : rightL l = false) : layL l = [] := by unfold layL; rw [h]; rfl
theorem layT_wrong {l : List Fd} (h : rightL l = false) : layT l = 0 := by unfold layT; rw [h]; rfl
theorem layT_bd (l : List Fd) : 0 ≤ layT l ∧ layT l ≤ 1160 := by
  cases hr : rightL l with
  | false => rw [layT_wrong hr]; omega
  | true => rw [layT_right hr]; have := layN_bounds hr; omega

end Go.Proofs.Ytjodbopnibdolaa

namespace Go.Proofs.Ytjodbopnibdolaa
open Go.RowKit
set_option linter.unusedVariables false

/-- What is got of a field. -/
def getR (s : List UInt8) (l : List Fd) (nm : List UInt8) : Value :=
  if rightL l = true ∧ (s.length : Int) = layN l then
    match findN l nm with
    | none => .tuple #[.agg #[.int .i64 0, .int .u64 0, .string ⟨#[]⟩], .int .i64 61]
    | some i => match l[i]?, (layP 0 l)[i]? with
      | some f, some p => decR ((s.drop p.toNat).take f.long.toNat) f.k f.g
      | _, _ => undef
  else .tuple #[.agg #[.int .i64 0, .int .u64 0, .string ⟨#[]⟩], .int .i64 60]
theorem getR_form {s : List UInt8} {l : List Fd} {nm : List UInt8} (h : ¬ (rightL l = true ∧ (s.length : Int) = layN l)) : getR s l nm = .tuple #[.agg #[.int .i64 0, .int .u64 0, .string ⟨#[]⟩], .int .i64 60] := by unfold getR; rw [if_neg h]
theorem getR_none {s : List UInt8} {l : List Fd} {nm : List UInt8} (h : rightL l = true ∧ (s.length : Int) = layN l) (hf : findN l nm = none) : getR s l nm = .tuple #[.agg #[.int .i64 0, .int .u64 0, .string ⟨#[]⟩], .int .i64 61] := by unfold getR; rw [if_pos h, hf]
theorem getR_some {s : List UInt8} {l : List Fd} {nm : List UInt8} (h : rightL l = true ∧ (s.length : Int) = layN l) {i : Nat} {f : Fd} {p : Int} (hf : findN l nm = some i) (hi : l[i]? = some f) (hp : (layP 0 l)[i]? = some p) : getR s l nm = decR ((s.drop p.toNat).take f.long.toNat) f.k f.g := by
  unfold getR; rw [if_pos h, hf]; simp only [hi, hp]

theorem VB.set3 {w : World} {b : Nat} {k n : Int} {t : ByteArray} (h : VB w b k n t) (k' n' : Int) (t' : ByteArray) : VB (((w.setCell ⟨b, 0, none⟩ (.int .i64 k')).setCell ⟨b, 1, none⟩ (.int .u64 n')).setCell ⟨b, 2, none⟩ (.string t')) b k' n' t' := ((h.setKind k').setBits n').setText t'
theorem B3 {B b : Nat} {w w' : World} (h : Below B w w') (hb : B ≤ b) (x y z : Value) : Below B w (((w'.setCell ⟨b, 0, none⟩ x).setCell ⟨b, 1, none⟩ y).setCell ⟨b, 2, none⟩ z) := ((h.setCell hb _).setCell hb _).setCell hb _

theorem OwI.blk {w : World} {base b off n c : Nat} {l : List Int} (h : OwI w base (.slice (some ⟨b, off, none⟩) n c) l) : base ≤ b := h.row b rfl
theorem gcell {w w' : World} {r : Option Nat} (hg : w.grownBy w' r) {b : Nat} (i : Nat) (hlt : b < w.heap.size) (hne : some b ≠ r) : w'.cell? ⟨b, i, none⟩ = w.cell? ⟨b, i, none⟩ := by
  unfold World.cell?; rw [hg.block b hlt hne]
theorem ExO.of {r : Option Nat} {w w' : World} (h : Below w.heap.size w w') : ExO r w w' := ⟨h.os, h.tape, h.output, h.size, fun i hi _ => h.block i hi⟩
theorem ExO.set3 {r b : Nat} {w : World} (e : r = b) (x y z : Value) : ExO (some r) w (((w.setCell ⟨b, 0, none⟩ x).setCell ⟨b, 1, none⟩ y).setCell ⟨b, 2, none⟩ z) := by
  subst e; exact grown_set (grown_set (grown_set (grown_refl w (some r)) 0 x) 1 y) 2 z

end Go.Proofs.Ytjodbopnibdolaa

namespace Go.Proofs.Ytjodbopnibdolaa
open Go.RowKit
set_option linter.unusedVariables false

/-- The bytes of a value. -/
def encB (vk n : Int) (t : ByteArray) (k g : Int) : List UInt8 := (encT vk n t k g).data.toList
theorem encB_eq (vk n : Int) (t : ByteArray) (k g : Int) : encT vk n t k g = bs (encB vk n t k g) := by
  unfold encB bs; simp
theorem encB_length {vk n : Int} {t : ByteArray} {k g : Int} (h : rightF vk n t.size k g = true) : ((encB vk n t k g).length : Int) = longF k g := by
  have hm : mayF k g = true := by
    have h1 := h
    unfold rightF at h1
    simp only [Bool.and_eq_true] at h1
    exact h1.1.1
  unfold encB encT
  rw [if_pos h]
  unfold encL
  by_cases h12 : k = 12
  · subst h12
    rw [if_pos rfl]
    have hl : longF 12 g = g := by unfold longF; rw [hm]; rfl
    have h2 : (t.size : Int) = g := by
      unfold rightF at h
      simp only [Bool.and_eq_true, if_true, decide_eq_true_eq] at h
      exact h.2.2
    rw [hl, ← h2]
    rfl
  · rw [if_neg h12]
    have h8 := longF_le8 g h12
    have h0 := longF_nonneg k g
    show ((((le n 8).take (longF k g).toNat).length : Nat) : Int) = _
    rw [List.length_take, le_length]; omega

/-- What a field's setting makes of an object's bytes; and its error. -/
def setS6 (s : List UInt8) (l : List Fd) (nm : List UInt8) (vk n : Int) (t : ByteArray) : List UInt8 × Int :=
  if rightL l = true ∧ (s.length : Int) = layN l then
    match findN l nm with
    | none => ([], 61)
    | some i => match l[i]?, (layP 0 l)[i]? with
      | some f, some p => if rightF vk n t.size f.k f.g then (setL s p.toNat (encB vk n t f.k f.g), 0) else ([], 50)
      | _, _ => ([], 0)
  else ([], 60)
section
variable {s : List UInt8} {l : List Fd} {nm : List UInt8} {vk n : Int} {t : ByteArray}
theorem set_form (h : ¬ (rightL l = true ∧ (s.length : Int) = layN l)) : setS6 s l nm vk n t = ([], 60) := by unfold setS6; rw [if_neg h]
theorem set_none (h : rightL l = true ∧ (s.length : Int) = layN l) (hf : findN l nm = none) : setS6 s l nm vk n t = ([], 61) := by unfold setS6; rw [if_pos h, hf]
theorem set_some (h : rightL l = true ∧ (s.length : Int) = layN l) {i : Nat} {f : Fd} {p : Int} (hf : findN l nm = some i) (hi : l[i]? = some f) (hp : (layP 0 l)[i]? = some p) : setS6 s l nm vk n t = if rightF vk n t.size f.k f.g then (setL s p.toNat (encB vk n t f.k f.g), 0) else ([], 50) := by
  unfold setS6; rw [if_pos h, hf]; simp only [hi, hp]
end
def SetQ (w : World) (r : List UInt8 × Int) (e : Ending) (w' : World) : Prop := e = .returned (.tuple #[.string (bs r.1), .int .i64 r.2]) ∧ Below w.heap.size w w'

end Go.Proofs.Ytjodbopnibdolaa

namespace Go.Proofs.Ytjodbopnibdolaa
open Go.RowKit
set_option linter.unusedVariables false

theorem u64_id {x : Int} (h0 : 0 ≤ x) (h : x < 18446744073709551616) : IntKind.u64.wrap x = x := by rw [IntKind.wrap_u64]; omega
theorem rput1 (n : Int) (h0 : 0 ≤ n) (h : n < 256) : rputL n 1 = le n 1 := by
  unfold rputL; rw [if_pos (by simp [fits, show isW 1 = true from rfl, pw1]; omega)]; rfl
def encF (f : Fd) : List UInt8 := le f.nm.length 1 ++ f.nm ++ le f.k 1 ++ le f.g 1
def encP (l : List Fd) : List UInt8 := (l.map encF).flatten
/-- The bytes of fields. -/
def encA (l : List Fd) : List UInt8 := le l.length 1 ++ encP l
theorem encF_length (f : Fd) : (encF f).length = f.nm.length + 3 := by unfold encF; simp only [List.length_append, le_length]; omega
theorem encP_take {l : List Fd} {i : Nat} {f : Fd} (h : l[i]? = some f) : encP (l.take (i + 1)) = encP (l.take i) ++ encF f := by
  unfold encP; rw [List.take_add_one, h]; simp
theorem name_len {s : List UInt8} (h : nameB s = true) : 1 ≤ s.length ∧ s.length ≤ 15 := by
  unfold nameB at h; simp only [Bool.and_eq_true, decide_eq_true_eq] at h; omega
theorem right_at {l : List Fd} (h : rightL l = true) {i : Nat} {f : Fd} (hi : l[i]? = some f) : 1 ≤ f.nm.length ∧ f.nm.length ≤ 15 ∧ 0 ≤ f.k ∧ f.k ≤ 12 ∧ 0 ≤ f.g ∧ f.g ≤ 64 := by
  obtain ⟨h1, h2, h3⟩ := (rightL_iff.1 h).2 i f hi
  have h4 := name_len h1
  unfold Fd.may at h2
  by_cases c : f.k = 12
  · rw [c] at h2; have := may12 h2; omega
  · have := may_cases h2 c; omega
theorem encP_len {l : List Fd} (h : rightL l = true) : ∀ j, j ≤ l.length → (encP (l.take j)).length ≤ 18 * j := by
  intro j
  induction j with
  | zero => intro _; simp [encP]
  | succ j ih =>
    intro hj
    have hi : l[j]? = some l[j] := List.getElem?_eq_getElem (by omega)
    rw [encP_take hi, List.length_append, encF_length]
    have := ih (by omega)
    have := right_at h hi
    omega
def encE6 (l : List Fd) : List UInt8 × Int := if rightL l then (encA l, 0) else ([], 60)

end Go.Proofs.Ytjodbopnibdolaa

namespace Go.Proofs.Ytjodbopnibdolaa
open Go.RowKit
set_option linter.unusedVariables false

theorem le1 (x : Int) : le x 1 = [byteAt x 0] := rfl
theorem byteAt0 {x : Int} (h0 : 0 ≤ x) (h : x < 256) : ((byteAt x 0).toNat : Int) = x := by
  have h1 : pw ((0 : Nat) : Int) = 1 := rfl
  unfold byteAt
  rw [h1, UInt8.toNat_ofNat']
  omega
theorem encP_split {l : List Fd} {j : Nat} {f : Fd} (h : l[j]? = some f) : encP l = encP (l.take j) ++ (encF f ++ encP (l.drop (j + 1))) := by
  have hi : j < l.length := by
    by_cases c : j < l.length
    · exact c
    · rw [List.getElem?_eq_none (by omega)] at h; cases h
  have hd : l.drop j = f :: l.drop (j + 1) := by
    rw [List.drop_eq_getElem_cons hi]
    rw [List.getElem?_eq_getElem hi] at h
    cases h; rfl
  have e : encP l = encP (l.take j) ++ encP (l.drop j) := by
    unfold encP; rw [← List.flatten_append, ← List.map_append, List.take_append_drop]
  rw [e, hd]
  rfl
/-- What stands at a field's place among the bytes. -/
theorem dec_at {s : List UInt8} {l : List Fd} (hr : rightL l = true) (hs : encA l = s) {j : Nat} {f : Fd} (hf : l[j]? = some f) {z : Nat} (hz : z = 1 + (encP (l.take j)).length) :
    ∃ R, s.drop z = encF f ++ R ∧ s.length = z + (encF f).length + R.length ∧ R = encP (l.drop (j + 1)) := by
  refine ⟨encP (l.drop (j + 1)), ?_, ?_, rfl⟩
  · rw [← hs]
    unfold encA
    rw [encP_split hf, ← List.append_assoc, List.drop_append_of_le_length (by simp [le_length]; omega), List.drop_of_length_le (by simp [le_length]; omega), List.nil_append]
  · rw [← hs]
    unfold encA
    rw [encP_split hf]
    simp only [List.length_append, le_length]
    omega
theorem dec_step {s : List UInt8} {l : List Fd} (hr : rightL l = true) (hs : encA l = s) {j : Nat} (hj : j ≤ l.length) {z : Nat} (hz : z = 1 + (encP (l.take j)).length) (hlt : z < s.length) :
    ∃ f, l[j]? = some f ∧ s[z].toNat = f.nm.length ∧ z + f.nm.length + 2 < s.length ∧ (s.drop (z + 1)).take f.nm.length = f.nm ∧ (∀ h : z + 1 + f.nm.length < s.length, (s[z + 1 + f.nm.length].toNat : Int) = f.k) ∧ (∀ h : z + 2 + f.nm.length < s.length, (s[z + 2 + f.nm.length].toNat : Int) = f.g) ∧ z + 3 + f.nm.length = 1 + (encP (l.take (j + 1))).length := by
  have hjl : j < l.length := by
    by_cases c : j < l.length
    · exact c
    · obtain rfl : j = l.length := by omega
      rw [List.take_length] at hz
      have : s.length = 1 + (encP l).length := by rw [← hs]; unfold encA; rw [List.length_append, le_length]
      omega
  have hf : l[j]? = some l[j] := List.getElem?_eq_getElem hjl
  generalize l[j] = f at hf
  obtain ⟨R, h1, h2, _⟩ := dec_at hr hs hf hz
  obtain ⟨a1, a2, a3, a4, a5, a6⟩ := right_at hr hf
  rw [encF_length] at h2
  have hD : s.drop z = byteAt f.nm.length 0 :: (f.nm ++ (byteAt f.k 0 :: byteAt f.g 0 :: R)) := by rw [h1]; unfold encF; simp [le1]
  have hget : ∀ i, s[z + i]? = (byteAt f.nm.length 0 :: (f.nm ++ (byteAt f.k 0 :: byteAt f.g 0 :: R)))[i]? := fun i => by rw [← hD, List.getElem?_drop]
  refine ⟨f, hf, ?_, by omega, ?_, fun h => ?_, fun h => ?_, ?_⟩
  · have h3 := hget 0
    rw [Nat.add_zero, List.getElem?_eq_getElem hlt] at h3
    simp at h3
    rw [h3]
    have := byteAt0 (x := f.nm.length) (by omega) (by omega)
    omega
  · have h3 : s.drop (z + 1) = f.nm ++ (byteAt f.k 0 :: byteAt f.g 0 :: R) := by
      rw [← List.drop_drop, hD]; rfl
    rw [h3, List.take_left']; rfl
  · have h3 := hget (1 + f.nm.length)
    rw [← Nat.add_assoc, List.getElem?_eq_getElem h, Nat.add_comm 1, List.getElem?_cons_succ, List.getElem?_append_right (by omega), Nat.sub_self] at h3
    simp at h3
    rw [h3]; exact byteAt0 a3 (by omega)
  · have h3 := hget (2 + f.nm.length)
    rw [← Nat.add_assoc, List.getElem?_eq_getElem h, show 2 + f.nm.length = (f.nm.length + 1) + 1 by omega, List.getElem?_cons_succ, List.getElem?_append_right (by omega), show f.nm.length + 1 - f.nm.length = 1 by omega] at h3
    simp at h3
    rw [h3]; exact byteAt0 a5 (by omega)
  · rw [encP_take hf, List.length_append, encF_length]; omega
/-- Fields are told by their bytes. -/
theorem encA_inj {l l' : List Fd} (h : rightL l = true) (h' : rightL l' = true) (he : encA l = encA l') : l = l' := by
  have key : ∀ j, j ≤ l.length → j ≤ l'.length ∧ l.take j = l'.take j := by
    intro j
    induction j with
    | zero => intro _; exact ⟨by omega, by simp⟩
    | succ j ih =>
      intro hj
      obtain ⟨h1, h2⟩ := ih (by omega)
      have hlt : 1 + (encP (l.take j)).length < (encA l).length := by
        have hf : l[j]? = some l[j] := List.getElem?_eq_getElem (by omega)
        obtain ⟨R, _, h3, _⟩ := dec_at h rfl hf (z := 1 + (encP (l.take j)).length) rfl
        rw [encF_length] at h3; omega
      obtain ⟨f, f1, f2, f3, f4, f5, f6, f7⟩ := dec_step h rfl (by omega) rfl hlt
      obtain ⟨g, g1, g2, g3, g4, g5, g6, g7⟩ := dec_step h' he.symm h1 (z := 1 + (encP (l.take j)).length) (by rw [h2]) hlt
      have en : f.nm.length = g.nm.length := by omega
      have e1 : f.nm = g.nm := by rw [← f4, ← g4, en]
      have e2 : f.k = g.k := by
        rw [← f5 (by omega), ← g5 (by omega)]
        simp only [en]
      have e3 : f.g = g.g := by
        rw [← f6 (by omega), ← g6 (by omega)]
        simp only [en]
      have e : f = g := by cases f; cases g; simp at e1 e2 e3; simp [e1, e2, e3]
      have hjl' : j < l'.length := by
        by_cases c : j < l'.length
        · exact c
        · rw [List.getElem?_eq_none (by omega)] at g1; cases g1
      refine ⟨by omega, ?_⟩
      rw [List.take_add_one, List.take_add_one, h2, f1, g1, e]
  have hl : l.length = l'.length := by
    have h1 := (key l.length (Nat.le_refl _)).1
    have h3 : (encA l)[0]? = (encA l')[0]? := by rw [he]
    unfold encA at h3
    rw [le1, le1] at h3
    simp at h3
    have h4 := byteAt0 (x := l.length) (by omega) (by have := right_len h; omega)
    have h5 := byteAt0 (x := l'.length) (by omega) (by have := right_len h'; omega)
    rw [h3] at h4
    omega
  have := (key l.length (Nat.le_refl _)).2
  rw [List.take_length, hl, List.take_length] at this
  exact this

/-! ### rows of fields of the call's own -/
def Fd.cells (f : Fd) : List Value := [.string (bs f.nm), .int .i64 f.k, .int .i64 f.g]
def cellsFd (l : List Fd) : List Value := (l.map Fd.cells).flatten
theorem cellsFd_length (l : List Fd) : (cellsFd l).length = l.length * 3 := by
  induction l with
  | nil => rfl
  | cons o os ih => have : cellsFd (o :: os) = o.cells ++ cellsFd os := rfl; rw [this, List.length_append, ih]; simp [Fd.cells]; omega
theorem cellsFd_get : ∀ (os : List Fd) (i : Nat) (h : i < os.length), ∀ j, j < 3 → (cellsFd os)[i * 3 + j]? = (os[i].cells)[j]? := by
  intro os
  induction os with
  | nil => intro i h; simp at h
  | cons x os ih =>
    intro i h j hj
    have e : cellsFd (x :: os) = x.cells ++ cellsFd os := rfl
    have hl : x.cells.length = 3 := rfl
    rw [e]
    cases i with
    | zero => rw [List.getElem?_append_left (by omega), Nat.zero_mul, Nat.zero_add]; rfl
    | succ i =>
      rw [List.getElem?_append_right (by omega), hl, show (i + 1) * 3 + j - 3 = i * 3 + j by omega]
      exact ih i (by simpa using h) j hj
def OwF (w : World) (base : Nat) (v : Value) (l : List Fd) : Prop := w.ownsRow base 24 3 v l.length (cellsFd l)
theorem OwF.nil (w : World) (base : Nat) : OwF w base (.slice none 0 0) [] := World.ownsRow_nil _ _ _ _
section
variable {w w' : World} {base : Nat} {v : Value} {l : List Fd}
theorem OwF.on (h : OwF w base v l) (hb : Below w.heap.size w w') : OwF w' base v l := by
  refine ⟨h.1, ?_⟩
  rcases h.2 with h1 | ⟨g, cap, cur, hv, hbase, hg, h3⟩
  · exact .inl h1
  · exact .inr ⟨g, cap, cur, hv, hbase, (hb.block g (row_lt hg)).trans hg, h3⟩
theorem OwF.heapEq (h : OwF w base v l) (he : w'.heap = w.heap) : OwF w' base v l := by
  refine ⟨h.1, ?_⟩
  rcases h.2 with h1 | ⟨g, cap, cur, hv, hbase, hg, h3⟩
  · exact .inl h1
  · exact .inr ⟨g, cap, cur, hv, hbase, by rw [he]; exact hg, h3⟩
theorem OwF.less {base' : Nat} (h : OwF w base v l) (hb : base' ≤ base) : OwF w base' v l := by
  refine ⟨h.1, ?_⟩
  rcases h.2 with h1 | ⟨g, cap, cur, hv, hbase, hg⟩
  · exact .inl h1
  · exact .inr ⟨g, cap, cur, hv, Nat.le_trans hb hbase, hg⟩
theorem OwF.row (h : OwF w base v l) : ∀ j, v.ownBlock = some j → base ≤ j := by
  intro j hj
  rcases h.2 with ⟨e, _⟩ | ⟨g, cap, cur, e, hbase, _⟩
  · rw [e] at hj; simp [Value.ownBlock] at hj
  · rw [e] at hj; simp [Value.ownBlock] at hj; omega
theorem OwF.rd (h : OwF w base v l) (hx : ∀ f ∈ l, I64 f.k ∧ I64 f.g ∧ f.nm.length ≤ nmMax) : ∃ A cap, v = .slice A l.length cap ∧ RdF w w.heap.size A l.length cap l := by
  rcases h.2 with ⟨rfl, hn⟩ | ⟨g, cap, cur, rfl, hbase, hg, hnc, hm, hs, hl⟩
  · have : l = [] := List.eq_nil_of_length_eq_zero hn
    subst this
    exact ⟨none, 0, rfl, RdF.nil _ _⟩
  · refine ⟨some ⟨g, 0, none⟩, cap, rfl, rfl, hnc, hm, hx, fun hn => ⟨g, 0, rfl, row_lt hg, fun i hi => ?_⟩⟩
    have t : ∀ j, j < 3 → w.cell? ⟨g, 0 + i * 3 + j, none⟩ = (l[i].cells)[j]? := fun j hj => by
      rw [row_cell hg, Nat.zero_add, ← cellsFd_get l i hi j hj, ← hl, List.getElem?_take_of_lt (by omega), Array.getElem?_toList]
    exact ⟨t 0 (by omega), t 1 (by omega), t 2 (by omega)⟩
end
theorem infoFd : (Try.prog.info? 24).map (fun i => (i.zero, i.size, i.bytes)) = some (some (.agg #[.string ⟨#[]⟩, .int .i64 0, .int .i64 0]), 3, 32) := by kernel_rfl
/-- append(v, f). -/
theorem run_appFd {w : World} {base : Nat} {v : Value} {l : List Fd} (h : OwF w base v l) (f : Fd) (hlen : l.length ≤ 1000000) (hb : base ≤ w.heap.size) (ty : TypeId) :
    ∃ v' w', (Builtin.append_ #[22, 22] ty #[v, .slice (some ⟨w.heap.size, 0, none⟩) 1 1]).run Try.prog (w.alloc (.cells #[.string (bs f.nm), .int .i64 f.k, .int .i64 f.g] 24)) = .ok v' w' ∧ OwF w' base v' (l ++ [f]) ∧ Below base (w.alloc (.cells #[.string (bs f.nm), .int .i64 f.k, .int .i64 f.g] 24)) w' := by
  have hi8 := infoFd
  have hk : Below w.heap.size w (w.alloc (.cells #[.string (bs f.nm), .int .i64 f.k, .int .i64 f.g] 24)) := B1 _ _
  cases hi : Try.prog.info? 24 with
  | none => rw [hi] at hi8; cases hi8
  | some i =>
    rw [hi] at hi8
    simp only [Option.map_some, Option.some.injEq, Prod.mk.injEq] at hi8
    obtain ⟨hz, hsz, hby⟩ := hi8
    obtain ⟨v', W', hr, ho, hg, hnil⟩ := run_append_own (P := Try.prog) (w.alloc (.cells #[.string (bs f.nm), .int .i64 f.k, .int .i64 f.g] 24)) base 22 ty 24 i (.agg #[.string ⟨#[]⟩, .int .i64 0, .int .i64 0]) 3 32 Try.underlying22 hi hz hsz hby rfl (by omega) v l.length (cellsFd l) (h.on hk) ⟨w.heap.size, 0, none⟩ 1 1 f.cells rfl (fun j u hj => by rw [add_plain, Nat.zero_add, row_cell (heap_alloc_new w _)]; match j, hj with | 0, h => exact h | 1, h => exact h | 2, h => exact h) (by intro u hu; simp [Fd.cells] at hu; rcases hu with rfl | rfl | rfl <;> rfl) (by unfold maxLen; omega) (by omega) (Nat.le_trans hb hk.size)
    refine ⟨v', W', hr, ?_, (Below.refl _ _).grown hg (Nat.le_trans hb hk.size) (fun j hj => h.row j hj)⟩
    unfold OwF
    have e : cellsFd (l ++ [f]) = cellsFd l ++ f.cells := by simp [cellsFd]
    rw [List.length_append, e]; exact ho
theorem step_appFd {w w' : World} {o : Oper} {a : Act} {K : Act → World → Prop} {Q : Exit → Act → World → Prop} {y : Nat → Option Bool} {v v' u : Value} (hgd : o.guard = none) (s x : Operand)
    (hop : o.op = .call { callee := .builtin .append, args := #[s, x], argTypes := #[22, 22] }) (hs : a.eval s = v) (hx : a.eval x = u)
    (hrun : (Builtin.append_ #[22, 22] o.type #[v, u]).run Try.prog w = .ok v' w') (hk : K (a.put o.dst v') w') :
    if Region.wanted o y = true then Oper.wp Try.prog o a w K Q else K (a.put o.dst undef) w := by
  simp only [Region.wanted, hgd, if_true]
  unfold Oper.wp execOp
  simp only [hop, resolve, invoke, builtin, Sem.run_bind, Sem.run_pure, Result.andThen_ok, List.map_toArray, List.map_cons, List.map_nil, hs, hx, hrun]
  exact hk
end Go.Proofs.Ytjodbopnibdolaa
