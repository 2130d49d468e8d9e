/-
  Regions that draw their order: what is held may grow on the way.
  Contracts of the document's answers for values: May, Long, Right, Casts.
  Contracts of the document's Zero, Encode, Decode.
  Contract of the document's Decode (written by tools/kindd.py).
  Whole numbers of 64 bits; slices of them that read as a list.
  Fields in memory; the document's Find, Name, Right of layer 6.
  From what a law's arguments hold to what its walk is told: slices of fields, slices of values.
-/
import Derived.Test.YtaegencmnmjgbaaGreatM1
import Derived.Deep.RegionHeld3
import Derived.Test.YtaegencmnmjgbaaGreatM2
import Derived.Deep.QuietTactic
import Derived.BigQuiet
import Derived.Laws.Rows
import Derived.Laws.ResultCell
import Derived.Deep.Slices
import Derived.Deep.Fields
import Derived.ChangeSame
import Derived.SizedLaws

namespace Go.Proofs.YtaegencmnmjgbaaGreat
open Go.RowKit
set_option linter.unusedVariables false
section
variable {P : Program} {md : Region.Mode} {ops : Array Oper} {Q : Exit → Act → World → Prop} {S S' : World → Prop}
theorem held_weaken (hS : ∀ w, S' w → S w) : ∀ (fuel : Nat) (listed : Array Bool) (a : Act) (w : World), wpAnyH P md ops Q S' fuel listed a w → wpAnyH P md ops Q S fuel listed a w
  | 0, _, _, _, h => h
  | fuel + 1, _, _, _, h => ⟨h.1, fun i hi => wpOp_mono (fun a' w' h' => ⟨hS _ h'.1, held_weaken hS fuel _ a' w' h'.2⟩) (h.2 i hi)⟩
end
def Ext (w w' : World) : Prop := Below w.heap.size w w'
theorem Ext.refl (w : World) : Ext w w := B0 w
theorem Ext.trans {a b c : World} (h : Ext a b) (k : Ext b c) : Ext a c := Bt h k
variable {P : Program} {md : Region.Mode} {ops : Array Oper} {Q : Exit → Act → World → Prop}
theorem reg_begin {id : Nat} {a : Act} {w : World} (hm : P.follows .mixedOrders = true)
    (h : ∀ w0, Ext w w0 → Ext w0 w0 → wpAnyH P .any ops (NoPanic Q) (Ext w0) ops.size (Array.replicate ops.size false) a w0) : (Code.region id ops true).wp P Q a w :=
  wp_region_noPanic <| wp_region_held_drew (S := Ext w.drew) hm (Ext.refl _) (fun _ => h w.drew (Below.drew (B0 w)) (Ext.refl _))
theorem reg_on {w w1 : World} {fuel : Nat} {listed : Array Bool} {a : Act} (h : Ext w w1) (k : Ext w1 w1 → wpAnyH P md ops Q (Ext w1) fuel listed a w1) : wpAnyH P md ops Q (Ext w) fuel listed a w1 :=
  held_weaken (fun _ h' => h.trans h') _ _ _ _ (k (Ext.refl _))
theorem at0 {α : Type} {o : α} {l : List α} : (o :: l).toArray[0]? = some o := rfl
theorem atS {α : Type} {o x : α} {l : List α} {n : Nat} (h : l.toArray[n]? = some x) : (o :: l).toArray[n + 1]? = some x := by simpa using h
theorem atS5 {α : Type} {o1 o2 o3 o4 o5 x : α} {l : List α} {n : Nat} (h : l.toArray[n]? = some x) : (o1 :: o2 :: o3 :: o4 :: o5 :: l).toArray[n + 5]? = some x := by simpa using h
theorem reg_take (i : Nat) {oi : Oper} {v : Value} {fuel : Nat} {listed : Array Bool} {a : Act} {w w1 : World} (hi : ops[i]? = some oi)
    (hs : Region.noSelect ops = true) (hf : Region.free md ops listed i = true) (hr : (Region.ready md ops listed).contains i = true)
    (hy : Region.wanted oi (yielded ops a.tmps) = true) (hv : ∀ w', Ext w1 w' → (execOp a.eval oi).run P w' = .ok (.value v) w') (hS : Ext w1 w)
    (h : wpAnyH P md ops (NoPanic Q) (Ext w1) fuel (listed.setIfInBounds i true) (a.put oi.dst v) w) : wpAnyH P md ops (NoPanic Q) (Ext w1) (fuel + 1) listed a w :=
  wpAnyH_take hi hs hf hr (fun _ _ _ h => h) (Or.inl ⟨hy, hv⟩) hS h
def ExB (B : Nat) (w w' : World) : Prop := Below B w w'
theorem ExB.refl (B : Nat) (w : World) : ExB B w w := Below.refl _ _
theorem ExB.trans {B : Nat} {a b c : World} (h : ExB B a b) (k : ExB B b c) : ExB B a c := Below.trans h k
theorem reg_beginB (B : Nat) {id : Nat} {a : Act} {w : World} (hm : P.follows .mixedOrders = true)
    (h : ∀ w0, Hid (w0.heap = w.heap) → ExB B w w0 → ExB B w0 w0 → wpAnyH P .any ops (NoPanic Q) (ExB B w0) ops.size (Array.replicate ops.size false) a w0) : (Code.region id ops true).wp P Q a w :=
  wp_region_noPanic <| wp_region_held_drew (S := ExB B w.drew) hm (ExB.refl _ _) (fun _ => h w.drew (hid rfl) (Below.drew (Below.refl _ _)) (ExB.refl _ _))
theorem reg_takeB (i : Nat) {B : Nat} {oi : Oper} {v : Value} {fuel : Nat} {listed : Array Bool} {a : Act} {w w1 : World} (hi : ops[i]? = some oi)
    (hs : Region.noSelect ops = true) (hf : Region.free md ops listed i = true) (hr : (Region.ready md ops listed).contains i = true)
    (hy : Region.wanted oi (yielded ops a.tmps) = true) (hv : ∀ w', ExB B w1 w' → (execOp a.eval oi).run P w' = .ok (.value v) w') (hS : ExB B w1 w)
    (h : wpAnyH P md ops (NoPanic Q) (ExB B w1) fuel (listed.setIfInBounds i true) (a.put oi.dst v) w) : wpAnyH P md ops (NoPanic Q) (ExB B w1) (fuel + 1) listed a w :=
  wpAnyH_take hi hs hf hr (fun _ _ _ h => h) (Or.inl ⟨hy, hv⟩) hS h
theorem reg_skip {P : Program} {md : Region.Mode} {ops : Array Oper} {Q : Exit → Act → World → Prop} (i : Nat) {oi : Oper} {fuel : Nat} {listed : Array Bool} {a : Act} {w w1 : World} (hi : ops[i]? = some oi)
    (hs : Region.noSelect ops = true) (hf : Region.free md ops listed i = true) (hr : (Region.ready md ops listed).contains i = true)
    (hy : Region.wanted oi (yielded ops a.tmps) = false) (hS : Ext w1 w)
    (h : wpAnyH P md ops (NoPanic Q) (Ext w1) fuel (listed.setIfInBounds i true) (a.put oi.dst undef) w) : wpAnyH P md ops (NoPanic Q) (Ext w1) (fuel + 1) listed a w :=
  wpAnyH_take hi hs hf hr (fun _ _ _ h => h) (Or.inr ⟨hy, rfl⟩) hS h
def ExO (r : Option Nat) (w w' : World) : Prop := w.grownBy w' r
theorem ExO.refl (r : Option Nat) (w : World) : ExO r w w := grown_refl w r
theorem ExO.trans {r : Option Nat} {a b c : World} (h : ExO r a b) (k : ExO r b c) : ExO r a c := World.grownBy.trans h k
section
variable {P : Program} {md : Region.Mode} {ops : Array Oper} {Q : Exit → Act → World → Prop}
theorem reg_beginO (r : Option Nat) {id : Nat} {a : Act} {w : World} (hm : P.follows .mixedOrders = true)
    (h : ∀ w0, Hid (w0.heap = w.heap) → ExO r w w0 → ExO r w0 w0 → wpAnyH P .any ops (NoPanic Q) (ExO r w0) ops.size (Array.replicate ops.size false) a w0) : (Code.region id ops true).wp P Q a w :=
  wp_region_noPanic <| wp_region_held_drew (S := ExO r w.drew) hm (ExO.refl _ _) (fun _ => h w.drew (hid rfl) ⟨rfl, rfl, rfl, Nat.le_refl _, fun _ _ _ => rfl⟩ (ExO.refl _ _))
theorem reg_onO {r : Option Nat} {w w1 : World} {fuel : Nat} {listed : Array Bool} {a : Act} (h : ExO r w w1) (k : ExO r w1 w1 → wpAnyH P md ops Q (ExO r w1) fuel listed a w1) : wpAnyH P md ops Q (ExO r w) fuel listed a w1 :=
  held_weaken (fun _ h' => h.trans h') _ _ _ _ (k (ExO.refl _ _))
theorem reg_takeO (i : Nat) {r : Option Nat} {oi : Oper} {v : Value} {fuel : Nat} {listed : Array Bool} {a : Act} {w w1 : World} (hi : ops[i]? = some oi)
    (hs : Region.noSelect ops = true) (hf : Region.free md ops listed i = true) (hr : (Region.ready md ops listed).contains i = true)
    (hy : Region.wanted oi (yielded ops a.tmps) = true) (hv : ∀ w', ExO r w1 w' → (execOp a.eval oi).run P w' = .ok (.value v) w') (hS : ExO r w1 w)
    (h : wpAnyH P md ops (NoPanic Q) (ExO r w1) fuel (listed.setIfInBounds i true) (a.put oi.dst v) w) : wpAnyH P md ops (NoPanic Q) (ExO r w1) (fuel + 1) listed a w :=
  wpAnyH_take hi hs hf hr (fun _ _ _ h => h) (Or.inl ⟨hy, hv⟩) hS h
end
end Go.Proofs.YtaegencmnmjgbaaGreat

namespace Go.Proofs.YtaegencmnmjgbaaGreat
open Go.RowKit
set_option linter.unusedVariables false
set_option linter.unusedSimpArgs false
def FB (w : World) (b : Nat) (nm : ByteArray) (k g : Int) : Prop := w.heap[b]? = some (.cells #[.string nm, .int .i64 k, .int .i64 g] 68 (0, 0))
def VB (w : World) (b : Nat) (k n : Int) (t : ByteArray) : Prop := w.heap[b]? = some (.cells #[.int .i64 k, .int .u64 n, .string t] 71 (0, 0))
section
variable {w w' : World} {b B : Nat} {nm t : ByteArray} {k g n : Int}
theorem fb_new (w : World) (nm : ByteArray) (k g : Int) : FB (w.alloc (.cells #[.string nm, .int .i64 k, .int .i64 g] 68)) w.heap.size nm k g := heap_alloc_new w _
theorem vb_new (w : World) (k n : Int) (t : ByteArray) : VB (w.alloc (.cells #[.int .i64 k, .int .u64 n, .string t] 71)) w.heap.size k n t := heap_alloc_new w _
theorem fb_new2 (w : World) (o : Obj) (nm : ByteArray) (k g : Int) : FB ((w.alloc o).alloc (.cells #[.string nm, .int .i64 k, .int .i64 g] 68)) (w.heap.size + 1) nm k g := by
  have h := fb_new (w.alloc o) nm k g
  rwa [show (w.alloc o).heap.size = w.heap.size + 1 from World.size_alloc _ _] at h
theorem fb_new3 (w : World) (o o' : Obj) (nm : ByteArray) (k g : Int) : FB (((w.alloc o).alloc o').alloc (.cells #[.string nm, .int .i64 k, .int .i64 g] 68)) (w.heap.size + 1 + 1) nm k g := by
  have h := fb_new2 (w.alloc o) o' nm k g
  rwa [show (w.alloc o).heap.size = w.heap.size + 1 from World.size_alloc _ _] at h
theorem FB.lt (h : FB w b nm k g) : b < w.heap.size := row_lt h
theorem VB.lt (h : VB w b k n t) : b < w.heap.size := row_lt h
theorem FB.below (h : FB w b nm k g) (hb : Below B w w') (hlt : b < B) : FB w' b nm k g := (hb.block b hlt).trans h
theorem VB.below (h : VB w b k n t) (hb : Below B w w') (hlt : b < B) : VB w' b k n t := (hb.block b hlt).trans h
theorem FB.on (h : FB w b nm k g) (hb : Below w.heap.size w w') : FB w' b nm k g := h.below hb h.lt
theorem VB.on (h : VB w b k n t) (hb : Below w.heap.size w w') : VB w' b k n t := h.below hb h.lt
theorem FB.alloc (h : FB w b nm k g) (o : Obj) : FB (w.alloc o) b nm k g := h.on (B1 w o)
theorem VB.alloc (h : VB w b k n t) (o : Obj) : VB (w.alloc o) b k n t := h.on (B1 w o)
theorem FB.cells (h : FB w b nm k g) : w.cell? ⟨b, 0, none⟩ = some (.string nm) ∧ w.cell? ⟨b, 1, none⟩ = some (.int .i64 k) ∧ w.cell? ⟨b, 2, none⟩ = some (.int .i64 g) := ⟨row_cell h 0, row_cell h 1, row_cell h 2⟩
theorem VB.cells (h : VB w b k n t) : w.cell? ⟨b, 0, none⟩ = some (.int .i64 k) ∧ w.cell? ⟨b, 1, none⟩ = some (.int .u64 n) ∧ w.cell? ⟨b, 2, none⟩ = some (.string t) := ⟨row_cell h 0, row_cell h 1, row_cell h 2⟩
end
theorem rightF_no1 {vk n : Int} {m : Nat} {k g : Int} (h : mayF k g = false) : rightF vk n m k g = false := by simp [rightF, h]
theorem rightF_no2 {vk n : Int} {m : Nat} {k g : Int} (h : vk ≠ k) : rightF vk n m k g = false := by simp [rightF, h]
theorem rightF_12 {n : Int} {m : Nat} {g : Int} (h : mayF 12 g = true) : rightF 12 n m 12 g = (decide (n = 0) && decide ((m : Int) = g)) := by simp [rightF, h]
theorem rightF_no3 {n : Int} {m : Nat} {k g : Int} (h : k ≠ 12) (hm : m ≠ 0) : rightF k n m k g = false := by simp [rightF, h, hm]
theorem rightF_9 {n : Int} {g : Int} (h : mayF 9 g = true) : rightF 9 n 0 9 g = decide (n < 2) := by simp [rightF, h]
theorem rightF_hi {n : Int} {k g : Int} (h : mayF k g = true) (h1 : k ≠ 12) (h2 : 9 < k) : rightF k n 0 k g = true := by
  have : k ≠ 9 := by omega
  simp [rightF, h, h1, h2, this]
theorem rightF_lo {n : Int} {k g : Int} (h : mayF k g = true) (h2 : k < 9) : rightF k n 0 k g = fits n (longF k g) (decide (4 < k)) := by
  have : k ≠ 9 := by omega
  have h1 : k ≠ 12 := by omega
  have h3 : ¬ 9 < k := by omega
  simp [rightF, h, h1, h3, this]
theorem str_none {t : ByteArray} (h : t.size = 0) : t.toList = [] := by
  rw [ByteArray.toList_eq]; exact List.eq_nil_of_length_eq_zero (by simpa using h)
theorem str_some {t : ByteArray} (h : t.size ≠ 0) : t.toList.isEmpty = false := by
  rw [ByteArray.toList_eq]
  cases hl : t.data.toList with
  | nil => exact absurd (by have : t.data.toList.length = 0 := by rw [hl]; rfl
                            simpa using this) h
  | cons _ _ => rfl
end Go.Proofs.YtaegencmnmjgbaaGreat

namespace Go.Proofs.YtaegencmnmjgbaaGreat
open Go.RowKit
set_option linter.unusedVariables false
set_option linter.unusedSimpArgs false
section
variable {w w' : World} {b b' B : Nat} {nm t t' : ByteArray} {k g n n' k' : Int}
theorem VB.frozen (h : VB w b k n t) (i : Nat) : w.frozen? ⟨b, i, none⟩ = false := row_frozen h i
theorem VB.setText (h : VB w b k n t) (t' : ByteArray) : VB (w.setCell ⟨b, 2, none⟩ (.string t')) b k n t' := row_set h 2 _
theorem VB.setBits (h : VB w b k n t) (n' : Int) : VB (w.setCell ⟨b, 1, none⟩ (.int .u64 n')) b k n' t := row_set h 1 _
theorem VB.setKind (h : VB w b k n t) (k' : Int) : VB (w.setCell ⟨b, 0, none⟩ (.int .i64 k')) b k' n t := row_set h 0 _
theorem VB.other (h : VB w b k n t) (hne : b ≠ b') (i : Nat) (u : Value) : VB (w.setCell ⟨b', i, none⟩ u) b k n t := (Below.heap_setCell w ⟨b', i, none⟩ u b hne).trans h
theorem FB.other (h : FB w b nm k g) (hne : b ≠ b') (i : Nat) (u : Value) : FB (w.setCell ⟨b', i, none⟩ u) b nm k g := (Below.heap_setCell w ⟨b', i, none⟩ u b hne).trans h
end
theorem run_loadVB {w : World} {b : Nat} {k n : Int} {t : ByteArray} (h : VB w b k n t) : (loadVar 71 ⟨b, 0, none⟩).run Tryz.prog w = .ok (.agg #[.int .i64 k, .int .u64 n, .string t]) w :=
  run_loadVar_row w b 71 71 #[.int .i64 k, .int .u64 n, .string t] (0, 0) _ h Tryz.underlying71 rfl (by kernel_rfl)
theorem ret_VBe {fn : Func} {p u : Tmp} (hf : fn.results = #[.cell p 71, .tmp u]) {R : Ending → World → Prop} {a : Act} {w : World} {b : Nat} {k n : Int} {t : ByteArray} {x : Value} (hp : a.tmps.getD p undef = .pointer (some ⟨b, 0, none⟩)) (hv : VB w b k n t)
    (hx : a.tmps.getD u undef = x) (hd : a.defers = []) (hR : R (.returned (.tuple #[.agg #[.int .i64 k, .int .u64 n, .string t], x])) w) : bodyPost Tryz.prog fn R .ret a w :=
  bodyPost_ret_by (by rw [results_cell_tmp hf, hp, hx]; simp [asAddr, Result.andThen, run_loadVB hv]) hd hR
def zs (n : Nat) : ByteArray := ⟨(List.replicate n (0 : UInt8)).toArray⟩
theorem ext_at (X : List UInt8) (i j : Nat) : (⟨X.toArray⟩ : ByteArray).extract i j = ⟨((X.take j).drop i).toArray⟩ := by
  rw [ByteArray.extract_mk]
  simp [List.drop_take]
theorem longF_le8 {k : Int} (g : Int) (h12 : k ≠ 12) : longF k g ≤ 8 := by
  unfold longF; rw [if_neg h12]; unfold sizeOfKind; repeat' split
  all_goals omega
def encL (n : Int) (t : ByteArray) (k g : Int) : ByteArray := if k = 12 then t else ⟨((le n 8).take (longF k g).toNat).toArray⟩
def encT (vk n : Int) (t : ByteArray) (k g : Int) : ByteArray := if rightF vk n t.size k g then encL n t k g else ⟨#[]⟩
def encE (vk n : Int) (t : ByteArray) (k g : Int) : Int := if rightF vk n t.size k g then 0 else 50
end Go.Proofs.YtaegencmnmjgbaaGreat

namespace Go.Proofs.YtaegencmnmjgbaaGreat
open Go.RowKit
set_option linter.unusedVariables false
set_option linter.unusedSimpArgs false
def decN (k : Int) (l : List UInt8) : Int := if k = 12 then 0 else if 4 < k ∧ k < 9 then sgn (getN l 0 l.length) l.length else getN l 0 l.length
def decT (k : Int) (l : List UInt8) : ByteArray := if k = 12 then ⟨l.toArray⟩ else ⟨#[]⟩
def decB (l : List UInt8) (k g : Int) : Bool := rightF k (decN k l) (decT k l).size k g && decide ((encT k (decN k l) (decT k l) k g).toList = l)
def decR (l : List UInt8) (k g : Int) : Value := if decB l k g then .tuple #[.agg #[.int .i64 k, .int .u64 (decN k l), .string (decT k l)], .int .i64 0] else .tuple #[.agg #[.int .i64 0, .int .u64 0, .string ⟨#[]⟩], .int .i64 50]
theorem decR_ok {l : List UInt8} {k g : Int} (h : decB l k g = true) : decR l k g = .tuple #[.agg #[.int .i64 k, .int .u64 (decN k l), .string (decT k l)], .int .i64 0] := by simp [decR, h]
theorem decR_no {l : List UInt8} {k g : Int} (h : decB l k g = false) : decR l k g = .tuple #[.agg #[.int .i64 0, .int .u64 0, .string ⟨#[]⟩], .int .i64 50] := by simp [decR, h]
theorem getN_U64 (l : List UInt8) (a x : Int) : U64 (getN l a x) := by
  unfold getN; split
  · rename_i h
    have hw0 : isW x = true := by
      unfold holdsB at h
      rw [Bool.and_eq_true, Bool.and_eq_true] at h
      exact h.1.1
    have hw := isW_cases hw0
    have hb := num_bounds ((l.drop a.toNat).take x.toNat)
    have hle : ((l.drop a.toNat).take x.toNat).length ≤ 8 := by rw [List.length_take]; omega
    refine ⟨hb.1, Int.lt_of_lt_of_le hb.2 ?_⟩
    rw [pw8]
    have h8 : ∀ m : Nat, m ≤ 8 → pw (m : Int) ≤ 18446744073709551616 := by
      intro m hm
      have : m = 0 ∨ m = 1 ∨ m = 2 ∨ m = 3 ∨ m = 4 ∨ m = 5 ∨ m = 6 ∨ m = 7 ∨ m = 8 := by omega
      rcases this with rfl | rfl | rfl | rfl | rfl | rfl | rfl | rfl | rfl <;> decide
    exact h8 _ hle
  · exact ⟨by decide, by rw [pw8]; decide⟩
theorem decN_U64 (k : Int) (l : List UInt8) : U64 (decN k l) := by
  unfold decN; split
  · exact ⟨by decide, by rw [pw8]; decide⟩
  · split
    · exact sgn_U64 _ _ (getN_U64 _ _ _)
    · exact getN_U64 _ _ _
theorem vb_new2 (w : World) (o : Obj) (k n : Int) (t : ByteArray) : VB ((w.alloc o).alloc (.cells #[.int .i64 k, .int .u64 n, .string t] 71)) (w.heap.size + 1) k n t := by
  have h := vb_new (w.alloc o) k n t
  rwa [World.size_alloc] at h
theorem vb_new3 (w : World) (o o' : Obj) (k n : Int) (t : ByteArray) : VB (((w.alloc o).alloc o').alloc (.cells #[.int .i64 k, .int .u64 n, .string t] 71)) (w.heap.size + 1 + 1) k n t := by
  have h := vb_new2 (w.alloc o) o' k n t
  rwa [World.size_alloc] at h
end Go.Proofs.YtaegencmnmjgbaaGreat

namespace Go.Proofs.YtaegencmnmjgbaaGreat
open Go.RowKit
set_option linter.unusedVariables false
def I64 (k : Int) : Prop := (Lit.int .i64 k).wf = true
theorem i64_iff {k : Int} : I64 k ↔ -9223372036854775808 ≤ k ∧ k ≤ 9223372036854775807 := by
  simp [I64, Lit.wf, IntKind.min, IntKind.max, IntKind.bits, IntKind.signed]
def RdI (w : World) (B : Nat) (A : Option Addr) (n cap : Nat) (l : List Int) : Prop :=
  l.length = n ∧ n ≤ cap ∧ cap ≤ maxLen ∧ (∀ x ∈ l, I64 x) ∧
    (0 < n → ∃ b off, A = some ⟨b, off, none⟩ ∧ b < B ∧ ∀ i (h : i < l.length), w.cell? ⟨b, off + i, none⟩ = some (.int .i64 l[i]))
section
variable {w w' : World} {B B' n cap : Nat} {A : Option Addr} {l : List Int}
theorem RdI.below (h : RdI w B A n cap l) (hb : Below B w w') : RdI w' B A n cap l :=
  ⟨h.1, h.2.1, h.2.2.1, h.2.2.2.1, fun hn => by
    obtain ⟨b, off, e, hlt, hc⟩ := h.2.2.2.2 hn
    exact ⟨b, off, e, hlt, fun i hi => (hb.cell (p := ⟨b, off + i, none⟩) hlt).trans (hc i hi)⟩⟩
theorem RdI.more (h : RdI w B A n cap l) (hB : B ≤ B') : RdI w B' A n cap l :=
  ⟨h.1, h.2.1, h.2.2.1, h.2.2.2.1, fun hn => by
    obtain ⟨b, off, e, hlt, hc⟩ := h.2.2.2.2 hn
    exact ⟨b, off, e, by omega, hc⟩⟩
theorem RdI.on (h : RdI w w.heap.size A n cap l) (hb : Below w.heap.size w w') : RdI w' w'.heap.size A n cap l := (h.below hb).more hb.size
theorem RdI.nil (w : World) (B : Nat) : RdI w B none 0 0 [] := ⟨rfl, by omega, by simp [maxLen], by simp, fun h => by omega⟩
end
end Go.Proofs.YtaegencmnmjgbaaGreat

namespace Go.Proofs.YtaegencmnmjgbaaGreat
open Go.RowKit
set_option linter.unusedVariables false
abbrev bs (x : List UInt8) : ByteArray := ⟨x.toArray⟩
theorem bs_toList (x : List UInt8) : (bs x).toList = x := ByteArray.toList_mk x
def FdC (w : World) (b off : Nat) (f : Fd) : Prop := w.cell? ⟨b, off, none⟩ = some (.string (bs f.nm)) ∧ w.cell? ⟨b, off + 1, none⟩ = some (.int .i64 f.k) ∧ w.cell? ⟨b, off + 2, none⟩ = some (.int .i64 f.g)
def RdF (w : World) (B : Nat) (A : Option Addr) (n cap : Nat) (l : List Fd) : Prop :=
  l.length = n ∧ n ≤ cap ∧ cap ≤ maxLen ∧ (∀ f ∈ l, I64 f.k ∧ I64 f.g ∧ f.nm.length ≤ nmMax) ∧ (0 < n → ∃ b off, A = some ⟨b, off, none⟩ ∧ b < B ∧ ∀ i (h : i < l.length), FdC w b (off + i * 3) l[i])
section
variable {w w' : World} {B B' n cap : Nat} {A : Option Addr} {l : List Fd}
theorem FdC.below {b off : Nat} {f : Fd} (h : FdC w b off f) (hb : Below B w w') (hlt : b < B) : FdC w' b off f :=
  ⟨(hb.cell (p := ⟨b, off, none⟩) hlt).trans h.1, (hb.cell (p := ⟨b, off + 1, none⟩) hlt).trans h.2.1, (hb.cell (p := ⟨b, off + 2, none⟩) hlt).trans h.2.2⟩
theorem RdF.below (h : RdF w B A n cap l) (hb : Below B w w') : RdF w' B A n cap l :=
  ⟨h.1, h.2.1, h.2.2.1, h.2.2.2.1, fun hn => by
    obtain ⟨b, off, e, hlt, hc⟩ := h.2.2.2.2 hn
    exact ⟨b, off, e, hlt, fun i hi => (hc i hi).below hb hlt⟩⟩
theorem RdF.more (h : RdF w B A n cap l) (hB : B ≤ B') : RdF w B' A n cap l :=
  ⟨h.1, h.2.1, h.2.2.1, h.2.2.2.1, fun hn => by
    obtain ⟨b, off, e, hlt, hc⟩ := h.2.2.2.2 hn
    exact ⟨b, off, e, by omega, hc⟩⟩
theorem RdF.on (h : RdF w w.heap.size A n cap l) (hb : Below w.heap.size w w') : RdF w' w'.heap.size A n cap l := (h.below hb).more hb.size
theorem RdF.nil (w : World) (B : Nat) : RdF w B none 0 0 [] := ⟨rfl, by omega, by simp [maxLen], by simp, fun h => by omega⟩
theorem RdF.at (h : RdF w B A n cap l) {i : Nat} {f : Fd} (hi : l[i]? = some f) : i < n ∧ I64 f.k ∧ I64 f.g ∧ f.nm.length ≤ nmMax ∧ ∃ b off, A = some ⟨b, off, none⟩ ∧ ∀ w', Below B w w' → FdC w' b (off + i * 3) f := by
  have hl : i < l.length := by
    by_cases c : i < l.length
    · exact c
    · rw [List.getElem?_eq_none (by omega)] at hi; cases hi
  rw [List.getElem?_eq_getElem hl] at hi
  cases hi
  obtain ⟨b, off, e, hlt, hc⟩ := h.2.2.2.2 (by have := h.1; omega)
  obtain ⟨h1, h2, h3⟩ := h.2.2.2.1 _ (List.getElem_mem hl)
  exact ⟨by have := h.1; omega, h1, h2, h3, b, off, e, fun w' hb => (hc i hl).below hb hlt⟩
end
theorem bs_at {s : List UInt8} {j : Nat} (hj : j < s.length) (h : j < (bs s).size) : (bs s)[j] = s[j] := by
  show s.toArray[j]'(by simpa [ByteArray.size] using h) = _
  rw [List.getElem_toArray]
theorem name_take {s : List UInt8} {j : Nat} {c : UInt8} (hj : j < s.length) (hc : c = s[j]) (h : (s.take j).all chB = true) (hc2 : chB c = true) : (s.take (j + 1)).all chB = true := by
  rw [List.take_add_one, List.getElem?_eq_getElem hj, ← hc, List.all_append, h]; simp [hc2]
theorem name_no {s : List UInt8} {j : Nat} {c : UInt8} (hj : j < s.length) (hc : c = s[j]) (hc2 : chB c = false) : nameB s = false := by
  have : s.all chB = false := by
    cases h : s.all chB with
    | false => rfl
    | true => have := List.all_eq_true.1 h s[j] (List.getElem_mem hj); rw [← hc, hc2] at this; cases this
  simp [nameB, this]
theorem name_no0 {s : List UInt8} {c : UInt8} (hj : 0 < s.length) (hc : c = s[0]) (hc2 : ltB c = false) : nameB s = false := by
  have : s.head?.any ltB = false := by
    cases s with
    | nil => rfl
    | cons x s => simp at hc ⊢; rw [← hc]; exact hc2
  simp [nameB, this]
end Go.Proofs.YtaegencmnmjgbaaGreat

namespace Go.Proofs.YtaegencmnmjgbaaGreat
open Go.ChangeShapes Go.WideShapes Go.ChangeAt Go.RowKit Go.Deep
set_option linter.unusedVariables false
section
variable {H : Type} {enc : TypeId × Value → H} {W : World} {fuel : Nat} {x : DataW H × List MemPlace}
theorem f_one : Tryz.prog.cellsOf 3 = 1 := by kernel_rfl
theorem f_ones : Tryz.prog.cellsOf 9 = 1 := by kernel_rfl
theorem f_oneu : Tryz.prog.cellsOf 69 = 1 := by kernel_rfl
theorem f_fd : Tryz.prog.cellsOf 68 = 3 := by kernel_rfl
theorem f_vl : Tryz.prog.cellsOf 71 = 3 := by kernel_rfl
theorem bs_data (s : ByteArray) : bs s.data.toList = s := by unfold bs; simp
set_option maxRecDepth 20000 in
theorem fd_of_trod {cs : List Value} (h : DataW.trod enc Tryz.prog W 0 (fun _ => true) true fuel 68 cs = some x) :
    ∃ f : Fd, (I64 f.k ∧ I64 f.g) ∧ cs = [.string (bs f.nm), .int .i64 f.k, .int .i64 f.g] ∧ f.nm.length ∈ x.1.weights Tryz.prog 68 := by
  obtain ⟨xs, n, _, hx, hlen, hxl, hf⟩ := DataW.trod_struct Tryz.underlying68 h
  rw [f_fd] at hlen
  match cs, hlen with
  | [c0, c1, c2], _ =>
    match xs, hxl with
    | [y0, y1, y2], _ =>
      have g0 : DataW.trod enc Tryz.prog W 0 (fun _ => true) true n 9 (List.take (Tryz.prog.cellsOf 9) (List.drop 0 [c0, c1, c2])) = some y0 := hf 0 _ rfl
      rw [f_ones] at g0
      change DataW.trod enc Tryz.prog W 0 (fun _ => true) true n 9 [c0] = some y0 at g0
      have g1 : DataW.trod enc Tryz.prog W 0 (fun _ => true) true n 3 (List.take (Tryz.prog.cellsOf 3) (List.drop 1 [c0, c1, c2])) = some y1 := hf 1 _ rfl
      rw [f_one] at g1
      change DataW.trod enc Tryz.prog W 0 (fun _ => true) true n 3 [c1] = some y1 at g1
      have g2 : DataW.trod enc Tryz.prog W 0 (fun _ => true) true n 3 (List.take (Tryz.prog.cellsOf 3) (List.drop 2 [c0, c1, c2])) = some y2 := hf 2 _ rfl
      rw [f_one] at g2
      change DataW.trod enc Tryz.prog W 0 (fun _ => true) true n 3 [c2] = some y2 at g2
      obtain ⟨a0, q0, e0, w0⟩ := DataW.trod_string Tryz.underlying9 g0
      obtain ⟨a1, q1, _, w1⟩ := DataW.trod_int Tryz.underlying3 g1
      obtain ⟨a2, q2, _, w2⟩ := DataW.trod_int Tryz.underlying3 g2
      simp at q0 q1 q2
      subst q0; subst q1; subst q2
      refine ⟨⟨a0.data.toList, a1, a2⟩, ⟨w1, w2⟩, by rw [bs_data], ?_⟩
      rw [hx, e0]
      simp [DataW.weights, Tryz.underlying68, DataW.weightsEach]
set_option maxRecDepth 20000 in
theorem rdF_of_trod {v : Value} (h : DataW.trod enc Tryz.prog W 0 (fun _ => true) true fuel 32 [v] = some x) (hz : ∀ n ∈ x.1.weights Tryz.prog 32, n ≤ reachBytes) : ∃ a len cap l, v = .slice a len cap ∧ RdF W W.heap.size a len cap l := by
  rcases open_slice Tryz.underlying32 h with ⟨hcs, _⟩ | ⟨a, len, cap, m, n, D, Pl, hcs, _, hl, hm, hmm, hx, hi⟩
  · simp at hcs
    exact ⟨none, 0, 0, [], hcs, RdF.nil _ _⟩
  · simp at hcs
    have hmc : m = cap := by simpa using hmm
    rw [f_fd] at hi
    have hch : ∀ i, i < len → ∃ o : Fd, ((I64 o.k ∧ I64 o.g) ∧ o.nm.length ≤ nmMax) ∧ ∃ cs', W.cells? 0 (a.add (i * 3)) 3 = some cs' ∧ cs' = [.string (bs o.nm), .int .i64 o.k, .int .i64 o.g] := by
      intro i hil
      obtain ⟨cs', hc, ht⟩ := hi i (by omega)
      obtain ⟨o, ho, e, hwt⟩ := fd_of_trod ht
      refine ⟨o, ⟨ho, ?_⟩, cs', hc, e⟩
      refine hz _ ?_
      rw [hx]
      have hin : ∀ (l : List (DataW H)) (d : DataW H) (k : Nat), d ∈ l → k ∈ d.weights Tryz.prog 68 → k ∈ DataW.weightsAll Tryz.prog 68 l := by
        intro l
        induction l with
        | nil => intro d k hd; cases hd
        | cons y l ih =>
          intro d k hd hk
          simp only [DataW.weightsAll, List.mem_append]
          rcases List.mem_cons.1 hd with rfl | hd
          · exact .inl hk
          · exact .inr (ih d k hd hk)
      simp only [DataW.weights, Tryz.underlying32, List.mem_cons, List.mem_append]
      exact .inr (.inl (hin _ (D i) _ (List.mem_map.2 ⟨i, List.mem_range.2 hil, rfl⟩) hwt))
    have hex : ∃ f : Nat → Fd, ∀ i, i < len → ((I64 (f i).k ∧ I64 (f i).g) ∧ (f i).nm.length ≤ nmMax) ∧ ∃ cs', W.cells? 0 (a.add (i * 3)) 3 = some cs' ∧ cs' = [.string (bs (f i).nm), .int .i64 (f i).k, .int .i64 (f i).g] := by
      refine ⟨fun i => if hi : i < len then (hch i hi).choose else ⟨[], 0, 0⟩, fun i hi => ?_⟩
      simp only [hi, dif_pos]
      exact (hch i hi).choose_spec
    obtain ⟨f, hf⟩ := hex
    refine ⟨some a, len, cap, (List.range len).map f, hcs, by simp, hl, hm, ?_, fun hn => ?_⟩
    · intro o ho
      obtain ⟨i, hi, rfl⟩ := List.mem_map.1 ho
      obtain ⟨⟨⟨h1, h2⟩, h3⟩, _⟩ := hf i (List.mem_range.1 hi)
      exact ⟨h1, h2, h3⟩
    · obtain ⟨b, off, spot⟩ := a
      have hcell : ∀ i, i < len → ∀ j, j < 3 → W.cell? ((Addr.mk b off spot).add (i * 3 + j)) = [Value.string (bs (f i).nm), .int .i64 (f i).k, .int .i64 (f i).g][j]? := by
        intro i hi j hj
        obtain ⟨_, cs', hc, e⟩ := hf i hi
        obtain ⟨_, _, hat⟩ := World.cells?_some hc
        have := hat j hj
        rw [Go.Deep.add_add, e] at this
        exact this
      have h0 := hcell 0 hn 0 (by omega)
      have hspot : spot = none := by
        have := World.cell?_spot (v := .string (bs (f 0).nm)) (by simpa using h0)
        simpa [Addr.add] using this
      subst hspot
      refine ⟨b, off, rfl, ?_, fun i hi => ?_⟩
      · simp only [add_plain] at h0
        by_cases hb : b < W.heap.size
        · exact hb
        · simp [World.cell?, Array.getElem?_eq_none (show W.heap.size ≤ b by omega)] at h0
      · simp at hi
        have c := fun j hj => hcell i hi j hj
        simp only [add_plain] at c
        have c0 := c 0 (by omega); have c1 := c 1 (by omega); have c2 := c 2 (by omega)
        simp only [List.getElem_map, List.getElem_range]
        refine ⟨by simpa using c0, ?_, ?_⟩
        · rw [Nat.add_assoc]; simpa using c1
        · rw [Nat.add_assoc]; simpa using c2
end
end Go.Proofs.YtaegencmnmjgbaaGreat
