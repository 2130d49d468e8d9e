/-
  The document's Refs and Get of layer 6.
  The document's Get of layer 6.
  The document's Set of layer 6.
  The document's Encode of layer 6; the bytes of fields: mathematics.
  The bytes of fields, read: mathematics; rows of fields of the call's own; the document's Decode of layer 6.
-/
import Derived.Test.YtaegencmnmjgbaaGreatM17
import Derived.Test.YtaegencmnmjgbaaGreatM3

namespace Go.Proofs.YtaegencmnmjgbaaGreat
open Go.RowKit
set_option linter.unusedVariables false
theorem layL_right {l : List Fd} (h : rightL l = true) : layL l = layP 0 l := by unfold layL; rw [h]; rfl
theorem layT_right {l : List Fd} (h : rightL l = true) : layT l = layN l := by unfold layT; rw [h]; rfl
theorem layL_wrong {l : List Fd} (h : rightL l = false) : layL l = [] := by unfold layL; rw [h]; rfl
theorem layT_wrong {l : List Fd} (h : rightL l = false) : layT l = 0 := by unfold layT; rw [h]; rfl
theorem layT_bd (l : List Fd) : 0 ≤ layT l ∧ layT l ≤ 1160 := by
  cases hr : rightL l with
  | false => rw [layT_wrong hr]; omega
  | true => rw [layT_right hr]; have := layN_bounds hr; omega
end Go.Proofs.YtaegencmnmjgbaaGreat

namespace Go.Proofs.YtaegencmnmjgbaaGreat
open Go.RowKit
set_option linter.unusedVariables false
def getR (s : List UInt8) (l : List Fd) (nm : List UInt8) : Value :=
  if rightL l = true ∧ (s.length : Int) = layN l then
    match findN l nm with
    | none => .tuple #[.agg #[.int .i64 0, .int .u64 0, .string ⟨#[]⟩], .int .i64 61]
    | some i => match l[i]?, (layP 0 l)[i]? with
      | some f, some p => decR ((s.drop p.toNat).take f.long.toNat) f.k f.g
      | _, _ => undef
  else .tuple #[.agg #[.int .i64 0, .int .u64 0, .string ⟨#[]⟩], .int .i64 60]
theorem getR_form {s : List UInt8} {l : List Fd} {nm : List UInt8} (h : ¬ (rightL l = true ∧ (s.length : Int) = layN l)) : getR s l nm = .tuple #[.agg #[.int .i64 0, .int .u64 0, .string ⟨#[]⟩], .int .i64 60] := by unfold getR; rw [if_neg h]
theorem getR_none {s : List UInt8} {l : List Fd} {nm : List UInt8} (h : rightL l = true ∧ (s.length : Int) = layN l) (hf : findN l nm = none) : getR s l nm = .tuple #[.agg #[.int .i64 0, .int .u64 0, .string ⟨#[]⟩], .int .i64 61] := by unfold getR; rw [if_pos h, hf]
theorem getR_some {s : List UInt8} {l : List Fd} {nm : List UInt8} (h : rightL l = true ∧ (s.length : Int) = layN l) {i : Nat} {f : Fd} {p : Int} (hf : findN l nm = some i) (hi : l[i]? = some f) (hp : (layP 0 l)[i]? = some p) : getR s l nm = decR ((s.drop p.toNat).take f.long.toNat) f.k f.g := by
  unfold getR; rw [if_pos h, hf]; simp only [hi, hp]
theorem VB.set3 {w : World} {b : Nat} {k n : Int} {t : ByteArray} (h : VB w b k n t) (k' n' : Int) (t' : ByteArray) : VB (((w.setCell ⟨b, 0, none⟩ (.int .i64 k')).setCell ⟨b, 1, none⟩ (.int .u64 n')).setCell ⟨b, 2, none⟩ (.string t')) b k' n' t' := ((h.setKind k').setBits n').setText t'
theorem B3 {B b : Nat} {w w' : World} (h : Below B w w') (hb : B ≤ b) (x y z : Value) : Below B w (((w'.setCell ⟨b, 0, none⟩ x).setCell ⟨b, 1, none⟩ y).setCell ⟨b, 2, none⟩ z) := ((h.setCell hb _).setCell hb _).setCell hb _
theorem ExO.of {r : Option Nat} {w w' : World} (h : Below w.heap.size w w') : ExO r w w' := ⟨h.os, h.tape, h.output, h.size, fun i hi _ => h.block i hi⟩
theorem ExO.set3 {r b : Nat} {w : World} (e : r = b) (x y z : Value) : ExO (some r) w (((w.setCell ⟨b, 0, none⟩ x).setCell ⟨b, 1, none⟩ y).setCell ⟨b, 2, none⟩ z) := by
  subst e; exact grown_set (grown_set (grown_set (grown_refl w (some r)) 0 x) 1 y) 2 z
end Go.Proofs.YtaegencmnmjgbaaGreat

namespace Go.Proofs.YtaegencmnmjgbaaGreat
open Go.RowKit
set_option linter.unusedVariables false
def encB (vk n : Int) (t : ByteArray) (k g : Int) : List UInt8 := (encT vk n t k g).data.toList
theorem encB_eq (vk n : Int) (t : ByteArray) (k g : Int) : encT vk n t k g = bs (encB vk n t k g) := by
  unfold encB bs; simp
theorem encB_length {vk n : Int} {t : ByteArray} {k g : Int} (h : rightF vk n t.size k g = true) : ((encB vk n t k g).length : Int) = longF k g := by
  have hm : mayF k g = true := by
    have h1 := h
    unfold rightF at h1
    simp only [Bool.and_eq_true] at h1
    exact h1.1.1
  unfold encB encT
  rw [if_pos h]
  unfold encL
  by_cases h12 : k = 12
  · subst h12
    rw [if_pos rfl]
    have hl : longF 12 g = g := by unfold longF; rw [hm]; rfl
    have h2 : (t.size : Int) = g := by
      unfold rightF at h
      simp only [Bool.and_eq_true, if_true, decide_eq_true_eq] at h
      exact h.2.2
    rw [hl, ← h2]
    rfl
  · rw [if_neg h12]
    have h8 := longF_le8 g h12
    have h0 := longF_nonneg k g
    show ((((le n 8).take (longF k g).toNat).length : Nat) : Int) = _
    rw [List.length_take, le_length]; omega
def setS6 (s : List UInt8) (l : List Fd) (nm : List UInt8) (vk n : Int) (t : ByteArray) : List UInt8 × Int :=
  if rightL l = true ∧ (s.length : Int) = layN l then
    match findN l nm with
    | none => ([], 61)
    | some i => match l[i]?, (layP 0 l)[i]? with
      | some f, some p => if rightF vk n t.size f.k f.g then (setL s p.toNat (encB vk n t f.k f.g), 0) else ([], 50)
      | _, _ => ([], 0)
  else ([], 60)
section
variable {s : List UInt8} {l : List Fd} {nm : List UInt8} {vk n : Int} {t : ByteArray}
theorem set_form (h : ¬ (rightL l = true ∧ (s.length : Int) = layN l)) : setS6 s l nm vk n t = ([], 60) := by unfold setS6; rw [if_neg h]
theorem set_none (h : rightL l = true ∧ (s.length : Int) = layN l) (hf : findN l nm = none) : setS6 s l nm vk n t = ([], 61) := by unfold setS6; rw [if_pos h, hf]
theorem set_some (h : rightL l = true ∧ (s.length : Int) = layN l) {i : Nat} {f : Fd} {p : Int} (hf : findN l nm = some i) (hi : l[i]? = some f) (hp : (layP 0 l)[i]? = some p) : setS6 s l nm vk n t = if rightF vk n t.size f.k f.g then (setL s p.toNat (encB vk n t f.k f.g), 0) else ([], 50) := by
  unfold setS6; rw [if_pos h, hf]; simp only [hi, hp]
end
def SetQ (w : World) (r : List UInt8 × Int) (e : Ending) (w' : World) : Prop := e = .returned (.tuple #[.string (bs r.1), .int .i64 r.2]) ∧ Below w.heap.size w w'
end Go.Proofs.YtaegencmnmjgbaaGreat

namespace Go.Proofs.YtaegencmnmjgbaaGreat
open Go.RowKit
set_option linter.unusedVariables false
theorem u64_id {x : Int} (h0 : 0 ≤ x) (h : x < 18446744073709551616) : IntKind.u64.wrap x = x := by rw [IntKind.wrap_u64]; omega
theorem rput1 (n : Int) (h0 : 0 ≤ n) (h : n < 256) : rputL n 1 = le n 1 := by
  unfold rputL; rw [if_pos (by simp [fits, show isW 1 = true from rfl, pw1]; omega)]; rfl
def encF (f : Fd) : List UInt8 := le f.nm.length 1 ++ f.nm ++ le f.k 1 ++ le f.g 1
def encP (l : List Fd) : List UInt8 := (l.map encF).flatten
def encA (l : List Fd) : List UInt8 := le l.length 1 ++ encP l
theorem encF_length (f : Fd) : (encF f).length = f.nm.length + 3 := by unfold encF; simp only [List.length_append, le_length]; omega
theorem encP_take {l : List Fd} {i : Nat} {f : Fd} (h : l[i]? = some f) : encP (l.take (i + 1)) = encP (l.take i) ++ encF f := by
  unfold encP; rw [List.take_add_one, h]; simp
theorem name_len {s : List UInt8} (h : nameB s = true) : 1 ≤ s.length ∧ s.length ≤ 15 := by
  unfold nameB at h; simp only [Bool.and_eq_true, decide_eq_true_eq] at h; omega
theorem right_at {l : List Fd} (h : rightL l = true) {i : Nat} {f : Fd} (hi : l[i]? = some f) : 1 ≤ f.nm.length ∧ f.nm.length ≤ 15 ∧ 0 ≤ f.k ∧ f.k ≤ 12 ∧ 0 ≤ f.g ∧ f.g ≤ 64 := by
  obtain ⟨h1, h2, h3⟩ := (rightL_iff.1 h).2 i f hi
  have h4 := name_len h1
  unfold Fd.may at h2
  by_cases c : f.k = 12
  · rw [c] at h2; have := may12 h2; omega
  · have := may_cases h2 c; omega
theorem encP_len {l : List Fd} (h : rightL l = true) : ∀ j, j ≤ l.length → (encP (l.take j)).length ≤ 18 * j := by
  intro j
  induction j with
  | zero => intro _; simp [encP]
  | succ j ih =>
    intro hj
    have hi : l[j]? = some l[j] := List.getElem?_eq_getElem (by omega)
    rw [encP_take hi, List.length_append, encF_length]
    have := ih (by omega)
    have := right_at h hi
    omega
def encE6 (l : List Fd) : List UInt8 × Int := if rightL l then (encA l, 0) else ([], 60)
set_option maxRecDepth 20000 in
set_option maxHeartbeats 4000000 in
theorem r6encode_any {w : World} {A : Option Addr} {m c : Nat} {l : List Fd} (h : RdF w w.heap.size A m c l) (hs : short l) :
    Calls Tryz.prog 112 #[.slice A m c] w (SetQ w (encE6 l)) := by
  have HL := hid h.1
  have H := hid h; have HS := hid hs; clear h hs
  cases hr : rightL l with
  | false =>
    have HE : Hid (encE6 l = ([], 60)) := by show _ = _; unfold encE6; rw [hr]; rfl
    have HR := hid hr
    clear hr
    go_enter Tryz.func112, Tryz.ntmps112
    go_wp2_with fail
    refine (r6right_any H.out HS.out).mono ?_
    rintro e w1 ⟨rfl, hb1⟩
    rw [HR.out]
    go_wp2_with fail
    go_ret2
    exact ⟨by rw [HE.out]; rfl, hb1⟩
  | true =>
    have HE : Hid (encE6 l = (encA l, 0)) := by show _ = _; unfold encE6; rw [hr]; rfl
    have HR := hid hr
    have hm16 : m ≤ 16 := by have := right_len hr; have := HL.out; omega
    have hm16i : (m : Int) ≤ 16 := by omega
    have HU0 : Hid (U64 (m : Int)) := ⟨by omega, by rw [pw8]; omega⟩
    have e0 : IntKind.u64.wrap (m : Int) = m := u64_id (by omega) (by omega)
    obtain ⟨p0, hp0⟩ : ∃ p0, p0 = le (m : Int) 1 := ⟨_, rfl⟩
    have HP0 : Hid (rputL (m : Int) 1 = p0) := by rw [hp0]; exact rput1 _ (by omega) (by omega)
    have hp01 : p0.length = 1 := by rw [hp0]; exact le_length _ _
    have HPP := hid hp0
    clear hr hp0
    go_enter Tryz.func112, Tryz.ntmps112
    go_wp2_with fail
    refine (r6right_any H.out HS.out).mono ?_
    rintro e w1 ⟨rfl, hb1⟩
    rw [HR.out]
    have HB1 := hid hb1; clear hb1
    go_wp2_with fail
    refine (rput_any 1 (m : Int) _ HU0.out).mono ?_
    rintro e w2 ⟨rfl, hb2⟩
    rw [HP0.out]
    have HB2 := hid (Bt HB1.out hb2); clear hb2
    go_wp2_with fail
    go_loopw [4, 5] (fun v i wr => ∃ (j : Nat) (X : List UInt8), j ≤ m ∧ i = .int .i64 j ∧ v = .string ⟨X.toArray⟩ ∧ Hid (X = p0 ++ encP (l.take j)) ∧ Hid (Below w.heap.size w wr)) (fun _ i _ => m - (intOf i).toNat)
    case atStart => exact ⟨0, p0, by omega, rfl, rfl, hid (by simp [encP]), HB2⟩
    case round =>
      obtain ⟨j, X, hj, rfl, rfl, HX, HB⟩ := hrel
      by_cases hlt : j < m
      · have hjl : j < l.length := by have := HL.out; omega
        obtain ⟨f, hf⟩ : ∃ f, l[j]? = some f := ⟨_, List.getElem?_eq_getElem hjl⟩
        obtain ⟨_, hk64, hg64, hnl, b, off, rfl, hc⟩ := H.out.at hf
        clear hk64 hg64 hnl
        obtain ⟨a1, a2, a3, a4, a5, a6⟩ := right_at HR.out hf
        have HF := hid hf; have HC := hid hc
        have hXl : X.length ≤ 400 := by
          rw [HX.out, List.length_append, hp01]
          have := encP_len HR.out j (by omega)
          omega
        have e1 : IntKind.u64.wrap (f.nm.length : Int) = (f.nm.length : Int) := u64_id (by omega) (by omega)
        have e2 : IntKind.u64.wrap f.k = f.k := u64_id a3 (by omega)
        have e3 : IntKind.u64.wrap f.g = f.g := u64_id a5 (by omega)
        have HU1 : Hid (U64 (f.nm.length : Int)) := ⟨by omega, by rw [pw8]; omega⟩
        have HU2 : Hid (U64 f.k) := ⟨a3, by rw [pw8]; omega⟩
        have HU3 : Hid (U64 f.g) := ⟨a5, by rw [pw8]; omega⟩
        obtain ⟨p, hp⟩ : ∃ p, p = le (f.nm.length : Int) 1 := ⟨_, rfl⟩
        obtain ⟨q, hq⟩ : ∃ q, q = le f.k 1 := ⟨_, rfl⟩
        obtain ⟨r, hr⟩ : ∃ r, r = le f.g 1 := ⟨_, rfl⟩
        have HP1 : Hid (rputL (f.nm.length : Int) 1 = p) := by rw [hp]; exact rput1 _ (by omega) (by omega)
        have HP2 : Hid (rputL f.k 1 = q) := by rw [hq]; exact rput1 _ (by omega) (by omega)
        have HP3 : Hid (rputL f.g 1 = r) := by rw [hr]; exact rput1 _ (by omega) (by omega)
        have hp1 : p.length = 1 := by rw [hp]; exact le_length _ _
        have hq1 : q.length = 1 := by rw [hq]; exact le_length _ _
        have hr1 : r.length = 1 := by rw [hr]; exact le_length _ _
        have HENC : Hid (encF f = p ++ f.nm ++ q ++ r) := by rw [hp, hq, hr]; rfl
        obtain ⟨nmf, hnmf⟩ : ∃ nmf, nmf = f.nm := ⟨_, rfl⟩
        have z1 : ¬ 9223372036854775807 < X.length + 1 := by omega
        have z2 : ¬ 9223372036854775807 < X.length + 1 + f.nm.length := by omega
        have z3 : ¬ 9223372036854775807 < X.length + 1 + f.nm.length + 1 := by omega
        have z4 : ¬ 9223372036854775807 < X.length + 1 + f.nm.length + 1 + 1 := by omega
        have hji : (j : Int) < m := by omega
        have hj0 : (0 : Int) ≤ j := by omega
        have hbz := HB.out.size
        clear hc hf hp hq hr hjl hnmf
        go_wp2_with fail
        refine reg_begin (by kernel_rfl) (fun w0a hx0a hHeld => ?_)
        have pf : ∀ w', Ext w0a w' → FdC w' b (off + j * 3) f := fun w' h => HC.out w' (HB.out.trans ((hx0a.trans h).mono hbz))
        have pf0 := fun w' h => (pf w' h).1
        have pf1 := fun w' h => (pf w' h).2.1
        have pf2 := fun w' h => (pf w' h).2.2
        clear pf
        refine reg_take 0 (v := ?vb0) at0 (by kernel_rfl) (by kernel_rfl) (by kernel_rfl) (by rfl) ?hyb0 hHeld ?restb0
        case hyb0 => (intro w' hSw; go_simp; try with_reducible rfl)
        try simp only [Act.put, List.setIfInBounds_toArray, List.set_cons_zero, List.set_cons_succ]
        refine reg_take 1 (v := ?vb1) (atS at0) (by kernel_rfl) (by kernel_rfl) (by kernel_rfl) (by rfl) ?hyb1 hHeld ?restb1
        case hyb1 => (intro w' hSw; go_simp; try with_reducible rfl)
        try simp only [Act.put, List.setIfInBounds_toArray, List.set_cons_zero, List.set_cons_succ]
        refine reg_take 2 (v := ?vb2) (atS (atS at0)) (by kernel_rfl) (by kernel_rfl) (by kernel_rfl) (by rfl) ?hyb2 hHeld ?restb2
        case hyb2 => (intro w' hSw; go_simp; try with_reducible rfl)
        try simp only [Act.put, List.setIfInBounds_toArray, List.set_cons_zero, List.set_cons_succ]
        refine reg_take 3 (v := ?vb3) (atS (atS (atS at0))) (by kernel_rfl) (by kernel_rfl) (by kernel_rfl) (by rfl) ?hyb3 hHeld ?restb3
        case hyb3 => (intro w' hSw; go_simp; try with_reducible rfl)
        try simp only [Act.put, List.setIfInBounds_toArray, List.set_cons_zero, List.set_cons_succ]
        refine reg_take 4 (v := ?vb4) (atS (atS (atS (atS at0)))) (by kernel_rfl) (by kernel_rfl) (by kernel_rfl) (by rfl) ?hyb4 hHeld ?restb4
        case hyb4 => (intro w' hSw; go_simp; try with_reducible rfl)
        try simp only [Act.put, List.setIfInBounds_toArray, List.set_cons_zero, List.set_cons_succ]
        refine reg_take 5 (v := ?vb5) (atS5 at0) (by kernel_rfl) (by kernel_rfl) (by kernel_rfl) (by rfl) ?hyb5 hHeld ?restb5
        case hyb5 => (intro w' hSw; go_simp; try with_reducible rfl)
        try simp only [Act.put, List.setIfInBounds_toArray, List.set_cons_zero, List.set_cons_succ]
        refine reg_take 6 (v := ?vb6) (atS5 (atS at0)) (by kernel_rfl) (by kernel_rfl) (by kernel_rfl) (by rfl) ?hyb6 hHeld ?restb6
        case hyb6 => (intro w' hSw; go_simp; try with_reducible rfl)
        try simp only [Act.put, List.setIfInBounds_toArray, List.set_cons_zero, List.set_cons_succ]
        refine reg_take 7 (v := ?vb7) (atS5 (atS (atS at0))) (by kernel_rfl) (by kernel_rfl) (by kernel_rfl) (by rfl) ?hyb7 hHeld ?restb7
        case hyb7 => (intro w' hSw; go_simp; try with_reducible rfl)
        try simp only [Act.put, List.setIfInBounds_toArray, List.set_cons_zero, List.set_cons_succ]
        refine reg_take 10 (v := ?vb10) (atS5 (atS5 at0)) (by kernel_rfl) (by kernel_rfl) (by kernel_rfl) (by rfl) ?hyb10 hHeld ?restb10
        case hyb10 => (intro w' hSw; go_simp; try with_reducible rfl)
        try simp only [Act.put, List.setIfInBounds_toArray, List.set_cons_zero, List.set_cons_succ]
        refine reg_take 11 (v := ?vb11) (atS5 (atS5 (atS at0))) (by kernel_rfl) (by kernel_rfl) (by kernel_rfl) (by rfl) ?hyb11 hHeld ?restb11
        case hyb11 => (intro w' hSw; go_simp; try with_reducible rfl)
        try simp only [Act.put, List.setIfInBounds_toArray, List.set_cons_zero, List.set_cons_succ]
        refine reg_take 12 (v := ?vb12) (atS5 (atS5 (atS (atS at0)))) (by kernel_rfl) (by kernel_rfl) (by kernel_rfl) (by rfl) ?hyb12 hHeld ?restb12
        case hyb12 => (intro w' hSw; go_simp; try with_reducible rfl)
        try simp only [Act.put, List.setIfInBounds_toArray, List.set_cons_zero, List.set_cons_succ]
        refine reg_take 13 (v := ?vb13) (atS5 (atS5 (atS (atS (atS at0))))) (by kernel_rfl) (by kernel_rfl) (by kernel_rfl) (by rfl) ?hyb13 hHeld ?restb13
        case hyb13 => (intro w' hSw; go_simp; try with_reducible rfl)
        try simp only [Act.put, List.setIfInBounds_toArray, List.set_cons_zero, List.set_cons_succ]
        refine reg_take 14 (v := ?vb14) (atS5 (atS5 (atS (atS (atS (atS at0)))))) (by kernel_rfl) (by kernel_rfl) (by kernel_rfl) (by rfl) ?hyb14 hHeld ?restb14
        case hyb14 => (intro w' hSw; go_simp; try with_reducible rfl)
        try simp only [Act.put, List.setIfInBounds_toArray, List.set_cons_zero, List.set_cons_succ]
        refine reg_take 16 (v := ?vb16) (atS5 (atS5 (atS5 (atS at0)))) (by kernel_rfl) (by kernel_rfl) (by kernel_rfl) (by rfl) ?hyb16 hHeld ?restb16
        case hyb16 => (intro w' hSw; go_simp; try with_reducible rfl)
        try simp only [Act.put, List.setIfInBounds_toArray, List.set_cons_zero, List.set_cons_succ]
        refine reg_take 17 (v := ?vb17) (atS5 (atS5 (atS5 (atS (atS at0))))) (by kernel_rfl) (by kernel_rfl) (by kernel_rfl) (by rfl) ?hyb17 hHeld ?restb17
        case hyb17 => (intro w' hSw; go_simp; try with_reducible rfl)
        try simp only [Act.put, List.setIfInBounds_toArray, List.set_cons_zero, List.set_cons_succ]
        refine reg_take 18 (v := ?vb18) (atS5 (atS5 (atS5 (atS (atS (atS at0)))))) (by kernel_rfl) (by kernel_rfl) (by kernel_rfl) (by rfl) ?hyb18 hHeld ?restb18
        case hyb18 => (intro w' hSw; go_simp; try with_reducible rfl)
        try simp only [Act.put, List.setIfInBounds_toArray, List.set_cons_zero, List.set_cons_succ]
        refine reg_take 19 (v := ?vb19) (atS5 (atS5 (atS5 (atS (atS (atS (atS at0))))))) (by kernel_rfl) (by kernel_rfl) (by kernel_rfl) (by rfl) ?hyb19 hHeld ?restb19
        case hyb19 => (intro w' hSw; go_simp; try with_reducible rfl)
        try simp only [Act.put, List.setIfInBounds_toArray, List.set_cons_zero, List.set_cons_succ]
        refine reg_take 20 (v := ?vb20) (atS5 (atS5 (atS5 (atS5 at0)))) (by kernel_rfl) (by kernel_rfl) (by kernel_rfl) (by rfl) ?hyb20 hHeld ?restb20
        case hyb20 => (intro w' hSw; go_simp; try with_reducible rfl)
        try simp only [Act.put, List.setIfInBounds_toArray, List.set_cons_zero, List.set_cons_succ]
        refine reg_take 21 (v := ?vb21) (atS5 (atS5 (atS5 (atS5 (atS at0))))) (by kernel_rfl) (by kernel_rfl) (by kernel_rfl) (by rfl) ?hyb21 hHeld ?restb21
        case hyb21 => (intro w' hSw; go_simp; try with_reducible rfl)
        try simp only [Act.put, List.setIfInBounds_toArray, List.set_cons_zero, List.set_cons_succ]
        refine reg_take 24 (v := ?vb24) (atS5 (atS5 (atS5 (atS5 (atS (atS (atS (atS at0)))))))) (by kernel_rfl) (by kernel_rfl) (by kernel_rfl) (by rfl) ?hyb24 hHeld ?restb24
        case hyb24 => (intro w' hSw; go_simp; try with_reducible rfl)
        try simp only [Act.put, List.setIfInBounds_toArray, List.set_cons_zero, List.set_cons_succ]
        refine reg_take 25 (v := ?vb25) (atS5 (atS5 (atS5 (atS5 (atS5 at0))))) (by kernel_rfl) (by kernel_rfl) (by kernel_rfl) (by rfl) ?hyb25 hHeld ?restb25
        case hyb25 => (intro w' hSw; go_simp; try with_reducible rfl)
        try simp only [Act.put, List.setIfInBounds_toArray, List.set_cons_zero, List.set_cons_succ]
        refine reg_take 26 (v := ?vb26) (atS5 (atS5 (atS5 (atS5 (atS5 (atS at0)))))) (by kernel_rfl) (by kernel_rfl) (by kernel_rfl) (by rfl) ?hyb26 hHeld ?restb26
        case hyb26 => (intro w' hSw; go_simp; try with_reducible rfl)
        try simp only [Act.put, List.setIfInBounds_toArray, List.set_cons_zero, List.set_cons_succ]
        refine reg_take 27 (v := ?vb27) (atS5 (atS5 (atS5 (atS5 (atS5 (atS (atS at0))))))) (by kernel_rfl) (by kernel_rfl) (by kernel_rfl) (by rfl) ?hyb27 hHeld ?restb27
        case hyb27 => (intro w' hSw; go_simp; try with_reducible rfl)
        try simp only [Act.put, List.setIfInBounds_toArray, List.set_cons_zero, List.set_cons_succ]
        refine reg_take 28 (v := ?vb28) (atS5 (atS5 (atS5 (atS5 (atS5 (atS (atS (atS at0)))))))) (by kernel_rfl) (by kernel_rfl) (by kernel_rfl) (by rfl) ?hyb28 hHeld ?restb28
        case hyb28 => (intro w' hSw; go_simp; try with_reducible rfl)
        try simp only [Act.put, List.setIfInBounds_toArray, List.set_cons_zero, List.set_cons_succ]
        refine reg_take 29 (v := ?vb29) (atS5 (atS5 (atS5 (atS5 (atS5 (atS (atS (atS (atS at0))))))))) (by kernel_rfl) (by kernel_rfl) (by kernel_rfl) (by rfl) ?hyb29 hHeld ?restb29
        case hyb29 => (intro w' hSw; go_simp; try with_reducible rfl)
        try simp only [Act.put, List.setIfInBounds_toArray, List.set_cons_zero, List.set_cons_succ]
        refine wpAnyH_ready (rs := [8]) (by kernel_rfl) (by simp) ?_
        refine AllReadyH.cons (atS5 (atS (atS (atS at0)))) (fun K hK => ?_) AllReadyH.nil
        go_simp
        refine (rput_any 1 (f.nm.length : Int) _ HU1.out).mono ?_
        rintro e w3 ⟨rfl, hb3⟩
        rw [HP1.out]
        have HB3 := hid hb3
        go_wp2_with fail
        refine hK.out _ _ HB3.out (fun hHeld => ?_)
        clear hK K
        try simp only [Act.put, List.setIfInBounds_toArray, List.set_cons_zero, List.set_cons_succ]
        refine reg_on HB3.out (fun hHeld => ?_)
        have pf0 := fun w' (h : Ext w3 w') => pf0 w' (Ext.trans HB3.out h)
        have pf1 := fun w' (h : Ext w3 w') => pf1 w' (Ext.trans HB3.out h)
        have pf2 := fun w' (h : Ext w3 w') => pf2 w' (Ext.trans HB3.out h)
        refine reg_take 9 (v := ?vb9) (atS5 (atS (atS (atS (atS at0))))) (by kernel_rfl) (by kernel_rfl) (by kernel_rfl) (by rfl) ?hyb9 hHeld ?restb9
        case hyb9 => (intro w' hSw; go_simp; try with_reducible rfl)
        try simp only [Act.put, List.setIfInBounds_toArray, List.set_cons_zero, List.set_cons_succ]
        refine reg_take 15 (v := ?vb15) (atS5 (atS5 (atS5 at0))) (by kernel_rfl) (by kernel_rfl) (by kernel_rfl) (by rfl) ?hyb15 hHeld ?restb15
        case hyb15 => (intro w' hSw; go_simp; try with_reducible rfl)
        try simp only [Act.put, List.setIfInBounds_toArray, List.set_cons_zero, List.set_cons_succ]
        refine wpAnyH_ready (rs := [22]) (by kernel_rfl) (by simp) ?_
        refine AllReadyH.cons (atS5 (atS5 (atS5 (atS5 (atS (atS at0)))))) (fun K hK => ?_) AllReadyH.nil
        go_simp
        refine (rput_any 1 f.k _ HU2.out).mono ?_
        rintro e w4 ⟨rfl, hb4⟩
        rw [HP2.out]
        have HB4 := hid hb4
        go_wp2_with fail
        refine hK.out _ _ HB4.out (fun hHeld => ?_)
        clear hK K
        try simp only [Act.put, List.setIfInBounds_toArray, List.set_cons_zero, List.set_cons_succ]
        refine reg_on HB4.out (fun hHeld => ?_)
        refine reg_take 23 (v := ?vb23) (atS5 (atS5 (atS5 (atS5 (atS (atS (atS at0))))))) (by kernel_rfl) (by kernel_rfl) (by kernel_rfl) (by rfl) ?hyb23 hHeld ?restb23
        case hyb23 => (intro w' hSw; go_simp; try with_reducible rfl)
        try simp only [Act.put, List.setIfInBounds_toArray, List.set_cons_zero, List.set_cons_succ]
        refine wpAnyH_ready (rs := [30]) (by kernel_rfl) (by simp) ?_
        refine AllReadyH.cons (atS5 (atS5 (atS5 (atS5 (atS5 (atS5 at0)))))) (fun K hK => ?_) AllReadyH.nil
        go_simp
        refine (rput_any 1 f.g _ HU3.out).mono ?_
        rintro e w5 ⟨rfl, hb5⟩
        rw [HP3.out]
        have HB5 := hid hb5
        go_wp2_with fail
        refine hK.out _ _ HB5.out (fun hHeld => ?_)
        clear hK K
        try simp only [Act.put, List.setIfInBounds_toArray, List.set_cons_zero, List.set_cons_succ]
        refine reg_on HB5.out (fun hHeld => ?_)
        refine reg_take 31 (v := ?vb31) (atS5 (atS5 (atS5 (atS5 (atS5 (atS5 (atS at0))))))) (by kernel_rfl) (by kernel_rfl) (by kernel_rfl) (by rfl) ?hyb31 hHeld ?restb31
        case hyb31 => (intro w' hSw; go_simp; try with_reducible rfl)
        try simp only [Act.put, List.setIfInBounds_toArray, List.set_cons_zero, List.set_cons_succ]
        refine reg_take 32 (v := ?vb32) (atS5 (atS5 (atS5 (atS5 (atS5 (atS5 (atS (atS at0)))))))) (by kernel_rfl) (by kernel_rfl) (by kernel_rfl) (by rfl) ?hyb32 hHeld ?restb32
        case hyb32 => (intro w' hSw; go_simp; try with_reducible rfl)
        try simp only [Act.put, List.setIfInBounds_toArray, List.set_cons_zero, List.set_cons_succ]
        refine wpAnyH_done (by kernel_rfl) ?_ _
        refine NoPanic.normal ?_
        clear pf0 pf1 pf2
        have HBn : Hid (Below w.heap.size w w5) := HB.out.trans ((Bt (Bt (Bt hx0a HB3.out) HB4.out) HB5.out).mono hbz)
        go_wp2_with fail
        go_roundw
        case rel =>
          refine ⟨j + 1, X ++ p ++ f.nm ++ q ++ r, by omega, by simp, ?_, hid (by rw [encP_take HF.out, HENC.out, HX.out]; simp [List.append_assoc]), HBn⟩
          show Value.string (⟨X.toArray⟩ ++ ⟨p.toArray⟩ ++ ⟨f.nm.toArray⟩ ++ ⟨q.toArray⟩ ++ ⟨r.toArray⟩) = _
          rw [ByteArray.mk_append_mk, ByteArray.mk_append_mk, ByteArray.mk_append_mk, ByteArray.mk_append_mk]
        case measure => simp [intOf]; omega
      · obtain rfl : j = m := by omega
        have et : l.take j = l := by rw [← HL.out]; exact List.take_length
        rw [et] at HX
        have HXE : Hid (X = encA l) := by rw [HX.out, HPP.out]; show _ = _; unfold encA; rw [HL.out]
        clear et
        go_wp2_with fail
        go_ret2
        refine ⟨?_, HB.out⟩
        rw [HE.out, HXE.out]; rfl
end Go.Proofs.YtaegencmnmjgbaaGreat

namespace Go.Proofs.YtaegencmnmjgbaaGreat
open Go.RowKit
set_option linter.unusedVariables false
def Fd.cells (f : Fd) : List Value := [.string (bs f.nm), .int .i64 f.k, .int .i64 f.g]
def cellsFd (l : List Fd) : List Value := (l.map Fd.cells).flatten
theorem cellsFd_length (l : List Fd) : (cellsFd l).length = l.length * 3 := by
  induction l with
  | nil => rfl
  | cons o os ih => have : cellsFd (o :: os) = o.cells ++ cellsFd os := rfl; rw [this, List.length_append, ih]; simp [Fd.cells]; omega
theorem cellsFd_get : ∀ (os : List Fd) (i : Nat) (h : i < os.length), ∀ j, j < 3 → (cellsFd os)[i * 3 + j]? = (os[i].cells)[j]? := by
  intro os
  induction os with
  | nil => intro i h; simp at h
  | cons x os ih =>
    intro i h j hj
    have e : cellsFd (x :: os) = x.cells ++ cellsFd os := rfl
    have hl : x.cells.length = 3 := rfl
    rw [e]
    cases i with
    | zero => rw [List.getElem?_append_left (by omega), Nat.zero_mul, Nat.zero_add]; rfl
    | succ i =>
      rw [List.getElem?_append_right (by omega), hl, show (i + 1) * 3 + j - 3 = i * 3 + j by omega]
      exact ih i (by simpa using h) j hj
def OwF (w : World) (base : Nat) (v : Value) (l : List Fd) : Prop := w.ownsRow base 68 3 v l.length (cellsFd l)
theorem OwF.nil (w : World) (base : Nat) : OwF w base (.slice none 0 0) [] := World.ownsRow_nil _ _ _ _
section
variable {w w' : World} {base : Nat} {v : Value} {l : List Fd}
theorem OwF.on (h : OwF w base v l) (hb : Below w.heap.size w w') : OwF w' base v l := by
  refine ⟨h.1, ?_⟩
  rcases h.2 with h1 | ⟨g, cap, cur, hv, hbase, hg, h3⟩
  · exact .inl h1
  · exact .inr ⟨g, cap, cur, hv, hbase, (hb.block g (row_lt hg)).trans hg, h3⟩
theorem OwF.heapEq (h : OwF w base v l) (he : w'.heap = w.heap) : OwF w' base v l := by
  refine ⟨h.1, ?_⟩
  rcases h.2 with h1 | ⟨g, cap, cur, hv, hbase, hg, h3⟩
  · exact .inl h1
  · exact .inr ⟨g, cap, cur, hv, hbase, by rw [he]; exact hg, h3⟩
theorem OwF.less {base' : Nat} (h : OwF w base v l) (hb : base' ≤ base) : OwF w base' v l := by
  refine ⟨h.1, ?_⟩
  rcases h.2 with h1 | ⟨g, cap, cur, hv, hbase, hg⟩
  · exact .inl h1
  · exact .inr ⟨g, cap, cur, hv, Nat.le_trans hb hbase, hg⟩
theorem OwF.rd (h : OwF w base v l) (hx : ∀ f ∈ l, I64 f.k ∧ I64 f.g ∧ f.nm.length ≤ nmMax) : ∃ A cap, v = .slice A l.length cap ∧ RdF w w.heap.size A l.length cap l := by
  rcases h.2 with ⟨rfl, hn⟩ | ⟨g, cap, cur, rfl, hbase, hg, hnc, hm, hs, hl⟩
  · have : l = [] := List.eq_nil_of_length_eq_zero hn
    subst this
    exact ⟨none, 0, rfl, RdF.nil _ _⟩
  · refine ⟨some ⟨g, 0, none⟩, cap, rfl, rfl, hnc, hm, hx, fun hn => ⟨g, 0, rfl, row_lt hg, fun i hi => ?_⟩⟩
    have t : ∀ j, j < 3 → w.cell? ⟨g, 0 + i * 3 + j, none⟩ = (l[i].cells)[j]? := fun j hj => by
      rw [row_cell hg, Nat.zero_add, ← cellsFd_get l i hi j hj, ← hl, List.getElem?_take_of_lt (by omega), Array.getElem?_toList]
    exact ⟨t 0 (by omega), t 1 (by omega), t 2 (by omega)⟩
end
theorem infoFd : (Tryz.prog.info? 68).map (fun i => (i.zero, i.size, i.bytes)) = some (some (.agg #[.string ⟨#[]⟩, .int .i64 0, .int .i64 0]), 3, 32) := by kernel_rfl
end Go.Proofs.YtaegencmnmjgbaaGreat
