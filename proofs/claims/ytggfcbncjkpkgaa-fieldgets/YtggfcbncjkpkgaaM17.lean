/-
  The document's Encode of layer 6; the bytes of fields: mathematics.
  The program's Encode of layer 6.
-/
import Derived.Test.YtggfcbncjkpkgaaM13
import Derived.Test.YtggfcbncjkpkgaaM16
import Derived.Lib.AppendStr

namespace Go.Proofs.Ytggfcbncjkpkgaa
open Go.RowKit
set_option linter.unusedVariables false

theorem u64_id {x : Int} (h0 : 0 ≤ x) (h : x < 18446744073709551616) : IntKind.u64.wrap x = x := by rw [IntKind.wrap_u64]; omega
theorem rput1 (n : Int) (h0 : 0 ≤ n) (h : n < 256) : rputL n 1 = le n 1 := by
  unfold rputL; rw [if_pos (by simp [fits, show isW 1 = true from rfl, pw1]; omega)]; rfl
def encF (f : Fd) : List UInt8 := le f.nm.length 1 ++ f.nm ++ le f.k 1 ++ le f.g 1
def encP (l : List Fd) : List UInt8 := (l.map encF).flatten
/-- The bytes of fields. -/
def encA (l : List Fd) : List UInt8 := le l.length 1 ++ encP l
theorem encF_length (f : Fd) : (encF f).length = f.nm.length + 3 := by unfold encF; simp only [List.length_append, le_length]; omega
theorem encP_take {l : List Fd} {i : Nat} {f : Fd} (h : l[i]? = some f) : encP (l.take (i + 1)) = encP (l.take i) ++ encF f := by
  unfold encP; rw [List.take_add_one, h]; simp
theorem name_len {s : List UInt8} (h : nameB s = true) : 1 ≤ s.length ∧ s.length ≤ 15 := by
  unfold nameB at h; simp only [Bool.and_eq_true, decide_eq_true_eq] at h; omega
theorem right_at {l : List Fd} (h : rightL l = true) {i : Nat} {f : Fd} (hi : l[i]? = some f) : 1 ≤ f.nm.length ∧ f.nm.length ≤ 15 ∧ 0 ≤ f.k ∧ f.k ≤ 12 ∧ 0 ≤ f.g ∧ f.g ≤ 64 := by
  obtain ⟨h1, h2, h3⟩ := (rightL_iff.1 h).2 i f hi
  have h4 := name_len h1
  unfold Fd.may at h2
  by_cases c : f.k = 12
  · rw [c] at h2; have := may12 h2; omega
  · have := may_cases h2 c; omega
theorem encP_len {l : List Fd} (h : rightL l = true) : ∀ j, j ≤ l.length → (encP (l.take j)).length ≤ 18 * j := by
  intro j
  induction j with
  | zero => intro _; simp [encP]
  | succ j ih =>
    intro hj
    have hi : l[j]? = some l[j] := List.getElem?_eq_getElem (by omega)
    rw [encP_take hi, List.length_append, encF_length]
    have := ih (by omega)
    have := right_at h hi
    omega
def encE6 (l : List Fd) : List UInt8 × Int := if rightL l then (encA l, 0) else ([], 60)

set_option maxRecDepth 20000 in
set_option maxHeartbeats 4000000 in
theorem r6encode_any {w : World} {A : Option Addr} {m c : Nat} {l : List Fd} (h : RdF w w.heap.size A m c l) (hs : short l) :
    Calls Try.prog 30 #[.slice A m c] w (SetQ w (encE6 l)) := by
  have HL := hid h.1
  have H := hid h; have HS := hid hs; clear h hs
  cases hr : rightL l with
  | false =>
    have HE : Hid (encE6 l = ([], 60)) := by show _ = _; unfold encE6; rw [hr]; rfl
    have HR := hid hr
    clear hr
    go_enter Try.func30, Try.ntmps30
    go_wp2_with fail
    refine (r6right_any H.out HS.out).mono ?_
    rintro e w1 ⟨rfl, hb1⟩
    rw [HR.out]
    go_wp2_with fail
    go_ret2
    exact ⟨by rw [HE.out]; rfl, hb1⟩
  | true =>
    have HE : Hid (encE6 l = (encA l, 0)) := by show _ = _; unfold encE6; rw [hr]; rfl
    have HR := hid hr
    have hm16 : m ≤ 16 := by have := right_len hr; have := HL.out; omega
    have hm16i : (m : Int) ≤ 16 := by omega
    have HU0 : Hid (U64 (m : Int)) := ⟨by omega, by rw [pw8]; omega⟩
    have e0 : IntKind.u64.wrap (m : Int) = m := u64_id (by omega) (by omega)
    obtain ⟨p0, hp0⟩ : ∃ p0, p0 = le (m : Int) 1 := ⟨_, rfl⟩
    have HP0 : Hid (rputL (m : Int) 1 = p0) := by rw [hp0]; exact rput1 _ (by omega) (by omega)
    have hp01 : p0.length = 1 := by rw [hp0]; exact le_length _ _
    have HPP := hid hp0
    clear hr hp0
    go_enter Try.func30, Try.ntmps30
    go_wp2_with fail
    refine (r6right_any H.out HS.out).mono ?_
    rintro e w1 ⟨rfl, hb1⟩
    rw [HR.out]
    have HB1 := hid hb1; clear hb1
    go_wp2_with fail
    refine (rput_any 1 (m : Int) _ HU0.out).mono ?_
    rintro e w2 ⟨rfl, hb2⟩
    rw [HP0.out]
    have HB2 := hid (Bt HB1.out hb2); clear hb2
    go_wp2_with fail
    go_loopw [4, 5] (fun v i wr => ∃ (j : Nat) (X : List UInt8), j ≤ m ∧ i = .int .i64 j ∧ v = .string ⟨X.toArray⟩ ∧ Hid (X = p0 ++ encP (l.take j)) ∧ Hid (Below w.heap.size w wr)) (fun _ i _ => m - (intOf i).toNat)
    case atStart => exact ⟨0, p0, by omega, rfl, rfl, hid (by simp [encP]), HB2⟩
    case round =>
      obtain ⟨j, X, hj, rfl, rfl, HX, HB⟩ := hrel
      by_cases hlt : j < m
      · have hjl : j < l.length := by have := HL.out; omega
        obtain ⟨f, hf⟩ : ∃ f, l[j]? = some f := ⟨_, List.getElem?_eq_getElem hjl⟩
        obtain ⟨_, hk64, hg64, hnl, b, off, rfl, hc⟩ := H.out.at hf
        clear hk64 hg64 hnl
        obtain ⟨a1, a2, a3, a4, a5, a6⟩ := right_at HR.out hf
        have HF := hid hf; have HC := hid hc
        have hXl : X.length ≤ 400 := by
          rw [HX.out, List.length_append, hp01]
          have := encP_len HR.out j (by omega)
          omega
        have e1 : IntKind.u64.wrap (f.nm.length : Int) = (f.nm.length : Int) := u64_id (by omega) (by omega)
        have e2 : IntKind.u64.wrap f.k = f.k := u64_id a3 (by omega)
        have e3 : IntKind.u64.wrap f.g = f.g := u64_id a5 (by omega)
        have HU1 : Hid (U64 (f.nm.length : Int)) := ⟨by omega, by rw [pw8]; omega⟩
        have HU2 : Hid (U64 f.k) := ⟨a3, by rw [pw8]; omega⟩
        have HU3 : Hid (U64 f.g) := ⟨a5, by rw [pw8]; omega⟩
        obtain ⟨p, hp⟩ : ∃ p, p = le (f.nm.length : Int) 1 := ⟨_, rfl⟩
        obtain ⟨q, hq⟩ : ∃ q, q = le f.k 1 := ⟨_, rfl⟩
        obtain ⟨r, hr⟩ : ∃ r, r = le f.g 1 := ⟨_, rfl⟩
        have HP1 : Hid (rputL (f.nm.length : Int) 1 = p) := by rw [hp]; exact rput1 _ (by omega) (by omega)
        have HP2 : Hid (rputL f.k 1 = q) := by rw [hq]; exact rput1 _ (by omega) (by omega)
        have HP3 : Hid (rputL f.g 1 = r) := by rw [hr]; exact rput1 _ (by omega) (by omega)
        have hp1 : p.length = 1 := by rw [hp]; exact le_length _ _
        have hq1 : q.length = 1 := by rw [hq]; exact le_length _ _
        have hr1 : r.length = 1 := by rw [hr]; exact le_length _ _
        have HENC : Hid (encF f = p ++ f.nm ++ q ++ r) := by rw [hp, hq, hr]; rfl
        obtain ⟨nmf, hnmf⟩ : ∃ nmf, nmf = f.nm := ⟨_, rfl⟩
        have z1 : ¬ 9223372036854775807 < X.length + 1 := by omega
        have z2 : ¬ 9223372036854775807 < X.length + 1 + f.nm.length := by omega
        have z3 : ¬ 9223372036854775807 < X.length + 1 + f.nm.length + 1 := by omega
        have z4 : ¬ 9223372036854775807 < X.length + 1 + f.nm.length + 1 + 1 := by omega
        have hji : (j : Int) < m := by omega
        have hj0 : (0 : Int) ≤ j := by omega
        have hbz := HB.out.size
        clear hc hf hp hq hr hjl hnmf
        go_wp2_with fail
        refine reg_begin (by kernel_rfl) (fun w0a hx0a hHeld => ?_)
        have pf : ∀ w', Ext w0a w' → FdC w' b (off + j * 3) f := fun w' h => HC.out w' (HB.out.trans ((hx0a.trans h).mono hbz))
        have pf0 := fun w' h => (pf w' h).1
        have pf1 := fun w' h => (pf w' h).2.1
        have pf2 := fun w' h => (pf w' h).2.2
        clear pf
        refine reg_take 0 (v := ?vb0) at0 (by kernel_rfl) (by kernel_rfl) (by kernel_rfl) (by rfl) ?hyb0 hHeld ?restb0
        case hyb0 => (intro w' hSw; go_simp; try with_reducible rfl)
        try simp only [Act.put, List.setIfInBounds_toArray, List.set_cons_zero, List.set_cons_succ]
        refine reg_take 1 (v := ?vb1) (atS at0) (by kernel_rfl) (by kernel_rfl) (by kernel_rfl) (by rfl) ?hyb1 hHeld ?restb1
        case hyb1 => (intro w' hSw; go_simp; try with_reducible rfl)
        try simp only [Act.put, List.setIfInBounds_toArray, List.set_cons_zero, List.set_cons_succ]
        refine reg_take 2 (v := ?vb2) (atS (atS at0)) (by kernel_rfl) (by kernel_rfl) (by kernel_rfl) (by rfl) ?hyb2 hHeld ?restb2
        case hyb2 => (intro w' hSw; go_simp; try with_reducible rfl)
        try simp only [Act.put, List.setIfInBounds_toArray, List.set_cons_zero, List.set_cons_succ]
        refine reg_take 3 (v := ?vb3) (atS (atS (atS at0))) (by kernel_rfl) (by kernel_rfl) (by kernel_rfl) (by rfl) ?hyb3 hHeld ?restb3
        case hyb3 => (intro w' hSw; go_simp; try with_reducible rfl)
        try simp only [Act.put, List.setIfInBounds_toArray, List.set_cons_zero, List.set_cons_succ]
        refine reg_take 4 (v := ?vb4) (atS (atS (atS (atS at0)))) (by kernel_rfl) (by kernel_rfl) (by kernel_rfl) (by rfl) ?hyb4 hHeld ?restb4
        case hyb4 => (intro w' hSw; go_simp; try with_reducible rfl)
        try simp only [Act.put, List.setIfInBounds_toArray, List.set_cons_zero, List.set_cons_succ]
        refine reg_take 5 (v := ?vb5) (atS5 at0) (by kernel_rfl) (by kernel_rfl) (by kernel_rfl) (by rfl) ?hyb5 hHeld ?restb5
        case hyb5 => (intro w' hSw; go_simp; try with_reducible rfl)
        try simp only [Act.put, List.setIfInBounds_toArray, List.set_cons_zero, List.set_cons_succ]
        refine reg_take 6 (v := ?vb6) (atS5 (atS at0)) (by kernel_rfl) (by kernel_rfl) (by kernel_rfl) (by rfl) ?hyb6 hHeld ?restb6
        case hyb6 => (intro w' hSw; go_simp; try with_reducible rfl)
        try simp only [Act.put, List.setIfInBounds_toArray, List.set_cons_zero, List.set_cons_succ]
        refine reg_take 7 (v := ?vb7) (atS5 (atS (atS at0))) (by kernel_rfl) (by kernel_rfl) (by kernel_rfl) (by rfl) ?hyb7 hHeld ?restb7
        case hyb7 => (intro w' hSw; go_simp; try with_reducible rfl)
        try simp only [Act.put, List.setIfInBounds_toArray, List.set_cons_zero, List.set_cons_succ]
        refine reg_take 10 (v := ?vb10) (atS5 (atS5 at0)) (by kernel_rfl) (by kernel_rfl) (by kernel_rfl) (by rfl) ?hyb10 hHeld ?restb10
        case hyb10 => (intro w' hSw; go_simp; try with_reducible rfl)
        try simp only [Act.put, List.setIfInBounds_toArray, List.set_cons_zero, List.set_cons_succ]
        refine reg_take 11 (v := ?vb11) (atS5 (atS5 (atS at0))) (by kernel_rfl) (by kernel_rfl) (by kernel_rfl) (by rfl) ?hyb11 hHeld ?restb11
        case hyb11 => (intro w' hSw; go_simp; try with_reducible rfl)
        try simp only [Act.put, List.setIfInBounds_toArray, List.set_cons_zero, List.set_cons_succ]
        refine reg_take 12 (v := ?vb12) (atS5 (atS5 (atS (atS at0)))) (by kernel_rfl) (by kernel_rfl) (by kernel_rfl) (by rfl) ?hyb12 hHeld ?restb12
        case hyb12 => (intro w' hSw; go_simp; try with_reducible rfl)
        try simp only [Act.put, List.setIfInBounds_toArray, List.set_cons_zero, List.set_cons_succ]
        refine reg_take 13 (v := ?vb13) (atS5 (atS5 (atS (atS (atS at0))))) (by kernel_rfl) (by kernel_rfl) (by kernel_rfl) (by rfl) ?hyb13 hHeld ?restb13
        case hyb13 => (intro w' hSw; go_simp; try with_reducible rfl)
        try simp only [Act.put, List.setIfInBounds_toArray, List.set_cons_zero, List.set_cons_succ]
        refine reg_take 14 (v := ?vb14) (atS5 (atS5 (atS (atS (atS (atS at0)))))) (by kernel_rfl) (by kernel_rfl) (by kernel_rfl) (by rfl) ?hyb14 hHeld ?restb14
        case hyb14 => (intro w' hSw; go_simp; try with_reducible rfl)
        try simp only [Act.put, List.setIfInBounds_toArray, List.set_cons_zero, List.set_cons_succ]
        refine reg_take 16 (v := ?vb16) (atS5 (atS5 (atS5 (atS at0)))) (by kernel_rfl) (by kernel_rfl) (by kernel_rfl) (by rfl) ?hyb16 hHeld ?restb16
        case hyb16 => (intro w' hSw; go_simp; try with_reducible rfl)
        try simp only [Act.put, List.setIfInBounds_toArray, List.set_cons_zero, List.set_cons_succ]
        refine reg_take 17 (v := ?vb17) (atS5 (atS5 (atS5 (atS (atS at0))))) (by kernel_rfl) (by kernel_rfl) (by kernel_rfl) (by rfl) ?hyb17 hHeld ?restb17
        case hyb17 => (intro w' hSw; go_simp; try with_reducible rfl)
        try simp only [Act.put, List.setIfInBounds_toArray, List.set_cons_zero, List.set_cons_succ]
        refine reg_take 18 (v := ?vb18) (atS5 (atS5 (atS5 (atS (atS (atS at0)))))) (by kernel_rfl) (by kernel_rfl) (by kernel_rfl) (by rfl) ?hyb18 hHeld ?restb18
        case hyb18 => (intro w' hSw; go_simp; try with_reducible rfl)
        try simp only [Act.put, List.setIfInBounds_toArray, List.set_cons_zero, List.set_cons_succ]
        refine reg_take 19 (v := ?vb19) (atS5 (atS5 (atS5 (atS (atS (atS (atS at0))))))) (by kernel_rfl) (by kernel_rfl) (by kernel_rfl) (by rfl) ?hyb19 hHeld ?restb19
        case hyb19 => (intro w' hSw; go_simp; try with_reducible rfl)
        try simp only [Act.put, List.setIfInBounds_toArray, List.set_cons_zero, List.set_cons_succ]
        refine reg_take 20 (v := ?vb20) (atS5 (atS5 (atS5 (atS5 at0)))) (by kernel_rfl) (by kernel_rfl) (by kernel_rfl) (by rfl) ?hyb20 hHeld ?restb20
        case hyb20 => (intro w' hSw; go_simp; try with_reducible rfl)
        try simp only [Act.put, List.setIfInBounds_toArray, List.set_cons_zero, List.set_cons_succ]
        refine reg_take 21 (v := ?vb21) (atS5 (atS5 (atS5 (atS5 (atS at0))))) (by kernel_rfl) (by kernel_rfl) (by kernel_rfl) (by rfl) ?hyb21 hHeld ?restb21
        case hyb21 => (intro w' hSw; go_simp; try with_reducible rfl)
        try simp only [Act.put, List.setIfInBounds_toArray, List.set_cons_zero, List.set_cons_succ]
        refine reg_take 24 (v := ?vb24) (atS5 (atS5 (atS5 (atS5 (atS (atS (atS (atS at0)))))))) (by kernel_rfl) (by kernel_rfl) (by kernel_rfl) (by rfl) ?hyb24 hHeld ?restb24
        case hyb24 => (intro w' hSw; go_simp; try with_reducible rfl)
        try simp only [Act.put, List.setIfInBounds_toArray, List.set_cons_zero, List.set_cons_succ]
        refine reg_take 25 (v := ?vb25) (atS5 (atS5 (atS5 (atS5 (atS5 at0))))) (by kernel_rfl) (by kernel_rfl) (by kernel_rfl) (by rfl) ?hyb25 hHeld ?restb25
        case hyb25 => (intro w' hSw; go_simp; try with_reducible rfl)
        try simp only [Act.put, List.setIfInBounds_toArray, List.set_cons_zero, List.set_cons_succ]
        refine reg_take 26 (v := ?vb26) (atS5 (atS5 (atS5 (atS5 (atS5 (atS at0)))))) (by kernel_rfl) (by kernel_rfl) (by kernel_rfl) (by rfl) ?hyb26 hHeld ?restb26
        case hyb26 => (intro w' hSw; go_simp; try with_reducible rfl)
        try simp only [Act.put, List.setIfInBounds_toArray, List.set_cons_zero, List.set_cons_succ]
        refine reg_take 27 (v := ?vb27) (atS5 (atS5 (atS5 (atS5 (atS5 (atS (atS at0))))))) (by kernel_rfl) (by kernel_rfl) (by kernel_rfl) (by rfl) ?hyb27 hHeld ?restb27
        case hyb27 => (intro w' hSw; go_simp; try with_reducible rfl)
        try simp only [Act.put, List.setIfInBounds_toArray, List.set_cons_zero, List.set_cons_succ]
        refine reg_take 28 (v := ?vb28) (atS5 (atS5 (atS5 (atS5 (atS5 (atS (atS (atS at0)))))))) (by kernel_rfl) (by kernel_rfl) (by kernel_rfl) (by rfl) ?hyb28 hHeld ?restb28
        case hyb28 => (intro w' hSw; go_simp; try with_reducible rfl)
        try simp only [Act.put, List.setIfInBounds_toArray, List.set_cons_zero, List.set_cons_succ]
        refine reg_take 29 (v := ?vb29) (atS5 (atS5 (atS5 (atS5 (atS5 (atS (atS (atS (atS at0))))))))) (by kernel_rfl) (by kernel_rfl) (by kernel_rfl) (by rfl) ?hyb29 hHeld ?restb29
        case hyb29 => (intro w' hSw; go_simp; try with_reducible rfl)
        try simp only [Act.put, List.setIfInBounds_toArray, List.set_cons_zero, List.set_cons_succ]
        refine wpAnyH_ready (rs := [8]) (by kernel_rfl) (by simp) ?_
        refine AllReadyH.cons (atS5 (atS (atS (atS at0)))) (fun K hK => ?_) AllReadyH.nil
        go_simp
        refine (rput_any 1 (f.nm.length : Int) _ HU1.out).mono ?_
        rintro e w3 ⟨rfl, hb3⟩
        rw [HP1.out]
        have HB3 := hid hb3
        go_wp2_with fail
        refine hK.out _ _ HB3.out (fun hHeld => ?_)
        clear hK K
        try simp only [Act.put, List.setIfInBounds_toArray, List.set_cons_zero, List.set_cons_succ]
        refine reg_on HB3.out (fun hHeld => ?_)
        have pf0 := fun w' (h : Ext w3 w') => pf0 w' (Ext.trans HB3.out h)
        have pf1 := fun w' (h : Ext w3 w') => pf1 w' (Ext.trans HB3.out h)
        have pf2 := fun w' (h : Ext w3 w') => pf2 w' (Ext.trans HB3.out h)
        refine reg_take 9 (v := ?vb9) (atS5 (atS (atS (atS (atS at0))))) (by kernel_rfl) (by kernel_rfl) (by kernel_rfl) (by rfl) ?hyb9 hHeld ?restb9
        case hyb9 => (intro w' hSw; go_simp; try with_reducible rfl)
        try simp only [Act.put, List.setIfInBounds_toArray, List.set_cons_zero, List.set_cons_succ]
        refine reg_take 15 (v := ?vb15) (atS5 (atS5 (atS5 at0))) (by kernel_rfl) (by kernel_rfl) (by kernel_rfl) (by rfl) ?hyb15 hHeld ?restb15
        case hyb15 => (intro w' hSw; go_simp; try with_reducible rfl)
        try simp only [Act.put, List.setIfInBounds_toArray, List.set_cons_zero, List.set_cons_succ]
        refine wpAnyH_ready (rs := [22]) (by kernel_rfl) (by simp) ?_
        refine AllReadyH.cons (atS5 (atS5 (atS5 (atS5 (atS (atS at0)))))) (fun K hK => ?_) AllReadyH.nil
        go_simp
        refine (rput_any 1 f.k _ HU2.out).mono ?_
        rintro e w4 ⟨rfl, hb4⟩
        rw [HP2.out]
        have HB4 := hid hb4
        go_wp2_with fail
        refine hK.out _ _ HB4.out (fun hHeld => ?_)
        clear hK K
        try simp only [Act.put, List.setIfInBounds_toArray, List.set_cons_zero, List.set_cons_succ]
        refine reg_on HB4.out (fun hHeld => ?_)
        refine reg_take 23 (v := ?vb23) (atS5 (atS5 (atS5 (atS5 (atS (atS (atS at0))))))) (by kernel_rfl) (by kernel_rfl) (by kernel_rfl) (by rfl) ?hyb23 hHeld ?restb23
        case hyb23 => (intro w' hSw; go_simp; try with_reducible rfl)
        try simp only [Act.put, List.setIfInBounds_toArray, List.set_cons_zero, List.set_cons_succ]
        refine wpAnyH_ready (rs := [30]) (by kernel_rfl) (by simp) ?_
        refine AllReadyH.cons (atS5 (atS5 (atS5 (atS5 (atS5 (atS5 at0)))))) (fun K hK => ?_) AllReadyH.nil
        go_simp
        refine (rput_any 1 f.g _ HU3.out).mono ?_
        rintro e w5 ⟨rfl, hb5⟩
        rw [HP3.out]
        have HB5 := hid hb5
        go_wp2_with fail
        refine hK.out _ _ HB5.out (fun hHeld => ?_)
        clear hK K
        try simp only [Act.put, List.setIfInBounds_toArray, List.set_cons_zero, List.set_cons_succ]
        refine reg_on HB5.out (fun hHeld => ?_)
        refine reg_take 31 (v := ?vb31) (atS5 (atS5 (atS5 (atS5 (atS5 (atS5 (atS at0))))))) (by kernel_rfl) (by kernel_rfl) (by kernel_rfl) (by rfl) ?hyb31 hHeld ?restb31
        case hyb31 => (intro w' hSw; go_simp; try with_reducible rfl)
        try simp only [Act.put, List.setIfInBounds_toArray, List.set_cons_zero, List.set_cons_succ]
        refine reg_take 32 (v := ?vb32) (atS5 (atS5 (atS5 (atS5 (atS5 (atS5 (atS (atS at0)))))))) (by kernel_rfl) (by kernel_rfl) (by kernel_rfl) (by rfl) ?hyb32 hHeld ?restb32
        case hyb32 => (intro w' hSw; go_simp; try with_reducible rfl)
        try simp only [Act.put, List.setIfInBounds_toArray, List.set_cons_zero, List.set_cons_succ]
        refine wpAnyH_done (by kernel_rfl) ?_ _
        refine NoPanic.normal ?_
        clear pf0 pf1 pf2
        have HBn : Hid (Below w.heap.size w w5) := HB.out.trans ((Bt (Bt (Bt hx0a HB3.out) HB4.out) HB5.out).mono hbz)
        go_wp2_with fail
        go_roundw
        case rel =>
          refine ⟨j + 1, X ++ p ++ f.nm ++ q ++ r, by omega, by simp, ?_, hid (by rw [encP_take HF.out, HENC.out, HX.out]; simp [List.append_assoc]), HBn⟩
          show Value.string (⟨X.toArray⟩ ++ ⟨p.toArray⟩ ++ ⟨f.nm.toArray⟩ ++ ⟨q.toArray⟩ ++ ⟨r.toArray⟩) = _
          rw [ByteArray.mk_append_mk, ByteArray.mk_append_mk, ByteArray.mk_append_mk, ByteArray.mk_append_mk]
        case measure => simp [intOf]; omega
      · obtain rfl : j = m := by omega
        have et : l.take j = l := by rw [← HL.out]; exact List.take_length
        rw [et] at HX
        have HXE : Hid (X = encA l) := by rw [HX.out, HPP.out]; show _ = _; unfold encA; rw [HL.out]
        clear et
        go_wp2_with fail
        go_ret2
        refine ⟨?_, HB.out⟩
        rw [HE.out, HXE.out]; rfl
end Go.Proofs.Ytggfcbncjkpkgaa

namespace Go.Proofs.Ytggfcbncjkpkgaa
open Go.RowKit
set_option linter.unusedVariables false

theorem wpList_appG {P : Program} {w w' : World} {ops : Array Oper} {rest : List Oper} {o : Oper} {a : Act} {Q : Exit → Act → World → Prop} {v v' u : Value} {t1 t2 : TypeId} (hgd : o.guard = none) (s x : Operand)
    (hop : o.op = .call { callee := .builtin .append, args := #[s, x], argTypes := #[t1, t2] }) (hs : a.eval s = v) (hx : a.eval x = u)
    (hrun : (Builtin.append_ #[t1, t2] o.type #[v, u]).run P w = .ok v' w') (hk : wpList P ops Q rest (a.put o.dst v') w') : wpList P ops Q (o :: rest) a w := by
  refine wpList_plain hgd fun K hK => ?_
  unfold Oper.wp execOp
  simp only [hop, resolve, invoke, builtin, Sem.run_bind, Sem.run_pure, Result.andThen_ok, List.map_toArray, List.map_cons, List.map_nil, hs, hx, hrun]
  exact hK _ _ hk
theorem strCells_bs (x : List UInt8) : Lib.strCells (bs x) = x.map bv := by
  simp [Lib.strCells, bv]
/-- append(v, s...) of a text. -/
theorem run_appS8 {w : World} {base : Nat} {v : Value} {xs : List UInt8} (ho : Own w base v xs) (x : List UInt8) (hb : base ≤ w.heap.size) (hlen : xs.length + x.length ≤ 140737488355328) (ty : TypeId) :
    ∃ v' w', (Builtin.append_ #[30, 9] ty #[v, .string (bs x)]).run Try.prog w = .ok v' w' ∧ Own w' base v' (xs ++ x) ∧ w.grownBy w' v.ownBlock := by
  have hi8 := info8
  cases hi : Try.prog.info? 5 with
  | none => rw [hi] at hi8; cases hi8
  | some i =>
    rw [hi] at hi8
    simp only [Option.map_some, Option.some.injEq, Prod.mk.injEq] at hi8
    obtain ⟨hz, hs, hby⟩ := hi8
    have hsz : (bs x).size = x.length := rfl
    obtain ⟨v', w', hr, how, hg, _⟩ := Lib.run_append_own_string (P := Try.prog) (w := w) base 30 9 ty 5 i Try.underlying30 Try.underlying9 hi hz hs hby v xs.length (xs.map bv) ho (bs x) (by rw [hsz]; unfold maxLen; omega) (by rw [hsz]; omega) hb
    refine ⟨v', w', hr, ?_, hg⟩
    unfold Own; rw [List.length_append, List.map_append, ← strCells_bs, ← hsz]; exact how
section
variable {w w' : World} {base : Nat} {v : Value} {l : List UInt8}
theorem Own.blk2 (h : Own w base v l) : ∀ r, v.ownBlock = some r → base ≤ r ∧ ∃ cs, w.heap[r]? = some (.cells cs 5 (0, 0)) := by
  intro j hj
  rcases h.2 with ⟨e, _⟩ | ⟨g, cap, cur, e, hbase, hg, _⟩
  · rw [e] at hj; simp [Value.ownBlock] at hj
  · rw [e] at hj; simp [Value.ownBlock] at hj; subst hj; exact ⟨hbase, _, hg⟩
theorem Own.shape2 (h : Own w base v l) : ∃ A n c, v = .slice A n c := by
  rcases h.2 with ⟨e, _⟩ | ⟨g, cap, cur, hv, _⟩
  · exact ⟨_, _, _, e⟩
  · exact ⟨_, _, _, hv⟩
end

/-- A number below 256 as bytes. -/
theorem numB_any (n : Int) (w : World) (h0 : 0 ≤ n) (h1 : n < 256) :
    Calls Try.prog 46 #[.int .i64 n] w fun e w' => ∃ v, e = .returned v ∧ Own w' w.heap.size v (le n 1) ∧ Below w.heap.size w w' := by
  have e0 : IntKind.u64.wrap n = n := u64_id h0 (by omega)
  have HU : Hid (U64 n) := ⟨h0, by rw [pw8]; omega⟩
  have hf : fits n 1 false = true := by simp [fits, show isW 1 = true from rfl, pw1]; omega
  have HP := hid (fun w => put_true none 0 0 [] 1 n w (Rd.nil w _) (by omega) HU.out hf (.inl rfl))
  clear hf
  go_enter Try.func46, Try.ntmps46
  go_wp2_with fail
  refine (HP.out w).mono ?_
  rintro e w1 ⟨v, rfl, ho, hb⟩
  have HO := hid ho
  clear ho
  go_wp2_with fail
  go_ret
  exact ⟨_, rfl, by simpa using HO.out, hb⟩

/-- What the loop of Encode knows of its world. -/
structure ES (w W : World) (q : Nat) (f : Fd) (v : Value) (X : List UInt8) : Prop where
  ow : Own W w.heap.size v X
  fb : FB W q (bs f.nm) f.k f.g
  bl : Below w.heap.size w W
section
variable {w W W' : World} {q : Nat} {f : Fd} {v v' : Value} {X Y : List UInt8}
theorem ES.on (h : ES w W q f v X) (hb : Below W.heap.size W W') : ES w W' q f v X := ⟨h.ow.grown hb, h.fb.on hb, h.bl.trans (hb.mono h.bl.size)⟩
theorem ES.app (h : ES w W q f v X) (hg : W.grownBy W' v.ownBlock) (ho : Own W' w.heap.size v' Y) : ES w W' q f v' Y :=
  ⟨ho, (hg.block q h.fb.lt (fun e => by
    obtain ⟨_, cs, hc⟩ := h.ow.blk2 q e.symm
    have := h.fb; unfold FB at this; rw [hc] at this; cases this)).trans h.fb, h.bl.grown hg h.bl.size (fun j e => (h.ow.blk2 j e).1)⟩
end

set_option maxRecDepth 20000 in
set_option maxHeartbeats 8000000 in
theorem p6encode_any {w : World} {A : Option Addr} {n c : Nat} {l : List Fd} (h : RdF w w.heap.size A n c l) (hs : short l) : Calls Try.prog 29 #[.slice A n c] w (SetO w (encE6 l)) := by
  have HL := hid h.1
  have H := hid h; have HS := hid hs; clear h hs
  cases hr : rightL l with
  | false =>
    have HE : Hid (encE6 l = ([], 60)) := by show _ = _; unfold encE6; rw [hr]; rfl
    have HR := hid hr
    clear hr
    go_enter Try.func29, Try.ntmps29
    go_wp2_with fail
    refine (p6right_any H.out HS.out).mono ?_
    rintro e w1 ⟨rfl, hb1⟩
    rw [HR.out]
    go_wp2_with fail
    go_ret2
    exact ⟨_, by rw [HE.out]; rfl, by rw [HE.out]; exact own_nil _ _, hb1⟩
  | true =>
    have HE : Hid (encE6 l = (encA l, 0)) := by show _ = _; unfold encE6; rw [hr]; rfl
    have HR := hid hr
    have hm16 : n ≤ 16 := by have := right_len hr; have := HL.out; omega
    have hm16i : (n : Int) ≤ 16 := by omega
    clear hr
    go_enter Try.func29, Try.ntmps29
    go_wp2_with fail
    refine (p6right_any H.out HS.out).mono ?_
    rintro e w1 ⟨rfl, hb1⟩
    rw [HR.out]
    have HB1 := hid hb1; clear hb1
    go_wp2_with fail
    refine (numB_any (n : Int) w1 (by omega) (by omega)).mono ?_
    rintro e w2 ⟨v2, rfl, ho2, hb2⟩
    have HB2 := hid (Bt HB1.out hb2)
    have HO2 : Hid (Own w2 w.heap.size v2 (le (n : Int) 1)) := ⟨ho2.1, by
      rcases ho2.2 with h1 | ⟨g, cap, cur, hv, hbase, hg, h3⟩
      · exact .inl h1
      · exact .inr ⟨g, cap, cur, hv, Nat.le_trans HB1.out.size hbase, hg, h3⟩⟩
    clear hb2 ho2
    go_wp2_with fail
    go_loopw [4, 15] (fun v i wr => ∃ (j : Nat), j ≤ n ∧ i = .int .i64 j ∧ Hid (Own wr w.heap.size v (le (n : Int) 1 ++ encP (l.take j))) ∧ Hid (Below w.heap.size w wr)) (fun _ i _ => n - (intOf i).toNat)
    case atStart => exact ⟨0, by omega, rfl, hid (by simpa [encP] using HO2.out), HB2⟩
    case round =>
      obtain ⟨j, hj, rfl, HO, HB⟩ := hrel
      rename_i v
      by_cases hlt : j < n
      · have hjl : j < l.length := by have := HL.out; omega
        obtain ⟨f, hf⟩ : ∃ f, l[j]? = some f := ⟨_, List.getElem?_eq_getElem hjl⟩
        obtain ⟨_, hk64, hg64, hnl, b, off, rfl, hc⟩ := H.out.at hf
        obtain ⟨a1, a2, a3, a4, a5, a6⟩ := right_at HR.out hf
        have HF := hid hf
        obtain ⟨c0, c1, c2⟩ := hc wr HB.out
        have HXL : Hid ((le (n : Int) 1 ++ encP (l.take j)).length ≤ 400) := by
          show _ ≤ _
          rw [List.length_append, le_length]
          have := encP_len HR.out j (by omega)
          omega
        obtain ⟨X, hX⟩ : ∃ X, X = le (n : Int) 1 ++ encP (l.take j) := ⟨_, rfl⟩
        rw [← hX] at HXL HO
        have HX := hid hX
        obtain ⟨A3, n3, c3, rfl⟩ := HO.out.shape2
        obtain ⟨wv, hwv⟩ : ∃ wv, wv = wr.alloc (.cells #[.string (bs f.nm), .int .i64 f.k, .int .i64 f.g] 40) := ⟨_, rfl⟩
        obtain ⟨q, hq⟩ : ∃ q, q = wr.heap.size := ⟨_, rfl⟩
        have HWV := hid hwv; have HQ := hid hq
        have HES : Hid (ES w wv q f (.slice A3 n3 c3) X) := by
          rw [hwv, hq]; exact ⟨HO.out.grown (B1 _ _), fb_new wr _ _ _, Ba HB.out _⟩
        have hji : (j : Int) < n := by omega
        have hj0 : (0 : Int) ≤ j := by omega
        have HA := hid (And.intro a1 (And.intro a2 (And.intro a3 (And.intro a4 (And.intro a5 a6)))))
        clear hc hf hk64 hg64 hnl hjl hwv hq hX a1 a2 a3 a4 a5 a6
        go_wp2_with fail
        rw [← HWV.out, ← HQ.out]
        refine (numB_any (f.nm.length : Int) wv (by omega) (by have := HA.out; omega)).mono ?_
        rintro e w4 ⟨v4, rfl, ho4, hb4⟩
        have HES4 := hid (HES.out.on hb4)
        obtain ⟨A4, m4, rfl, hr4⟩ := ho4.rd
        obtain ⟨v5, w5, hrun5, ho5, hg5, _⟩ := run_append8 HES4.out.ow hr4 HES4.out.bl.size (by have := HXL.out; rw [le_length]; omega) 30
        have HES5 := hid (HES4.out.app hg5 ho5)
        obtain ⟨A5, n5, c5, rfl⟩ := ho5.shape2
        obtain ⟨v6, w6, hrun6, ho6, hg6⟩ := run_appS8 HES5.out.ow f.nm HES5.out.bl.size (by have := HXL.out; have := HA.out; rw [List.length_append, le_length]; omega) 30
        have HES6 := hid (HES5.out.app hg6 ho6)
        obtain ⟨A6, n6, c6, rfl⟩ := ho6.shape2
        obtain ⟨u0, u1, u2⟩ := HES5.out.fb.cells
        obtain ⟨x0, x1, x2⟩ := HES6.out.fb.cells
        have HRUN5 := hid hrun5; have HRUN6 := hid hrun6
        clear hb4 ho4 hr4 hrun5 hrun6 ho5 ho6 hg5 hg6 c0 c1 c2
        go_wp2_with (at_builtin; first | refine wpList_appG rfl _ _ rfl rfl rfl HRUN5.out ?_ | refine wpList_appG rfl _ _ rfl rfl rfl HRUN6.out ?_)
        refine (numB_any f.k w6 (by have := HA.out; omega) (by have := HA.out; omega)).mono ?_
        rintro e w7 ⟨v7, rfl, ho7, hb7⟩
        have HES7 := hid (HES6.out.on hb7)
        obtain ⟨A7, m7, rfl, hr7⟩ := ho7.rd
        obtain ⟨v8, w8, hrun8, ho8, hg8, _⟩ := run_append8 HES7.out.ow hr7 HES7.out.bl.size (by have := HXL.out; have := HA.out; simp only [List.length_append, le_length]; omega) 30
        have HES8 := hid (HES7.out.app hg8 ho8)
        obtain ⟨A8, n8, c8, rfl⟩ := ho8.shape2
        obtain ⟨y0, y1, y2⟩ := HES8.out.fb.cells
        have HRUN8 := hid hrun8
        clear hb7 ho7 hr7 hrun8 ho8 hg8 u0 u1 u2 x0 x1 x2
        go_wp2_with (at_builtin; refine wpList_appG rfl _ _ rfl rfl rfl HRUN8.out ?_)
        refine (numB_any f.g w8 (by have := HA.out; omega) (by have := HA.out; omega)).mono ?_
        rintro e w9 ⟨v9, rfl, ho9, hb9⟩
        have HES9 := hid (HES8.out.on hb9)
        obtain ⟨A9, m9, rfl, hr9⟩ := ho9.rd
        obtain ⟨v10, w10, hrun10, ho10, hg10, _⟩ := run_append8 HES9.out.ow hr9 HES9.out.bl.size (by have := HXL.out; have := HA.out; simp only [List.length_append, le_length]; omega) 30
        have HES10 := hid (HES9.out.app hg10 ho10)
        have HRUN10 := hid hrun10
        clear hb9 ho9 hr9 hrun10 ho10 hg10 y0 y1 y2
        go_wp2_with (at_builtin; refine wpList_appG rfl _ _ rfl rfl rfl HRUN10.out ?_)
        go_roundw
        case rel =>
          refine ⟨j + 1, by omega, by simp, hid ?_, HES10.out.bl⟩
          have := HES10.out.ow
          rw [encP_take HF.out, ← List.append_assoc, ← HX.out]
          unfold encF
          simpa [List.append_assoc] using this
        case measure => simp [intOf]; omega
      · obtain rfl : j = n := by omega
        have et : l.take j = l := by rw [← HL.out]; exact List.take_length
        have HEA : Hid (le (j : Int) 1 ++ encP (l.take j) = encA l) := by show _ = _; rw [et]; unfold encA; rw [HL.out]
        clear et
        go_wp2_with fail
        go_ret2
        exact ⟨_, by rw [HE.out]; rfl, by rw [HE.out]; show Own _ _ _ (encA l); rw [← HEA.out]; exact HO.out, HB.out⟩
end Go.Proofs.Ytggfcbncjkpkgaa
