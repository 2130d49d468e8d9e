/-
  The law FieldBytes: a walk.
-/
import Derived.Test.YtggfcbncjkpkgaaM22

namespace Go.Proofs.Ytggfcbncjkpkgaa
open Go.RowKit
set_option linter.unusedVariables false

theorem own_conv6 {w : World} {base : Nat} {v : Value} {l : List UInt8} (h : Own w base v l) : (convert 30 9 v).run Try.prog w = .ok (.string ⟨l.toArray⟩) w := by
  obtain ⟨A, c, hv, hr⟩ := h.rd
  rw [hv]; exact hr.conv
theorem right_ok {l : List Fd} (h : rightL l = true) : ∀ f ∈ l, I64 f.k ∧ I64 f.g ∧ f.nm.length ≤ nmMax := fun f hf => by
  obtain ⟨i, hi⟩ := List.mem_iff_getElem?.1 hf
  have := right_at h hi
  exact ⟨i64_iff.2 (by omega), i64_iff.2 (by omega), by unfold nmMax; omega⟩
theorem DecQ.shape {w w' : World} {s : List UInt8} {e : Ending} (h : DecQ w s e w') : ∃ v er, e = .returned (.tuple #[v, .int .i64 er]) := by
  rcases h.2 with ⟨l1, v1, a1, a2, a3, a4⟩ | ⟨b1, b2⟩
  · exact ⟨_, _, a3⟩
  · exact ⟨_, _, b2⟩
/-- Two readings of the same bytes. -/
def TwoQ (w1 : World) (v1 v2 : Value) (er : Int) : Prop := ∃ A1 n c1 A2 c2 l, v1 = .slice A1 n c1 ∧ v2 = .slice A2 n c2 ∧ RdF w1 w1.heap.size A1 n c1 l ∧ RdF w1 w1.heap.size A2 n c2 l
theorem two_dec {wa wb w0 w1 : World} {s : List UInt8} {e1 e2 : Ending} (h1 : DecQ wa s e1 w0) (h2 : DecQ wb s e2 w1) (hb : Below w0.heap.size w0 w1) :
    ∃ v1 v2 er, e1 = .returned (.tuple #[v1, .int .i64 er]) ∧ e2 = .returned (.tuple #[v2, .int .i64 er]) ∧ TwoQ w1 v1 v2 er := by
  rcases h1.2 with ⟨l1, v1, a1, a2, a3, a4⟩ | ⟨b1, b2⟩
  · rcases h2.2 with ⟨l2, v2, c1, c2, c3, c4⟩ | ⟨d1, d2⟩
    · have e : l1 = l2 := encA_inj a1 c1 (by rw [a2, c2])
      subst e
      obtain ⟨A1, k1, g1, g2⟩ := (a4.on hb).rd (right_ok a1)
      obtain ⟨A2, k2, g3, g4⟩ := c4.rd (right_ok a1)
      exact ⟨v1, v2, 0, a3, c3, A1, _, k1, A2, k2, l1, g1, g3, g2, g4⟩
    · exact absurd a2 (d1 l1 a1)
  · rcases h2.2 with ⟨l2, v2, c1, c2, c3, c4⟩ | ⟨d1, d2⟩
    · exact absurd c2 (b1 l2 c1)
    · exact ⟨_, _, 60, b2, d2, none, 0, 0, none, 0, [], rfl, rfl, RdF.nil _ _, RdF.nil _ _⟩

set_option maxRecDepth 20000 in
set_option maxHeartbeats 4000000 in
theorem walk_FieldBytes (A : Option Addr) (n c : Nat) (l : List Fd) (Ab : Option Addr) (nb cb : Nat) (b : List UInt8) (w : World) (h : RdF w w.heap.size A n c l) (hb : Rd w w.heap.size Ab nb cb b) :
    Calls Try.prog 5 #[.slice A n c, .slice Ab nb cb] w fun e w' => e = .returned (.bool true) ∧ Below w.heap.size w w' := by
  have H := hid h; have HL := hid h.1; have HR := hid hb; have HRL := hid hb.1
  have hnbm : (nb : Int) ≤ 9223372036854775807 := by have := Nat.le_trans hb.2.1 hb.2.2.1; unfold maxLen at this; omega
  clear h hb
  go_enter Try.func5, Try.ntmps5
  go_wp2_with fail
  refine (few6_any H.out).mono ?_
  rintro e w1 ⟨fw, rfl, hfew, hb1⟩
  have HB1 := hid hb1; clear hb1
  cases fw with
  | false =>
    clear hfew
    go_wp2_with fail
    refine (alive_any _).mono ?_
    rintro e w2 ⟨rfl, hb2⟩
    have HB2 := hid (Bt HB1.out hb2); clear hb2
    go_wp2_with fail
    go_ret
    exact ⟨rfl, HB2.out⟩
  | true =>
    have HS := hid (hfew rfl).short
    clear hfew
    by_cases hx : (nb : Int) ≤ 2000
    case neg =>
      have d1 : decide (2000 < (nb : Int)) = true := decide_eq_true (by omega)
      go_wp2_with fail
      refine (alive_any _).mono ?_
      rintro e w2 ⟨rfl, hb2⟩
      have HB2 := hid (Bt HB1.out hb2); clear hb2
      go_wp2_with fail
      go_ret
      exact ⟨rfl, HB2.out⟩
    have d1 : decide (2000 < (nb : Int)) = false := decide_eq_false (by omega)
    obtain ⟨E, hE⟩ : ∃ E, E = encE6 l := ⟨_, rfl⟩
    have HE := hid hE
    have hEl : E.1.length ≤ 100000 := by
      rw [hE]; unfold encE6
      cases hr : rightL l with
      | false => simp
      | true =>
        have h1 := encP_len hr l.length (Nat.le_refl _)
        have h2 := right_len hr
        rw [List.take_length] at h1
        show (encA l).length ≤ 100000
        unfold encA; rw [List.length_append, le_length]; omega
    have HEL := hid hEl
    clear hE hEl
    go_wp2_with fail
    refine (p6encode_any (H.out.on HB1.out) HS.out).mono ?_
    rintro e w2 ⟨v2, rfl, ho2, hb2⟩
    rw [← HE.out] at ho2 ⊢
    have HO2 := hid ho2; have HB2 := hid (Bt HB1.out hb2)
    clear ho2 hb2
    go_wp2_with fail
    refine (r6encode_any (H.out.on HB2.out) HS.out).mono ?_
    rintro e w3 ⟨rfl, hb3⟩
    rw [← HE.out]
    have HO3 := hid (HO2.out.grown hb3); have HB3 := hid (Bt HB2.out hb3)
    clear hb3
    go_wp2_with fail
    refine (p6decode_any (HR.out.on HB3.out) (by omega)).mono ?_
    intro e4 w4 hq4
    have hb4 := hq4.1
    obtain ⟨v4, er4, he4⟩ := hq4.shape
    subst he4
    have HQ4 := hid hq4
    have HO4 := hid (HO3.out.grown hb4); have HB4 := hid (Bt HB3.out hb4)
    have hcv := (HR.out.on HB4.out).conv
    clear hb4 hq4
    go_wp2_with fail
    refine (r6decode_any b (by have := HRL.out; omega)).mono ?_
    intro e5 w5 hq5
    have hb5 := hq5.1
    obtain ⟨x1, x2, er5, y1, y2, y3⟩ := two_dec HQ4.out hq5 hb5
    subst y2
    cases y1
    obtain ⟨A1, n1, c1, A2, c2, l1, rfl, rfl, z1, z2⟩ := y3
    have HZ1 := hid z1; have HZ2 := hid z2
    have HO5 := hid (HO4.out.grown hb5); have HB5 := hid (Bt HB4.out hb5)
    obtain ⟨Ax, cx, hvx, hrx⟩ := HO5.out.rd
    subst hvx
    obtain ⟨M, hM⟩ : ∃ M, M = E.1.length := ⟨_, rfl⟩
    rw [← hM] at hrx
    have HRX := hid hrx
    have HM := hid hM
    have HEL2 : Hid (M ≤ 100000) := by rw [hM]; exact HEL.out
    clear hq5 hb5 z1 z2 hrx hcv
    rw [← hM] at HO5
    rw [← hM]
    clear hM
    go_wp2_with fail
    refine (p6decode_any HRX.out HEL2.out).mono ?_
    intro e6 w6 hq6
    have hb6 := hq6.1
    obtain ⟨v6, er6, he6⟩ := hq6.shape
    subst he6
    have HB6 := hid (Bt HB5.out hb6)
    have HZ16 := hid (HZ1.out.on hb6); have HZ26 := hid (HZ2.out.on hb6); have HRX6 := hid (HRX.out.on hb6)
    have HL6 := hid (H.out.on HB6.out)
    cases hr : rightL l with
    | false =>
      have e60 : E = ([], 60) := by rw [HE.out]; unfold encE6; rw [hr]; rfl
      subst e60
      clear hr hb6 hq6
      go_wp2_with fail
      refine (alive_any _).mono ?_
      rintro e w7 ⟨rfl, hb7⟩
      have HB7 := hid (Bt HB6.out hb7)
      have HZ17 := hid (HZ16.out.on hb7); have HZ27 := hid (HZ26.out.on hb7)
      have hcv := (HRX6.out.on hb7).conv
      clear hb7
      go_wp2_with fail
      refine (same6_any HZ17.out HZ27.out).mono ?_
      rintro e w8 ⟨rfl, hb8⟩
      have HB8 := hid (Bt HB7.out hb8)
      clear hb8 hcv
      go_wp2_with fail
      go_ret
      exact ⟨by simp, HB8.out⟩
    | true =>
      have e60 : E = (encA l, 0) := by rw [HE.out]; unfold encE6; rw [hr]; rfl
      subst e60
      obtain ⟨he0, A7, c7, hv7, hr7⟩ : er6 = 0 ∧ ∃ A7 c7, v6 = .slice A7 n c7 ∧ RdF w6 w6.heap.size A7 n c7 l := by
        rcases hq6.2 with ⟨l2, v2', a1, a2, a3, a4⟩ | ⟨b1, b2⟩
        · have e : l2 = l := encA_inj a1 hr a2
          subst e
          cases a3
          obtain ⟨A7, c7, g1, g2⟩ := a4.rd (right_ok a1)
          rw [HL.out] at g1 g2
          exact ⟨rfl, A7, c7, g1, g2⟩
        · exact absurd rfl (b1 l hr)
      subst he0; subst hv7
      have HR7 := hid hr7
      clear hr hb6 hq6 hr7
      go_wp2_with fail
      refine (alive_any _).mono ?_
      rintro e w7 ⟨rfl, hb7⟩
      have HB7 := hid (Bt HB6.out hb7)
      have HZ17 := hid (HZ16.out.on hb7); have HZ27 := hid (HZ26.out.on hb7); have HR77 := hid (HR7.out.on hb7); have HL7 := hid (HL6.out.on hb7)
      have hcv := (HRX6.out.on hb7).conv
      clear hb7
      go_wp2_with fail
      refine (same6_any HZ17.out HZ27.out).mono ?_
      rintro e w8 ⟨rfl, hb8⟩
      have HB8 := hid (Bt HB7.out hb8); have HR78 := hid (HR77.out.on hb8); have HL8 := hid (HL7.out.on hb8)
      clear hb8 hcv
      go_wp2_with fail
      refine (same6_any HR78.out HL8.out).mono ?_
      rintro e w9 ⟨rfl, hb9⟩
      have HB9 := hid (Bt HB8.out hb9)
      clear hb9
      go_wp2_with fail
      go_ret
      exact ⟨by simp, HB9.out⟩
end Go.Proofs.Ytggfcbncjkpkgaa
