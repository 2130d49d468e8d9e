/-
  The walk of ChangeOne.
-/
import Derived.Test.YtjodbopnibdolaaM35
import Derived.Test.YtjodbopnibdolaaM24

namespace Go.Proofs.Ytjodbopnibdolaa
open Go.RowKit
set_option linter.unusedVariables false
set_option linter.unusedSimpArgs false

set_option maxRecDepth 20000 in
set_option maxHeartbeats 16000000 in
theorem walk_ChangeOne (A : Option Addr) (n cp : Nat) (l : List Fd) (c : Ch) (Ao : Option Addr) (no co : Nat) (w : World) (h : RdF w w.heap.size A n cp l) (hc : ChA w c Ao no co) :
    Calls Try.prog 3 #[.slice A n cp, chV c Ao no co] w fun e w' => e = .returned (.bool true) ∧ Below w.heap.size w w' := by
  obtain ⟨w0, hw0⟩ : ∃ w0, w0 = w.alloc (.cells #[.int .i64 c.op, .string (bs c.nm), .string (bs c.to.nm), .int .i64 c.to.k, .int .i64 c.to.g, .int .i64 c.dk, .int .u64 c.dn, .string c.dt, .slice Ao no co] 30) := ⟨_, rfl⟩
  obtain ⟨rc, hrc⟩ : ∃ rc, rc = w.heap.size := ⟨_, rfl⟩
  have HW0 := hid hw0; have HRC := hid hrc
  have HC0 : Hid (CB w0 rc c Ao no co 30) := by rw [hw0, hrc]; exact hid (CB.new w c Ao no co _)
  have HB0 : Hid (Below w.heap.size w w0) := by rw [hw0]; exact hid (B1 _ _)
  have H := hid (h.on HB0.out); have HA := hid (hc.on HB0.out)
  obtain ⟨g, hg⟩ : ∃ g, g = w0.heap.size := ⟨_, rfl⟩
  obtain ⟨w1, hw1⟩ : ∃ w1, w1 = w0.alloc (.cells #[.int .i64 c.op, .string (bs c.nm), .string (bs c.to.nm), .int .i64 c.to.k, .int .i64 c.to.g, .int .i64 c.dk, .int .u64 c.dn, .string c.dt, .slice Ao no co] 30) := ⟨_, rfl⟩
  have HG := hid hg; have HW1 := hid hw1
  have HB1 : Hid (Below w0.heap.size w0 w1) := by rw [hw1]; exact hid (B1 _ _)
  have HR1 : Hid (RdC w1 w1.heap.size (some ⟨g, 0, none⟩) 1 1 [c]) := hid (rdC_one (HA.out.on HB1.out) (by rw [hw1, hg]; exact heap_alloc_new _ _))
  clear h hc hw0 hrc hg hw1
  obtain ⟨k0, k1, k2, k3, k4, k5, k6, k7, k8⟩ := HC0.out.cells
  unfold chV
  go_enter Try.func3, Try.ntmps3
  go_upto_region 1 with fail
  rw [← HW0.out, ← HRC.out]
  go_wp2_with fail
  rw [← HW1.out, ← HG.out]
  refine (few8_any (H.out.on HB1.out) HR1.out (fun x hx => by simp at hx; subst hx; exact HA.out.2.1)).mono ?_
  rintro e w2 ⟨fb, rfl, hfew, hb2⟩
  have HFEW := hid hfew
  have HB2 := hid (Bt HB1.out hb2)
  clear hfew hb2 k0 k1 k2 k3 k4 k5 k6 k7 k8
  cases fb with
  | false =>
    go_wp2_with fail
    refine (alive8_any _).mono ?_
    rintro e w3 ⟨rfl, hb3⟩
    go_wp2_with fail
    go_ret
    exact ⟨rfl, Bt HB0.out (Bt HB2.out hb3)⟩
  | true =>
    have HF := hid (HFEW.out rfl)
    have HCK : Hid (chOk c) := hid (few_chOk HF.out (by simp) HA.out.1)
    have HNO : Hid (no ≤ 1000000) := hid (by have := HF.out.2.2.2 c (by simp); unfold wtC at this; have := HA.out.2.2.1; omega)
    obtain ⟨me, hme⟩ : ∃ me, me = mkE l c := ⟨_, rfl⟩
    have HME := hid hme
    clear hme
    obtain ⟨k0, k1, k2, k3, k4, k5, k6, k7, k8⟩ := (HC0.out.on HB2.out).cells
    go_wp2_with fail
    refine (p8make_any (c := c) (H.out.on HB2.out) (few_short HF.out) HCK.out (HA.out.on HB2.out).2.2).mono ?_
    rintro e w3 ⟨v3, rfl, ⟨B1', m1, d1, B2', m2, d2, B3', m3, d3, rfl, h1, h2, h3⟩, hb3⟩
    rw [← HME.out]
    obtain ⟨q, hq⟩ : ∃ q, q = w3.heap.size := ⟨_, rfl⟩
    obtain ⟨w4, hw4⟩ : ∃ w4, w4 = w3.alloc (.cells #[.slice B1' m1 d1, .slice B2' m2 d2, .slice B3' m3 d3] 36) := ⟨_, rfl⟩
    have HQ := hid hq; have HW4 := hid hw4
    have HT : Hid (TBx w4 q (.slice B1' m1 d1) (.slice B2' m2 d2) (.slice B3' m3 d3) 36) := by rw [hw4, hq]; exact hid (tb_new _ _ _ _ _)
    have HRT : Hid (RdT w4 w4.heap.size (.agg #[.slice B1' m1 d1, .slice B2' m2 d2, .slice B3' m3 d3]) (mkT l c)) := by rw [hw4]; exact hid (RdT.on ⟨_, _, _, _, _, _, _, _, _, rfl, h1, h2, h3⟩ (B1 _ _))
    have HB4 : Hid (Below w0.heap.size w0 w4) := by rw [hw4]; exact hid (Ba (Bt HB2.out hb3) _)
    clear h1 h2 h3 hb3 hq hw4 k0 k1 k2 k3 k4 k5 k6 k7 k8
    go_upto_region 4 with fail
    rw [← HW4.out, ← HQ.out]
    obtain ⟨k0, k1, k2, k3, k4, k5, k6, k7, k8⟩ := (HC0.out.on HB4.out).cells
    go_wp2_with fail
    refine (r8make_any (c := c) (H.out.on HB4.out) (few_short HF.out) HCK.out (HA.out.on HB4.out).2.2 HNO.out).mono ?_
    rintro e w5 ⟨v5, rfl, ⟨C1, e1, f1, C2, e2, f2, C3, e3, f3, rfl, i1, i2, i3⟩, hb5⟩
    rw [← HME.out]
    obtain ⟨q2, hq2⟩ : ∃ q2, q2 = w5.heap.size := ⟨_, rfl⟩
    obtain ⟨w6, hw6⟩ : ∃ w6, w6 = w5.alloc (.cells #[.slice C1 e1 f1, .slice C2 e2 f2, .slice C3 e3 f3] 43) := ⟨_, rfl⟩
    have HQ2 := hid hq2; have HW6 := hid hw6
    have HU : Hid (TBx w6 q2 (.slice C1 e1 f1) (.slice C2 e2 f2) (.slice C3 e3 f3) 43) := by rw [hw6, hq2]; exact hid (tb_new _ _ _ _ _)
    have HRU : Hid (RdT w6 w6.heap.size (.agg #[.slice C1 e1 f1, .slice C2 e2 f2, .slice C3 e3 f3]) (mkT l c)) := by rw [hw6]; exact hid (RdT.on ⟨_, _, _, _, _, _, _, _, _, rfl, i1, i2, i3⟩ (B1 _ _))
    have HB46 : Hid (Below w4.heap.size w4 w6) := by rw [hw6]; exact hid (Ba hb5 _)
    have HB6 := hid (Bt HB4.out HB46.out)
    clear i1 i2 i3 hb5 hq2 hw6 k0 k1 k2 k3 k4 k5 k6 k7 k8
    go_upto_region 5 with fail
    rw [← HW6.out, ← HQ2.out]
    obtain ⟨k0, k1, k2, k3, k4, k5, k6, k7, k8⟩ := (HC0.out.on HB6.out).cells
    go_wp2_with fail
    refine (p8apply_any (c := c) (H.out.on HB6.out) (few_short HF.out) HCK.out (HA.out.on HB6.out).2.2).mono ?_
    rintro e w7 ⟨A7, n7, c7, rfl, h7, hb7⟩
    rw [← HME.out]
    have HB7 := hid (Bt HB6.out hb7)
    have HT7 := hid (HT.out.on (Bt HB46.out hb7))
    have HRT7 := hid (HRT.out.on (Bt HB46.out hb7))
    have HU7 := hid (HU.out.on hb7)
    have HRU7 := hid (HRU.out.on hb7)
    have H7 := hid h7
    have HMV : Hid ((mkT l c).mv.length ≤ 1000000) := hid (by
      by_cases e : mkE l c = 0
      · have := (rightT_iff.1 (mkT_right e)).2.2.1
        have := right_len (rightT_iff.1 (mkT_right e)).2.1
        omega
      · rw [mkT_no e]; exact Nat.zero_le _)
    have HNW : Hid (RdF w6 w6.heap.size C2 e2 f2 (mkT l c).nw) := by
      obtain ⟨_, _, _, _, _, _, _, _, _, e, _, r2, _⟩ := HRU.out
      cases e; exact hid r2
    have HNW7 := hid (HNW.out.on hb7)
    clear h7 hb7 k0 k1 k2 k3 k4 k5 k6 k7 k8
    go_upto_region 6 with fail
    by_cases hm0 : me = 0
    · have HM0 : Hid (mkE l c = 0) := hid (by rw [← HME.out]; exact hm0)
      have HRGT : Hid (rightT (mkT l c) = true) := hid (mkT_right HM0.out)
      have HSH : Hid (shortT (mkT l c)) := hid (mkT_short HM0.out)
      subst hm0
      refine reg_begin (by kernel_rfl) (fun w0a hx0a hHeld => ?_)
      have s0 : ∀ w', Ext w0a w' → TBx w' q (.slice B1' m1 d1) (.slice B2' m2 d2) (.slice B3' m3 d3) 36 := fun w' h => HT7.out.on (hx0a.trans h)
      have s1 := fun w' h => (s0 w' h).cells.1
      have s2 := fun w' h => (s0 w' h).cells.2.1
      have s3 := fun w' h => (s0 w' h).cells.2.2
      have u0 : ∀ w', Ext w0a w' → TBx w' q2 (.slice C1 e1 f1) (.slice C2 e2 f2) (.slice C3 e3 f3) 43 := fun w' h => HU7.out.on (hx0a.trans h)
      have u1 := fun w' h => (u0 w' h).cells.1
      have u2 := fun w' h => (u0 w' h).cells.2.1
      have u3 := fun w' h => (u0 w' h).cells.2.2
      have HX0 := hid hx0a
      clear s0 u0
      refine wpAnyH_ready (rs := [0]) (by kernel_rfl) (by simp) ?_
      refine AllReadyH.cons at0 (fun K hK => ?_) AllReadyH.nil
      go_simp
      refine (alive8_any _).mono ?_
      rintro e w8a ⟨rfl, hb8⟩
      have HB8 := hid hb8
      clear hb8
      go_wp2_with fail
      refine hK.out _ _ HB8.out (fun hHeld => ?_)
      clear hK K
      try simp only [Act.put, List.setIfInBounds_toArray, List.set_cons_zero, List.set_cons_succ]
      refine reg_take 1 (v := ?vb1) (atS at0) (by kernel_rfl) (by kernel_rfl) (by kernel_rfl) (by rfl) ?hyb1 hHeld ?restb1
      case hyb1 => (intro w' hSw; go_simp; try with_reducible rfl)
      try simp only [Act.put, List.setIfInBounds_toArray, List.set_cons_zero, List.set_cons_succ]
      refine reg_take 2 (v := ?vb2) (atS (atS at0)) (by kernel_rfl) (by kernel_rfl) (by kernel_rfl) (by rfl) ?hyb2 hHeld ?restb2
      case hyb2 => (intro w' hSw; go_simp; try with_reducible rfl)
      try simp only [Act.put, List.setIfInBounds_toArray, List.set_cons_zero, List.set_cons_succ]
      refine reg_take 4 (v := ?vb4) (atS (atS (atS (atS at0)))) (by kernel_rfl) (by kernel_rfl) (by kernel_rfl) (by rfl) ?hyb4 hHeld ?restb4
      case hyb4 => (intro w' hSw; go_simp; try with_reducible rfl)
      try simp only [Act.put, List.setIfInBounds_toArray, List.set_cons_zero, List.set_cons_succ]
      refine wpAnyH_ready (rs := [3]) (by kernel_rfl) (by simp) ?_
      refine AllReadyH.cons (atS (atS (atS at0))) (fun K hK => ?_) AllReadyH.nil
      go_simp
      refine (plain_any (HRT7.out.on (HX0.out.trans hHeld)) HMV.out).mono ?_
      rintro e w9a ⟨v9, rfl, hv9, hb9⟩
      have HV9 := hid hv9
      have HB9 : Hid (Ext w0a w9a) := hid (Ext.trans hHeld hb9)
      clear hv9 hb9
      go_wp2_with fail
      refine hK.out _ _ HB9.out (fun hHeld => ?_)
      clear hK K
      try simp only [Act.put, List.setIfInBounds_toArray, List.set_cons_zero, List.set_cons_succ]
      refine wpAnyH_ready (rs := [5]) (by kernel_rfl) (by simp) ?_
      refine AllReadyH.cons (atS5 at0) (fun K hK => ?_) AllReadyH.nil
      go_simp
      refine (r7equal_any HV9.out (HRU7.out.on (HX0.out.trans hHeld))).mono ?_
      rintro e w10a ⟨rfl, hb10⟩
      have HB10 : Hid (Ext w0a w10a) := hid (Ext.trans hHeld hb10)
      clear hb10
      go_wp2_with fail
      refine hK.out _ _ HB10.out (fun hHeld => ?_)
      clear hK K
      try simp only [Act.put, List.setIfInBounds_toArray, List.set_cons_zero, List.set_cons_succ]
      refine reg_take 6 (v := ?vb6) (atS5 (atS at0)) (by kernel_rfl) (by kernel_rfl) (by kernel_rfl) (by rfl) ?hyb6 hHeld ?restb6
      case hyb6 => (intro w' hSw; go_simp; try with_reducible rfl)
      try simp only [Act.put, List.setIfInBounds_toArray, List.set_cons_zero, List.set_cons_succ]
      refine reg_take 7 (v := ?vb7) (atS5 (atS (atS at0))) (by kernel_rfl) (by kernel_rfl) (by kernel_rfl) (by rfl) ?hyb7 hHeld ?restb7
      case hyb7 => (intro w' hSw; go_simp; try with_reducible rfl)
      try simp only [Act.put, List.setIfInBounds_toArray, List.set_cons_zero, List.set_cons_succ]
      refine reg_take 8 (v := ?vb8) (atS5 (atS (atS (atS at0)))) (by kernel_rfl) (by kernel_rfl) (by kernel_rfl) (by rfl) ?hyb8 hHeld ?restb8
      case hyb8 => (intro w' hSw; go_simp; try with_reducible rfl)
      try simp only [Act.put, List.setIfInBounds_toArray, List.set_cons_zero, List.set_cons_succ]
      refine reg_take 9 (v := ?vb9) (atS5 (atS (atS (atS (atS at0))))) (by kernel_rfl) (by kernel_rfl) (by kernel_rfl) (by rfl) ?hyb9 hHeld ?restb9
      case hyb9 => (intro w' hSw; go_simp; try with_reducible rfl)
      try simp only [Act.put, List.setIfInBounds_toArray, List.set_cons_zero, List.set_cons_succ]
      refine reg_take 10 (v := ?vb10) (atS5 (atS5 at0)) (by kernel_rfl) (by kernel_rfl) (by kernel_rfl) (by rfl) ?hyb10 hHeld ?restb10
      case hyb10 => (intro w' hSw; go_simp; try with_reducible rfl)
      try simp only [Act.put, List.setIfInBounds_toArray, List.set_cons_zero, List.set_cons_succ]
      refine reg_take 11 (v := ?vb11) (atS5 (atS5 (atS at0))) (by kernel_rfl) (by kernel_rfl) (by kernel_rfl) (by rfl) ?hyb11 hHeld ?restb11
      case hyb11 => (intro w' hSw; go_simp; try with_reducible rfl)
      try simp only [Act.put, List.setIfInBounds_toArray, List.set_cons_zero, List.set_cons_succ]
      refine reg_take 12 (v := ?vb12) (atS5 (atS5 (atS (atS at0)))) (by kernel_rfl) (by kernel_rfl) (by kernel_rfl) (by rfl) ?hyb12 hHeld ?restb12
      case hyb12 => (intro w' hSw; go_simp; try with_reducible rfl)
      try simp only [Act.put, List.setIfInBounds_toArray, List.set_cons_zero, List.set_cons_succ]
      refine reg_take 13 (v := ?vb13) (atS5 (atS5 (atS (atS (atS at0))))) (by kernel_rfl) (by kernel_rfl) (by kernel_rfl) (by rfl) ?hyb13 hHeld ?restb13
      case hyb13 => (intro w' hSw; go_simp; try with_reducible rfl)
      try simp only [Act.put, List.setIfInBounds_toArray, List.set_cons_zero, List.set_cons_succ]
      refine reg_take 14 (v := ?vb14) (atS5 (atS5 (atS (atS (atS (atS at0)))))) (by kernel_rfl) (by kernel_rfl) (by kernel_rfl) (by rfl) ?hyb14 hHeld ?restb14
      case hyb14 => (intro w' hSw; go_simp; try with_reducible rfl)
      try simp only [Act.put, List.setIfInBounds_toArray, List.set_cons_zero, List.set_cons_succ]
      refine reg_take 15 (v := ?vb15) (atS5 (atS5 (atS5 at0))) (by kernel_rfl) (by kernel_rfl) (by kernel_rfl) (by rfl) ?hyb15 hHeld ?restb15
      case hyb15 => (intro w' hSw; go_simp; try with_reducible rfl)
      try simp only [Act.put, List.setIfInBounds_toArray, List.set_cons_zero, List.set_cons_succ]
      refine wpAnyH_ready (rs := [16]) (by kernel_rfl) (by simp) ?_
      refine AllReadyH.cons (atS5 (atS5 (atS5 (atS at0)))) (fun K hK => ?_) AllReadyH.nil
      go_simp
      refine (r6same_any (H7.out.on (HX0.out.trans hHeld)) (HNW7.out.on (HX0.out.trans hHeld))).mono ?_
      rintro e w11a ⟨rfl, hb11⟩
      rw [decide_eq_true rfl]
      have HB11 : Hid (Ext w0a w11a) := hid (Ext.trans hHeld hb11)
      clear hb11
      go_wp2_with fail
      refine hK.out _ _ HB11.out (fun hHeld => ?_)
      clear hK K
      try simp only [Act.put, List.setIfInBounds_toArray, List.set_cons_zero, List.set_cons_succ]
      refine reg_take 17 (v := ?vb17) (atS5 (atS5 (atS5 (atS (atS at0))))) (by kernel_rfl) (by kernel_rfl) (by kernel_rfl) (by rfl) ?hyb17 hHeld ?restb17
      case hyb17 => (intro w' hSw; go_simp; try with_reducible rfl)
      try simp only [Act.put, List.setIfInBounds_toArray, List.set_cons_zero, List.set_cons_succ]
      refine reg_take 18 (v := ?vb18) (atS5 (atS5 (atS5 (atS (atS (atS at0)))))) (by kernel_rfl) (by kernel_rfl) (by kernel_rfl) (by rfl) ?hyb18 hHeld ?restb18
      case hyb18 => (intro w' hSw; go_simp; try with_reducible rfl)
      try simp only [Act.put, List.setIfInBounds_toArray, List.set_cons_zero, List.set_cons_succ]
      refine reg_take 19 (v := ?vb19) (atS5 (atS5 (atS5 (atS (atS (atS (atS at0))))))) (by kernel_rfl) (by kernel_rfl) (by kernel_rfl) (by rfl) ?hyb19 hHeld ?restb19
      case hyb19 => (intro w' hSw; go_simp; try with_reducible rfl)
      try simp only [Act.put, List.setIfInBounds_toArray, List.set_cons_zero, List.set_cons_succ]
      refine reg_take 20 (v := ?vb20) (atS5 (atS5 (atS5 (atS5 at0)))) (by kernel_rfl) (by kernel_rfl) (by kernel_rfl) (by rfl) ?hyb20 hHeld ?restb20
      case hyb20 => (intro w' hSw; go_simp; try with_reducible rfl)
      try simp only [Act.put, List.setIfInBounds_toArray, List.set_cons_zero, List.set_cons_succ]
      refine reg_take 21 (v := ?vb21) (atS5 (atS5 (atS5 (atS5 (atS at0))))) (by kernel_rfl) (by kernel_rfl) (by kernel_rfl) (by rfl) ?hyb21 hHeld ?restb21
      case hyb21 => (intro w' hSw; go_simp; try with_reducible rfl)
      try simp only [Act.put, List.setIfInBounds_toArray, List.set_cons_zero, List.set_cons_succ]
      refine reg_take 22 (v := ?vb22) (atS5 (atS5 (atS5 (atS5 (atS (atS at0)))))) (by kernel_rfl) (by kernel_rfl) (by kernel_rfl) (by rfl) ?hyb22 hHeld ?restb22
      case hyb22 => (intro w' hSw; go_simp; try with_reducible rfl)
      try simp only [Act.put, List.setIfInBounds_toArray, List.set_cons_zero, List.set_cons_succ]
      refine reg_take 23 (v := ?vb23) (atS5 (atS5 (atS5 (atS5 (atS (atS (atS at0))))))) (by kernel_rfl) (by kernel_rfl) (by kernel_rfl) (by rfl) ?hyb23 hHeld ?restb23
      case hyb23 => (intro w' hSw; go_simp; try with_reducible rfl)
      try simp only [Act.put, List.setIfInBounds_toArray, List.set_cons_zero, List.set_cons_succ]
      refine reg_take 24 (v := ?vb24) (atS5 (atS5 (atS5 (atS5 (atS (atS (atS (atS at0)))))))) (by kernel_rfl) (by kernel_rfl) (by kernel_rfl) (by rfl) ?hyb24 hHeld ?restb24
      case hyb24 => (intro w' hSw; go_simp; try with_reducible rfl)
      try simp only [Act.put, List.setIfInBounds_toArray, List.set_cons_zero, List.set_cons_succ]
      refine reg_take 25 (v := ?vb25) (atS5 (atS5 (atS5 (atS5 (atS5 at0))))) (by kernel_rfl) (by kernel_rfl) (by kernel_rfl) (by rfl) ?hyb25 hHeld ?restb25
      case hyb25 => (intro w' hSw; go_simp; try with_reducible rfl)
      try simp only [Act.put, List.setIfInBounds_toArray, List.set_cons_zero, List.set_cons_succ]
      refine reg_take 26 (v := ?vb26) (atS5 (atS5 (atS5 (atS5 (atS5 (atS at0)))))) (by kernel_rfl) (by kernel_rfl) (by kernel_rfl) (by rfl) ?hyb26 hHeld ?restb26
      case hyb26 => (intro w' hSw; go_simp; try with_reducible rfl)
      try simp only [Act.put, List.setIfInBounds_toArray, List.set_cons_zero, List.set_cons_succ]
      refine reg_take 27 (v := ?vb27) (atS5 (atS5 (atS5 (atS5 (atS5 (atS (atS at0))))))) (by kernel_rfl) (by kernel_rfl) (by kernel_rfl) (by rfl) ?hyb27 hHeld ?restb27
      case hyb27 => (intro w' hSw; go_simp; try with_reducible rfl)
      try simp only [Act.put, List.setIfInBounds_toArray, List.set_cons_zero, List.set_cons_succ]
      refine wpAnyH_ready (rs := [28]) (by kernel_rfl) (by simp) ?_
      refine AllReadyH.cons (atS5 (atS5 (atS5 (atS5 (atS5 (atS (atS (atS at0)))))))) (fun K hK => ?_) AllReadyH.nil
      go_simp
      refine (p7right_any (HRT7.out.on (HX0.out.trans hHeld)) HSH.out).mono ?_
      rintro e w12a ⟨rfl, hb12⟩
      rw [HRGT.out]
      have HB12 : Hid (Ext w0a w12a) := hid (Ext.trans hHeld hb12)
      clear hb12
      go_wp2_with fail
      refine hK.out _ _ HB12.out (fun hHeld => ?_)
      clear hK K
      try simp only [Act.put, List.setIfInBounds_toArray, List.set_cons_zero, List.set_cons_succ]
      refine reg_take 29 (v := ?vb29) (atS5 (atS5 (atS5 (atS5 (atS5 (atS (atS (atS (atS at0))))))))) (by kernel_rfl) (by kernel_rfl) (by kernel_rfl) (by rfl) ?hyb29 hHeld ?restb29
      case hyb29 => (intro w' hSw; go_simp; try with_reducible rfl)
      try simp only [Act.put, List.setIfInBounds_toArray, List.set_cons_zero, List.set_cons_succ]
      refine reg_take 30 (v := ?vb30) (atS5 (atS5 (atS5 (atS5 (atS5 (atS5 at0)))))) (by kernel_rfl) (by kernel_rfl) (by kernel_rfl) (by rfl) ?hyb30 hHeld ?restb30
      case hyb30 => (intro w' hSw; go_simp; try with_reducible rfl)
      try simp only [Act.put, List.setIfInBounds_toArray, List.set_cons_zero, List.set_cons_succ]
      refine reg_take 31 (v := ?vb31) (atS5 (atS5 (atS5 (atS5 (atS5 (atS5 (atS at0))))))) (by kernel_rfl) (by kernel_rfl) (by kernel_rfl) (by rfl) ?hyb31 hHeld ?restb31
      case hyb31 => (intro w' hSw; go_simp; try with_reducible rfl)
      try simp only [Act.put, List.setIfInBounds_toArray, List.set_cons_zero, List.set_cons_succ]
      refine wpAnyH_done (by kernel_rfl) ?_ _
      refine NoPanic.normal ?_
      clear s1 s2 s3 u1 u2 u3
      go_wp2_with fail
      go_ret
      exact ⟨rfl, Bt HB0.out (Bt HB7.out (HX0.out.trans HB12.out))⟩
    · have t0 : (me != 0) = true := by simpa using hm0
      clear hm0
      refine reg_begin (by kernel_rfl) (fun w0b hx0b hHeld => ?_)
      have s0 : ∀ w', Ext w0b w' → TBx w' q (.slice B1' m1 d1) (.slice B2' m2 d2) (.slice B3' m3 d3) 36 := fun w' h => HT7.out.on (hx0b.trans h)
      have s1 := fun w' h => (s0 w' h).cells.1
      have s2 := fun w' h => (s0 w' h).cells.2.1
      have s3 := fun w' h => (s0 w' h).cells.2.2
      have u0 : ∀ w', Ext w0b w' → TBx w' q2 (.slice C1 e1 f1) (.slice C2 e2 f2) (.slice C3 e3 f3) 43 := fun w' h => HU7.out.on (hx0b.trans h)
      have u1 := fun w' h => (u0 w' h).cells.1
      have u2 := fun w' h => (u0 w' h).cells.2.1
      have u3 := fun w' h => (u0 w' h).cells.2.2
      have HX0 := hid hx0b
      clear s0 u0
      refine wpAnyH_ready (rs := [0]) (by kernel_rfl) (by simp) ?_
      refine AllReadyH.cons at0 (fun K hK => ?_) AllReadyH.nil
      go_simp
      refine (alive8_any _).mono ?_
      rintro e w8b ⟨rfl, hb8⟩
      have HB8 := hid hb8
      clear hb8
      go_wp2_with fail
      refine hK.out _ _ HB8.out (fun hHeld => ?_)
      clear hK K
      try simp only [Act.put, List.setIfInBounds_toArray, List.set_cons_zero, List.set_cons_succ]
      refine reg_take 1 (v := ?vc1) (atS at0) (by kernel_rfl) (by kernel_rfl) (by kernel_rfl) (by rfl) ?hyc1 hHeld ?restc1
      case hyc1 => (intro w' hSw; go_simp; try with_reducible rfl)
      try simp only [Act.put, List.setIfInBounds_toArray, List.set_cons_zero, List.set_cons_succ]
      refine reg_take 2 (v := ?vc2) (atS (atS at0)) (by kernel_rfl) (by kernel_rfl) (by kernel_rfl) (by rfl) ?hyc2 hHeld ?restc2
      case hyc2 => (intro w' hSw; go_simp; try with_reducible rfl)
      try simp only [Act.put, List.setIfInBounds_toArray, List.set_cons_zero, List.set_cons_succ]
      refine reg_take 4 (v := ?vc4) (atS (atS (atS (atS at0)))) (by kernel_rfl) (by kernel_rfl) (by kernel_rfl) (by rfl) ?hyc4 hHeld ?restc4
      case hyc4 => (intro w' hSw; go_simp; try with_reducible rfl)
      try simp only [Act.put, List.setIfInBounds_toArray, List.set_cons_zero, List.set_cons_succ]
      refine wpAnyH_ready (rs := [3]) (by kernel_rfl) (by simp) ?_
      refine AllReadyH.cons (atS (atS (atS at0))) (fun K hK => ?_) AllReadyH.nil
      go_simp
      refine (plain_any (HRT7.out.on (HX0.out.trans hHeld)) HMV.out).mono ?_
      rintro e w9b ⟨v9, rfl, hv9, hb9⟩
      have HV9 := hid hv9
      have HB9 : Hid (Ext w0b w9b) := hid (Ext.trans hHeld hb9)
      clear hv9 hb9
      go_wp2_with fail
      refine hK.out _ _ HB9.out (fun hHeld => ?_)
      clear hK K
      try simp only [Act.put, List.setIfInBounds_toArray, List.set_cons_zero, List.set_cons_succ]
      refine wpAnyH_ready (rs := [5]) (by kernel_rfl) (by simp) ?_
      refine AllReadyH.cons (atS5 at0) (fun K hK => ?_) AllReadyH.nil
      go_simp
      refine (r7equal_any HV9.out (HRU7.out.on (HX0.out.trans hHeld))).mono ?_
      rintro e w10b ⟨rfl, hb10⟩
      have HB10 : Hid (Ext w0b w10b) := hid (Ext.trans hHeld hb10)
      clear hb10
      go_wp2_with fail
      refine hK.out _ _ HB10.out (fun hHeld => ?_)
      clear hK K
      try simp only [Act.put, List.setIfInBounds_toArray, List.set_cons_zero, List.set_cons_succ]
      refine reg_take 6 (v := ?vc6) (atS5 (atS at0)) (by kernel_rfl) (by kernel_rfl) (by kernel_rfl) (by rfl) ?hyc6 hHeld ?restc6
      case hyc6 => (intro w' hSw; go_simp; try with_reducible rfl)
      try simp only [Act.put, List.setIfInBounds_toArray, List.set_cons_zero, List.set_cons_succ]
      refine reg_take 7 (v := ?vc7) (atS5 (atS (atS at0))) (by kernel_rfl) (by kernel_rfl) (by kernel_rfl) (by rfl) ?hyc7 hHeld ?restc7
      case hyc7 => (intro w' hSw; go_simp; try with_reducible rfl)
      try simp only [Act.put, List.setIfInBounds_toArray, List.set_cons_zero, List.set_cons_succ]
      refine reg_take 8 (v := ?vc8) (atS5 (atS (atS (atS at0)))) (by kernel_rfl) (by kernel_rfl) (by kernel_rfl) (by rfl) ?hyc8 hHeld ?restc8
      case hyc8 => (intro w' hSw; go_simp; try with_reducible rfl)
      try simp only [Act.put, List.setIfInBounds_toArray, List.set_cons_zero, List.set_cons_succ]
      refine reg_take 9 (v := ?vc9) (atS5 (atS (atS (atS (atS at0))))) (by kernel_rfl) (by kernel_rfl) (by kernel_rfl) (by rfl) ?hyc9 hHeld ?restc9
      case hyc9 => (intro w' hSw; go_simp; try with_reducible rfl)
      try simp only [Act.put, List.setIfInBounds_toArray, List.set_cons_zero, List.set_cons_succ]
      refine reg_take 10 (v := ?vc10) (atS5 (atS5 at0)) (by kernel_rfl) (by kernel_rfl) (by kernel_rfl) (by rfl) ?hyc10 hHeld ?restc10
      case hyc10 => (intro w' hSw; go_simp; try with_reducible rfl)
      try simp only [Act.put, List.setIfInBounds_toArray, List.set_cons_zero, List.set_cons_succ]
      refine reg_take 11 (v := ?vc11) (atS5 (atS5 (atS at0))) (by kernel_rfl) (by kernel_rfl) (by kernel_rfl) (by rfl) ?hyc11 hHeld ?restc11
      case hyc11 => (intro w' hSw; go_simp; try with_reducible rfl)
      try simp only [Act.put, List.setIfInBounds_toArray, List.set_cons_zero, List.set_cons_succ]
      refine reg_take 12 (v := ?vc12) (atS5 (atS5 (atS (atS at0)))) (by kernel_rfl) (by kernel_rfl) (by kernel_rfl) (by rfl) ?hyc12 hHeld ?restc12
      case hyc12 => (intro w' hSw; go_simp; try with_reducible rfl)
      try simp only [Act.put, List.setIfInBounds_toArray, List.set_cons_zero, List.set_cons_succ]
      refine reg_take 13 (v := ?vc13) (atS5 (atS5 (atS (atS (atS at0))))) (by kernel_rfl) (by kernel_rfl) (by kernel_rfl) (by rfl) ?hyc13 hHeld ?restc13
      case hyc13 => (intro w' hSw; go_simp; try with_reducible rfl)
      try simp only [Act.put, List.setIfInBounds_toArray, List.set_cons_zero, List.set_cons_succ]
      refine reg_take 14 (v := ?vc14) (atS5 (atS5 (atS (atS (atS (atS at0)))))) (by kernel_rfl) (by kernel_rfl) (by kernel_rfl) (by rfl) ?hyc14 hHeld ?restc14
      case hyc14 => (intro w' hSw; go_simp; try with_reducible rfl)
      try simp only [Act.put, List.setIfInBounds_toArray, List.set_cons_zero, List.set_cons_succ]
      refine reg_take 15 (v := ?vc15) (atS5 (atS5 (atS5 at0))) (by kernel_rfl) (by kernel_rfl) (by kernel_rfl) (by rfl) ?hyc15 hHeld ?restc15
      case hyc15 => (intro w' hSw; go_simp; try with_reducible rfl)
      try simp only [Act.put, List.setIfInBounds_toArray, List.set_cons_zero, List.set_cons_succ]
      refine wpAnyH_ready (rs := [16]) (by kernel_rfl) (by simp) ?_
      refine AllReadyH.cons (atS5 (atS5 (atS5 (atS at0)))) (fun K hK => ?_) AllReadyH.nil
      go_simp
      refine (r6same_any (H7.out.on (HX0.out.trans hHeld)) (HNW7.out.on (HX0.out.trans hHeld))).mono ?_
      rintro e w11b ⟨rfl, hb11⟩
      rw [decide_eq_true rfl]
      have HB11 : Hid (Ext w0b w11b) := hid (Ext.trans hHeld hb11)
      clear hb11
      go_wp2_with fail
      refine hK.out _ _ HB11.out (fun hHeld => ?_)
      clear hK K
      try simp only [Act.put, List.setIfInBounds_toArray, List.set_cons_zero, List.set_cons_succ]
      refine reg_take 17 (v := ?vc17) (atS5 (atS5 (atS5 (atS (atS at0))))) (by kernel_rfl) (by kernel_rfl) (by kernel_rfl) (by rfl) ?hyc17 hHeld ?restc17
      case hyc17 => (intro w' hSw; go_simp; try with_reducible rfl)
      try simp only [Act.put, List.setIfInBounds_toArray, List.set_cons_zero, List.set_cons_succ]
      refine reg_take 18 (v := ?vc18) (atS5 (atS5 (atS5 (atS (atS (atS at0)))))) (by kernel_rfl) (by kernel_rfl) (by kernel_rfl) (by rfl) ?hyc18 hHeld ?restc18
      case hyc18 => (intro w' hSw; go_simp; try with_reducible rfl)
      try simp only [Act.put, List.setIfInBounds_toArray, List.set_cons_zero, List.set_cons_succ]
      refine reg_take 19 (v := ?vc19) (atS5 (atS5 (atS5 (atS (atS (atS (atS at0))))))) (by kernel_rfl) (by kernel_rfl) (by kernel_rfl) (by rfl) ?hyc19 hHeld ?restc19
      case hyc19 => (intro w' hSw; go_simp; try with_reducible rfl)
      try simp only [Act.put, List.setIfInBounds_toArray, List.set_cons_zero, List.set_cons_succ]
      refine reg_take 20 (v := ?vc20) (atS5 (atS5 (atS5 (atS5 at0)))) (by kernel_rfl) (by kernel_rfl) (by kernel_rfl) (by rfl) ?hyc20 hHeld ?restc20
      case hyc20 => (intro w' hSw; go_simp; try with_reducible rfl)
      try simp only [Act.put, List.setIfInBounds_toArray, List.set_cons_zero, List.set_cons_succ]
      refine reg_take 21 (v := ?vc21) (atS5 (atS5 (atS5 (atS5 (atS at0))))) (by kernel_rfl) (by kernel_rfl) (by kernel_rfl) (by rfl) ?hyc21 hHeld ?restc21
      case hyc21 => (intro w' hSw; go_simp; try with_reducible rfl)
      try simp only [Act.put, List.setIfInBounds_toArray, List.set_cons_zero, List.set_cons_succ]
      refine reg_take 22 (v := ?vc22) (atS5 (atS5 (atS5 (atS5 (atS (atS at0)))))) (by kernel_rfl) (by kernel_rfl) (by kernel_rfl) (by rfl) ?hyc22 hHeld ?restc22
      case hyc22 => (intro w' hSw; go_simp; try with_reducible rfl)
      try simp only [Act.put, List.setIfInBounds_toArray, List.set_cons_zero, List.set_cons_succ]
      refine reg_take 23 (v := ?vc23) (atS5 (atS5 (atS5 (atS5 (atS (atS (atS at0))))))) (by kernel_rfl) (by kernel_rfl) (by kernel_rfl) (by rfl) ?hyc23 hHeld ?restc23
      case hyc23 => (intro w' hSw; go_simp; try with_reducible rfl)
      try simp only [Act.put, List.setIfInBounds_toArray, List.set_cons_zero, List.set_cons_succ]
      refine reg_take 24 (v := ?vc24) (atS5 (atS5 (atS5 (atS5 (atS (atS (atS (atS at0)))))))) (by kernel_rfl) (by kernel_rfl) (by kernel_rfl) (by rfl) ?hyc24 hHeld ?restc24
      case hyc24 => (intro w' hSw; go_simp; try with_reducible rfl)
      try simp only [Act.put, List.setIfInBounds_toArray, List.set_cons_zero, List.set_cons_succ]
      refine reg_take 25 (v := ?vc25) (atS5 (atS5 (atS5 (atS5 (atS5 at0))))) (by kernel_rfl) (by kernel_rfl) (by kernel_rfl) (by rfl) ?hyc25 hHeld ?restc25
      case hyc25 => (intro w' hSw; go_simp; try with_reducible rfl)
      try simp only [Act.put, List.setIfInBounds_toArray, List.set_cons_zero, List.set_cons_succ]
      refine reg_take 26 (v := ?vc26) (atS5 (atS5 (atS5 (atS5 (atS5 (atS at0)))))) (by kernel_rfl) (by kernel_rfl) (by kernel_rfl) (by rfl) ?hyc26 hHeld ?restc26
      case hyc26 => (intro w' hSw; go_simp; try with_reducible rfl)
      try simp only [Act.put, List.setIfInBounds_toArray, List.set_cons_zero, List.set_cons_succ]
      refine reg_skip 27 (atS5 (atS5 (atS5 (atS5 (atS5 (atS (atS at0))))))) (by kernel_rfl) (by kernel_rfl) (by kernel_rfl) (by rfl) hHeld ?_
      try simp only [Act.put, List.setIfInBounds_toArray, List.set_cons_zero, List.set_cons_succ]
      refine reg_skip 28 (atS5 (atS5 (atS5 (atS5 (atS5 (atS (atS (atS at0)))))))) (by kernel_rfl) (by kernel_rfl) (by kernel_rfl) (by rfl) hHeld ?_
      try simp only [Act.put, List.setIfInBounds_toArray, List.set_cons_zero, List.set_cons_succ]
      refine reg_take 29 (v := ?vc29) (atS5 (atS5 (atS5 (atS5 (atS5 (atS (atS (atS (atS at0))))))))) (by kernel_rfl) (by kernel_rfl) (by kernel_rfl) (by rfl) ?hyc29 hHeld ?restc29
      case hyc29 => (intro w' hSw; go_simp; try with_reducible rfl)
      try simp only [Act.put, List.setIfInBounds_toArray, List.set_cons_zero, List.set_cons_succ]
      refine reg_take 30 (v := ?vc30) (atS5 (atS5 (atS5 (atS5 (atS5 (atS5 at0)))))) (by kernel_rfl) (by kernel_rfl) (by kernel_rfl) (by rfl) ?hyc30 hHeld ?restc30
      case hyc30 => (intro w' hSw; go_simp; try with_reducible rfl)
      try simp only [Act.put, List.setIfInBounds_toArray, List.set_cons_zero, List.set_cons_succ]
      refine reg_take 31 (v := ?vc31) (atS5 (atS5 (atS5 (atS5 (atS5 (atS5 (atS at0))))))) (by kernel_rfl) (by kernel_rfl) (by kernel_rfl) (by rfl) ?hyc31 hHeld ?restc31
      case hyc31 => (intro w' hSw; go_simp; try with_reducible rfl)
      try simp only [Act.put, List.setIfInBounds_toArray, List.set_cons_zero, List.set_cons_succ]
      refine wpAnyH_done (by kernel_rfl) ?_ _
      refine NoPanic.normal ?_
      clear s1 s2 s3 u1 u2 u3
      go_wp2_with fail
      go_ret
      exact ⟨rfl, Bt HB0.out (Bt HB7.out (HX0.out.trans HB11.out))⟩
end Go.Proofs.Ytjodbopnibdolaa
