/-
  The walk of CrcAll.
-/
import Derived.Test.YtpgidhofgccdgaaLaw2A
import Derived.Test.YtpgidhofgccdgaaCrcR
import Derived.Test.YtpgidhofgccdgaaReg
namespace Go.Proofs.Ytpgidhofgccdgaa
open Go.RowKit
set_option linter.unusedVariables false

set_option maxHeartbeats 2000000 in
theorem walk_CrcAll (s : Int) (A : Option Addr) (n cap : Nat) (l : List UInt8) (A2 : Option Addr) (n2 cap2 : Nat) (l2 : List UInt8) (w : World) (w0 : (Lit.int .i64 s).wf = true) (h : Rd w w.heap.size A n cap l) (hz : cap ≤ 140737488351232) (h2 : Rd w w.heap.size A2 n2 cap2 l2) (hz2 : cap2 ≤ 140737488351232) :
    Calls Try.prog 3 #[.int .i64 s, .slice A n cap, .slice A2 n2 cap2] w fun e w' => e = .returned (.bool true) ∧ Below w.heap.size w w' := by
  clear w0
  have hm1 : n ≤ 140737488351232 := Nat.le_trans h.2.1 hz
  have hm2 : n2 ≤ 140737488351232 := Nat.le_trans h2.2.1 hz2
  clear hz hz2
  by_cases hbig : 5000 < n + n2
  · have hb' : decide ((5000 : Int) < (n : Int) + n2) = true := by simp; omega
    have H := hid h; have H2 := hid h2; clear h h2 hbig
    go_enter Try.func3, Try.ntmps3
    go_wp2_with fail
    refine (alive_any _).mono ?_
    rintro e w2 ⟨rfl, hb2⟩
    go_wp2_with fail
    go_ret
    exact ⟨rfl, hb2⟩
  · have hb' : decide ((5000 : Int) < (n : Int) + n2) = false := by simp; omega
    have hn1 : n ≤ 5000 := by omega
    have hn2 : n2 ≤ 5000 := by omega
    have HL := hid h.1
    have HL2 := hid h2.1
    have H := hid h; have H2 := hid h2
    have H0 : Hid (lowB 0 = 0#16) := show _ = _ by decide
    clear h h2 hbig hm1 hm2
    go_enter Try.func3, Try.ntmps3
    go_wp2_with fail
    refine (open_any A n cap l _ H.out (by omega)).mono ?_
    rintro e w1 ⟨v, rfl, ho, hb1⟩
    have HO := hid ho
    have hcv1 := (H.out.on hb1).conv
    clear ho
    go_wp2_with fail
    refine (ropen_any l _ (by have := HL.out; omega)).mono ?_
    rintro e w2 ⟨rfl, hb2⟩
    have HO2 := hid (HO.out.grown hb2)
    have hbA := Bt hb1 hb2
    clear hcv1 HO hb1 hb2
    go_wp2_with fail
    refine reg_begin (by kernel_rfl) (fun w0r hx0r hHeld => ?_)
    refine wpAnyH_ready (rs := [0]) (by kernel_rfl) (by simp) ?_
    refine AllReadyH.cons at0 (fun K hK => ?_) AllReadyH.nil
    go_simp
    refine (alive_any _).mono ?_
    rintro e w3 ⟨rfl, hb3⟩
    go_wp2_with fail
    refine hK.out _ _ hb3 (fun hHeld => ?_)
    clear hK K
    try simp only [Act.put, List.setIfInBounds_toArray, List.set_cons_zero, List.set_cons_succ]
    refine reg_on hb3 (fun hHeld => ?_)
    have hbC := Bt (Bt hbA hx0r) hb3
    have HC := hid (H.out.on hbC)
    have HC2 := hid (H2.out.on hbC)
    have HO3 := hid (HO2.out.grown (Bt hx0r hb3))
    have hcva : ∀ w', Ext w3 w' → (convert 22 9 (.slice A n cap)).run Try.prog w' = .ok (.string ⟨l.toArray⟩) w' := fun w' hb => (HC.out.on hb).conv
    refine reg_take 1 (v := ?vb1) (atS at0) (by kernel_rfl) (by kernel_rfl) (by kernel_rfl) (by rfl) ?hyb1 hHeld ?restb1
    case hyb1 => (intro w' hSw; go_simp; try with_reducible rfl)
    try simp only [Act.put, List.setIfInBounds_toArray, List.set_cons_zero, List.set_cons_succ]
    refine reg_take 2 (v := ?vb2) (atS (atS at0)) (by kernel_rfl) (by kernel_rfl) (by kernel_rfl) (by rfl) ?hyb2 hHeld ?restb2
    case hyb2 => (intro w' hSw; go_simp; try with_reducible rfl)
    try simp only [Act.put, List.setIfInBounds_toArray, List.set_cons_zero, List.set_cons_succ]
    refine reg_take 3 (v := ?vb3) (atS (atS (atS at0))) (by kernel_rfl) (by kernel_rfl) (by kernel_rfl) (by rfl) ?hyb3 hHeld ?restb3
    case hyb3 => (intro w' hSw; go_simp; try with_reducible rfl)
    try simp only [Act.put, List.setIfInBounds_toArray, List.set_cons_zero, List.set_cons_succ]
    refine reg_take 5 (v := ?vb5) (atS5 at0) (by kernel_rfl) (by kernel_rfl) (by kernel_rfl) (by rfl) ?hyb5 hHeld ?restb5
    case hyb5 => (intro w' hSw; go_simp; try with_reducible rfl)
    try simp only [Act.put, List.setIfInBounds_toArray, List.set_cons_zero, List.set_cons_succ]
    refine reg_take 6 (v := ?vb6) (atS5 (atS at0)) (by kernel_rfl) (by kernel_rfl) (by kernel_rfl) (by rfl) ?hyb6 hHeld ?restb6
    case hyb6 => (intro w' hSw; go_simp; try with_reducible rfl)
    try simp only [Act.put, List.setIfInBounds_toArray, List.set_cons_zero, List.set_cons_succ]
    refine reg_take 7 (v := ?vb7) (atS5 (atS (atS at0))) (by kernel_rfl) (by kernel_rfl) (by kernel_rfl) (by rfl) ?hyb7 hHeld ?restb7
    case hyb7 => (intro w' hSw; go_simp; try with_reducible rfl)
    try simp only [Act.put, List.setIfInBounds_toArray, List.set_cons_zero, List.set_cons_succ]
    refine wpAnyH_ready (rs := [4]) (by kernel_rfl) (by simp) ?_
    refine AllReadyH.cons (atS (atS (atS (atS at0)))) (fun K hK => ?_) AllReadyH.nil
    go_simp
    refine (more_any A n cap l s _ HC.out).mono ?_
    rintro e w4 ⟨rfl, hb4⟩
    go_wp2_with fail
    refine hK.out _ _ hb4 (fun hHeld => ?_)
    clear hK K
    try simp only [Act.put, List.setIfInBounds_toArray, List.set_cons_zero, List.set_cons_succ]
    refine reg_on hb4 (fun hHeld => ?_)
    have HD := hid (HC.out.on hb4)
    have HD2 := hid (HC2.out.on hb4)
    clear hcva
    have hcva : ∀ w', Ext w4 w' → (convert 22 9 (.slice A n cap)).run Try.prog w' = .ok (.string ⟨l.toArray⟩) w' := fun w' hb => (HD.out.on hb).conv
    refine wpAnyH_ready (rs := [8]) (by kernel_rfl) (by simp) ?_
    refine AllReadyH.cons (atS5 (atS (atS (atS at0)))) (fun K hK => ?_) AllReadyH.nil
    go_simp
    refine (rmore_any _ l s _ rfl (by have := HL.out; omega)).mono ?_
    rintro e w5 ⟨rfl, rfl⟩
    go_wp2_with fail
    refine hK.out _ _ (Ext.refl _) (fun hHeld => ?_)
    clear hK K
    try simp only [Act.put, List.setIfInBounds_toArray, List.set_cons_zero, List.set_cons_succ]
    have hcvb : ∀ w', Ext w4 w' → (convert 22 9 (.slice A2 n2 cap2)).run Try.prog w' = .ok (.string ⟨l2.toArray⟩) w' := fun w' hb => (HD2.out.on hb).conv
    have hl1 : l.length ≤ 5000 := by have := HL.out; omega
    have hl2 : l2.length ≤ 5000 := by have := HL2.out; omega
    have hcat : (ByteArray.mk l.toArray ++ ByteArray.mk l2.toArray) = ByteArray.mk (l ++ l2).toArray := by simp [ByteArray.mk_append_mk]
    have hsum : ¬ (9223372036854775807 < l.length + l2.length) := by omega
    refine reg_take 9 (v := ?vb9) (atS5 (atS (atS (atS (atS at0))))) (by kernel_rfl) (by kernel_rfl) (by kernel_rfl) (by rfl) ?hyb9 hHeld ?restb9
    case hyb9 => (intro w' hSw; go_simp; try with_reducible rfl)
    try simp only [Act.put, List.setIfInBounds_toArray, List.set_cons_zero, List.set_cons_succ]
    refine reg_take 10 (v := ?vb10) (atS5 (atS5 at0)) (by kernel_rfl) (by kernel_rfl) (by kernel_rfl) (by rfl) ?hyb10 hHeld ?restb10
    case hyb10 => (intro w' hSw; go_simp; try with_reducible rfl)
    try simp only [Act.put, List.setIfInBounds_toArray, List.set_cons_zero, List.set_cons_succ]
    refine reg_take 11 (v := ?vb11) (atS5 (atS5 (atS at0))) (by kernel_rfl) (by kernel_rfl) (by kernel_rfl) (by rfl) ?hyb11 hHeld ?restb11
    case hyb11 => (intro w' hSw; go_simp; try with_reducible rfl)
    try simp only [Act.put, List.setIfInBounds_toArray, List.set_cons_zero, List.set_cons_succ]
    refine reg_take 12 (v := ?vb12) (atS5 (atS5 (atS (atS at0)))) (by kernel_rfl) (by kernel_rfl) (by kernel_rfl) (by rfl) ?hyb12 hHeld ?restb12
    case hyb12 => (intro w' hSw; go_simp; try with_reducible rfl)
    try simp only [Act.put, List.setIfInBounds_toArray, List.set_cons_zero, List.set_cons_succ]
    refine reg_take 13 (v := ?vb13) (atS5 (atS5 (atS (atS (atS at0))))) (by kernel_rfl) (by kernel_rfl) (by kernel_rfl) (by rfl) ?hyb13 hHeld ?restb13
    case hyb13 => (intro w' hSw; go_simp; try with_reducible rfl)
    try simp only [Act.put, List.setIfInBounds_toArray, List.set_cons_zero, List.set_cons_succ]
    refine reg_take 16 (v := ?vb16) (atS5 (atS5 (atS5 (atS at0)))) (by kernel_rfl) (by kernel_rfl) (by kernel_rfl) (by rfl) ?hyb16 hHeld ?restb16
    case hyb16 => (intro w' hSw; go_simp; try with_reducible rfl)
    try simp only [Act.put, List.setIfInBounds_toArray, List.set_cons_zero, List.set_cons_succ]
    refine reg_take 17 (v := ?vb17) (atS5 (atS5 (atS5 (atS (atS at0))))) (by kernel_rfl) (by kernel_rfl) (by kernel_rfl) (by rfl) ?hyb17 hHeld ?restb17
    case hyb17 => (intro w' hSw; go_simp; try with_reducible rfl)
    try simp only [Act.put, List.setIfInBounds_toArray, List.set_cons_zero, List.set_cons_succ]
    refine reg_take 18 (v := ?vb18) (atS5 (atS5 (atS5 (atS (atS (atS at0)))))) (by kernel_rfl) (by kernel_rfl) (by kernel_rfl) (by rfl) ?hyb18 hHeld ?restb18
    case hyb18 => (intro w' hSw; go_simp; try with_reducible rfl)
    try simp only [Act.put, List.setIfInBounds_toArray, List.set_cons_zero, List.set_cons_succ]
    refine reg_take 19 (v := ?vb19) (atS5 (atS5 (atS5 (atS (atS (atS (atS at0))))))) (by kernel_rfl) (by kernel_rfl) (by kernel_rfl) (by rfl) ?hyb19 hHeld ?restb19
    case hyb19 => (intro w' hSw; go_simp; try with_reducible rfl)
    try simp only [Act.put, List.setIfInBounds_toArray, List.set_cons_zero, List.set_cons_succ]
    refine reg_take 20 (v := ?vb20) (atS5 (atS5 (atS5 (atS5 at0)))) (by kernel_rfl) (by kernel_rfl) (by kernel_rfl) (by rfl) ?hyb20 hHeld ?restb20
    case hyb20 => (intro w' hSw; go_simp; try with_reducible rfl)
    try simp only [Act.put, List.setIfInBounds_toArray, List.set_cons_zero, List.set_cons_succ]
    refine wpAnyH_ready (rs := [14]) (by kernel_rfl) (by simp) ?_
    refine AllReadyH.cons (atS5 (atS5 (atS (atS (atS (atS at0)))))) (fun K hK => ?_) AllReadyH.nil
    go_simp
    skip
    refine hK.out _ _ (B1 _ _) (fun hHeld => ?_)
    clear hK K
    try simp only [Act.put, List.setIfInBounds_toArray, List.set_cons_zero, List.set_cons_succ]
    refine wpAnyH_ready (rs := [15]) (by kernel_rfl) (by simp) ?_
    refine AllReadyH.cons (atS5 (atS5 (atS5 at0))) (fun K hK => ?_) AllReadyH.nil
    go_simp
    refine (sum2 rfl HD.out HD2.out).mono ?_
    rintro e w6 ⟨rfl, hb6⟩
    go_wp2_with fail
    refine hK.out _ _ hb6 (fun hHeld => ?_)
    clear hK K
    try simp only [Act.put, List.setIfInBounds_toArray, List.set_cons_zero, List.set_cons_succ]
    refine reg_on hb6 (fun hHeld => ?_)
    have HE := hid (HD.out.on hb6)
    have HO6 := hid ((HO3.out.grown hb4).grown hb6)
    clear hcva hcvb hcat hsum
    refine wpAnyH_ready (rs := [21]) (by kernel_rfl) (by simp) ?_
    refine AllReadyH.cons (atS5 (atS5 (atS5 (atS5 (atS at0))))) (fun K hK => ?_) AllReadyH.nil
    go_simp
    refine (rmore_any _ (l ++ l2) 0 _ rfl (by simp; omega)).mono ?_
    rintro e w7 ⟨rfl, rfl⟩
    rw [H0.out]
    go_wp2_with fail
    refine hK.out _ _ (Ext.refl _) (fun hHeld => ?_)
    clear hK K
    try simp only [Act.put, List.setIfInBounds_toArray, List.set_cons_zero, List.set_cons_succ]
    have hcva : ∀ w', Ext w6 w' → (convert 22 9 (.slice A n cap)).run Try.prog w' = .ok (.string ⟨l.toArray⟩) w' := fun w' hb => (HE.out.on hb).conv
    refine reg_take 22 (v := ?vb22) (atS5 (atS5 (atS5 (atS5 (atS (atS at0)))))) (by kernel_rfl) (by kernel_rfl) (by kernel_rfl) (by rfl) ?hyb22 hHeld ?restb22
    case hyb22 => (intro w' hSw; go_simp; try with_reducible rfl)
    try simp only [Act.put, List.setIfInBounds_toArray, List.set_cons_zero, List.set_cons_succ]
    refine reg_take 23 (v := ?vb23) (atS5 (atS5 (atS5 (atS5 (atS (atS (atS at0))))))) (by kernel_rfl) (by kernel_rfl) (by kernel_rfl) (by rfl) ?hyb23 hHeld ?restb23
    case hyb23 => (intro w' hSw; go_simp; try with_reducible rfl)
    try simp only [Act.put, List.setIfInBounds_toArray, List.set_cons_zero, List.set_cons_succ]
    refine reg_take 24 (v := ?vb24) (atS5 (atS5 (atS5 (atS5 (atS (atS (atS (atS at0)))))))) (by kernel_rfl) (by kernel_rfl) (by kernel_rfl) (by rfl) ?hyb24 hHeld ?restb24
    case hyb24 => (intro w' hSw; go_simp; try with_reducible rfl)
    try simp only [Act.put, List.setIfInBounds_toArray, List.set_cons_zero, List.set_cons_succ]
    refine reg_take 25 (v := ?vb25) (atS5 (atS5 (atS5 (atS5 (atS5 at0))))) (by kernel_rfl) (by kernel_rfl) (by kernel_rfl) (by rfl) ?hyb25 hHeld ?restb25
    case hyb25 => (intro w' hSw; go_simp; try with_reducible rfl)
    try simp only [Act.put, List.setIfInBounds_toArray, List.set_cons_zero, List.set_cons_succ]
    refine reg_take 28 (v := ?vb28) (atS5 (atS5 (atS5 (atS5 (atS5 (atS (atS (atS at0)))))))) (by kernel_rfl) (by kernel_rfl) (by kernel_rfl) (by rfl) ?hyb28 hHeld ?restb28
    case hyb28 => (intro w' hSw; go_simp; try with_reducible rfl)
    try simp only [Act.put, List.setIfInBounds_toArray, List.set_cons_zero, List.set_cons_succ]
    refine reg_take 29 (v := ?vb29) (atS5 (atS5 (atS5 (atS5 (atS5 (atS (atS (atS (atS at0))))))))) (by kernel_rfl) (by kernel_rfl) (by kernel_rfl) (by rfl) ?hyb29 hHeld ?restb29
    case hyb29 => (intro w' hSw; go_simp; try with_reducible rfl)
    try simp only [Act.put, List.setIfInBounds_toArray, List.set_cons_zero, List.set_cons_succ]
    refine wpAnyH_ready (rs := [26]) (by kernel_rfl) (by simp) ?_
    refine AllReadyH.cons (atS5 (atS5 (atS5 (atS5 (atS5 (atS at0)))))) (fun K hK => ?_) AllReadyH.nil
    go_simp
    refine (seal_any A n cap l _ HE.out (by omega)).mono ?_
    rintro e w8 ⟨v8, rfl, ho8, hb8⟩
    go_wp2_with fail
    refine hK.out _ _ hb8 (fun hHeld => ?_)
    clear hK K
    try simp only [Act.put, List.setIfInBounds_toArray, List.set_cons_zero, List.set_cons_succ]
    refine reg_on hb8 (fun hHeld => ?_)
    have HF := hid (HE.out.on hb8)
    have HO8 := hid ho8
    have HOX := hid (HO6.out.grown hb8)
    obtain ⟨A8, c8, hv8, hr8⟩ := ho8.rd
    have HR8 := hid hr8
    clear hcva ho8 hr8
    have hcva : ∀ w', Ext w8 w' → (convert 22 9 (.slice A n cap)).run Try.prog w' = .ok (.string ⟨l.toArray⟩) w' := fun w' hb => (HF.out.on hb).conv
    have hcv8 : ∀ w', Ext w8 w' → (convert 22 9 v8).run Try.prog w' = .ok (.string ⟨(l ++ sumL l).toArray⟩) w' := fun w' hb => by rw [hv8]; exact (HR8.out.on hb).conv
    clear hv8
    refine reg_take 27 (v := ?vb27) (atS5 (atS5 (atS5 (atS5 (atS5 (atS (atS at0))))))) (by kernel_rfl) (by kernel_rfl) (by kernel_rfl) (by rfl) ?hyb27 hHeld ?restb27
    case hyb27 => (intro w' hSw; go_simp; try with_reducible rfl)
    try simp only [Act.put, List.setIfInBounds_toArray, List.set_cons_zero, List.set_cons_succ]
    refine wpAnyH_ready (rs := [30]) (by kernel_rfl) (by simp) ?_
    refine AllReadyH.cons (atS5 (atS5 (atS5 (atS5 (atS5 (atS5 at0)))))) (fun K hK => ?_) AllReadyH.nil
    go_simp
    refine (rseal_any l _ (by omega)).mono ?_
    rintro e w9 ⟨rfl, hb9⟩
    go_wp2_with fail
    refine hK.out _ _ hb9 (fun hHeld => ?_)
    clear hK K
    try simp only [Act.put, List.setIfInBounds_toArray, List.set_cons_zero, List.set_cons_succ]
    refine reg_on hb9 (fun hHeld => ?_)
    obtain ⟨A9, c9, hv9, hr9⟩ := (HOX.out.grown hb9).rd
    have HR9 := hid hr9
    clear hcva hcv8 hr9
    have hcv9 : ∀ w', Ext w9 w' → (convert 22 9 v).run Try.prog w' = .ok (.string ⟨(openL l).toArray⟩) w' := fun w' hb => by rw [hv9]; exact (HR9.out.on hb).conv
    clear hv9
    refine reg_take 31 (v := ?vb31) (atS5 (atS5 (atS5 (atS5 (atS5 (atS5 (atS at0))))))) (by kernel_rfl) (by kernel_rfl) (by kernel_rfl) (by rfl) ?hyb31 hHeld ?restb31
    case hyb31 => (intro w' hSw; go_simp; try with_reducible rfl)
    try simp only [Act.put, List.setIfInBounds_toArray, List.set_cons_zero, List.set_cons_succ]
    refine reg_take 32 (v := ?vb32) (atS5 (atS5 (atS5 (atS5 (atS5 (atS5 (atS (atS at0)))))))) (by kernel_rfl) (by kernel_rfl) (by kernel_rfl) (by rfl) ?hyb32 hHeld ?restb32
    case hyb32 => (intro w' hSw; go_simp; try with_reducible rfl)
    try simp only [Act.put, List.setIfInBounds_toArray, List.set_cons_zero, List.set_cons_succ]
    refine reg_take 33 (v := ?vb33) (atS5 (atS5 (atS5 (atS5 (atS5 (atS5 (atS (atS (atS at0))))))))) (by kernel_rfl) (by kernel_rfl) (by kernel_rfl) (by rfl) ?hyb33 hHeld ?restb33
    case hyb33 => (intro w' hSw; go_simp; try with_reducible rfl)
    try simp only [Act.put, List.setIfInBounds_toArray, List.set_cons_zero, List.set_cons_succ]
    refine reg_take 34 (v := ?vb34) (atS5 (atS5 (atS5 (atS5 (atS5 (atS5 (atS (atS (atS (atS at0)))))))))) (by kernel_rfl) (by kernel_rfl) (by kernel_rfl) (by rfl) ?hyb34 hHeld ?restb34
    case hyb34 => (intro w' hSw; go_simp; try with_reducible rfl)
    try simp only [Act.put, List.setIfInBounds_toArray, List.set_cons_zero, List.set_cons_succ]
    refine reg_take 35 (v := ?vb35) (atS5 (atS5 (atS5 (atS5 (atS5 (atS5 (atS5 at0))))))) (by kernel_rfl) (by kernel_rfl) (by kernel_rfl) (by rfl) ?hyb35 hHeld ?restb35
    case hyb35 => (intro w' hSw; go_simp; try with_reducible rfl)
    try simp only [Act.put, List.setIfInBounds_toArray, List.set_cons_zero, List.set_cons_succ]
    refine reg_take 36 (v := ?vb36) (atS5 (atS5 (atS5 (atS5 (atS5 (atS5 (atS5 (atS at0)))))))) (by kernel_rfl) (by kernel_rfl) (by kernel_rfl) (by rfl) ?hyb36 hHeld ?restb36
    case hyb36 => (intro w' hSw; go_simp; try with_reducible rfl)
    try simp only [Act.put, List.setIfInBounds_toArray, List.set_cons_zero, List.set_cons_succ]
    refine reg_take 37 (v := ?vb37) (atS5 (atS5 (atS5 (atS5 (atS5 (atS5 (atS5 (atS (atS at0))))))))) (by kernel_rfl) (by kernel_rfl) (by kernel_rfl) (by rfl) ?hyb37 hHeld ?restb37
    case hyb37 => (intro w' hSw; go_simp; try with_reducible rfl)
    try simp only [Act.put, List.setIfInBounds_toArray, List.set_cons_zero, List.set_cons_succ]
    refine reg_take 38 (v := ?vb38) (atS5 (atS5 (atS5 (atS5 (atS5 (atS5 (atS5 (atS (atS (atS at0)))))))))) (by kernel_rfl) (by kernel_rfl) (by kernel_rfl) (by rfl) ?hyb38 hHeld ?restb38
    case hyb38 => (intro w' hSw; go_simp; try with_reducible rfl)
    try simp only [Act.put, List.setIfInBounds_toArray, List.set_cons_zero, List.set_cons_succ]
    refine reg_take 39 (v := ?vb39) (atS5 (atS5 (atS5 (atS5 (atS5 (atS5 (atS5 (atS (atS (atS (atS at0))))))))))) (by kernel_rfl) (by kernel_rfl) (by kernel_rfl) (by rfl) ?hyb39 hHeld ?restb39
    case hyb39 => (intro w' hSw; go_simp; try with_reducible rfl)
    try simp only [Act.put, List.setIfInBounds_toArray, List.set_cons_zero, List.set_cons_succ]
    refine reg_take 40 (v := ?vb40) (atS5 (atS5 (atS5 (atS5 (atS5 (atS5 (atS5 (atS5 at0)))))))) (by kernel_rfl) (by kernel_rfl) (by kernel_rfl) (by rfl) ?hyb40 hHeld ?restb40
    case hyb40 => (intro w' hSw; go_simp; try with_reducible rfl)
    try simp only [Act.put, List.setIfInBounds_toArray, List.set_cons_zero, List.set_cons_succ]
    refine reg_take 41 (v := ?vb41) (atS5 (atS5 (atS5 (atS5 (atS5 (atS5 (atS5 (atS5 (atS at0))))))))) (by kernel_rfl) (by kernel_rfl) (by kernel_rfl) (by rfl) ?hyb41 hHeld ?restb41
    case hyb41 => (intro w' hSw; go_simp; try with_reducible rfl)
    try simp only [Act.put, List.setIfInBounds_toArray, List.set_cons_zero, List.set_cons_succ]
    refine reg_take 42 (v := ?vb42) (atS5 (atS5 (atS5 (atS5 (atS5 (atS5 (atS5 (atS5 (atS (atS at0)))))))))) (by kernel_rfl) (by kernel_rfl) (by kernel_rfl) (by rfl) ?hyb42 hHeld ?restb42
    case hyb42 => (intro w' hSw; go_simp; try with_reducible rfl)
    try simp only [Act.put, List.setIfInBounds_toArray, List.set_cons_zero, List.set_cons_succ]
    refine reg_take 43 (v := ?vb43) (atS5 (atS5 (atS5 (atS5 (atS5 (atS5 (atS5 (atS5 (atS (atS (atS at0))))))))))) (by kernel_rfl) (by kernel_rfl) (by kernel_rfl) (by rfl) ?hyb43 hHeld ?restb43
    case hyb43 => (intro w' hSw; go_simp; try with_reducible rfl)
    try simp only [Act.put, List.setIfInBounds_toArray, List.set_cons_zero, List.set_cons_succ]
    refine reg_take 44 (v := ?vb44) (atS5 (atS5 (atS5 (atS5 (atS5 (atS5 (atS5 (atS5 (atS (atS (atS (atS at0)))))))))))) (by kernel_rfl) (by kernel_rfl) (by kernel_rfl) (by rfl) ?hyb44 hHeld ?restb44
    case hyb44 => (intro w' hSw; go_simp; try with_reducible rfl)
    try simp only [Act.put, List.setIfInBounds_toArray, List.set_cons_zero, List.set_cons_succ]
    refine wpAnyH_done (by kernel_rfl) ?_ _
    refine NoPanic.normal ?_
    clear hcv9
    have hfin := Bt (Bt (Bt (Bt hbC hb4) hb6) hb8) hb9
    go_wp2_with fail
    go_ret
    exact ⟨rfl, hfin⟩
end Go.Proofs.Ytpgidhofgccdgaa
