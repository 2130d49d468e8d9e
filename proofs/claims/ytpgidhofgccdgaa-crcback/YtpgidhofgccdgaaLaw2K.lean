/-
  The walk of CrcBack.
-/
import Derived.Test.YtpgidhofgccdgaaLaw2A
import Derived.Test.YtpgidhofgccdgaaReg
namespace Go.Proofs.Ytpgidhofgccdgaa
open Go.RowKit
set_option linter.unusedVariables false

theorem lowB_toNat' (x : BitVec 16) : lowB (x.toNat : Int) = x := by
  unfold lowB; rw [BitVec.ofInt_natCast]; simp

set_option maxRecDepth 100000 in
set_option maxHeartbeats 2000000 in
theorem walk_CrcBack (A : Option Addr) (n cap : Nat) (l : List UInt8) (at_ : Int) (w : World) (h : Rd w w.heap.size A n cap l) (w1 : (Lit.int .i64 at_).wf = true) :
    Calls Try.prog 4 #[.slice A n cap, .int .i64 at_] w fun e w' => e = .returned (.bool true) ∧ Below w.heap.size w w' := by
  clear w1
  by_cases hbig : 20000 < n ∨ at_ < 0 ∨ (n : Int) < at_
  · have h1 : decide ((20000 : Int) < n) = true ∨ (decide ((20000 : Int) < n) = false ∧ decide (at_ < 0) = true) ∨ (decide ((20000 : Int) < n) = false ∧ decide (at_ < 0) = false ∧ decide ((n : Int) < at_) = true) := by simp; omega
    have H := hid h; clear h hbig
    rcases h1 with h1 | ⟨h1, h2⟩ | ⟨h1, h2, h3⟩
    all_goals
      go_enter Try.func4, Try.ntmps4
      go_wp2_with fail
      refine (alive_any _).mono ?_
      rintro e w2 ⟨rfl, hb2⟩
      go_wp2_with fail
      go_ret
      exact ⟨rfl, hb2⟩
  · obtain ⟨a, rfl⟩ := Int.eq_ofNat_of_zero_le (show 0 ≤ at_ by omega)
    have h1 : decide ((20000 : Int) < n) = false := by simp; omega
    have h2 : decide ((a : Int) < 0) = false := by simp
    have h3 : decide (n < a) = false := by simp; omega
    have han : a ≤ n := by omega
    have hn2 : n ≤ 20000 := by omega
    have HL := hid h.1
    have hcap := h.2.1
    have H := hid h; clear h hbig
    go_enter Try.func4, Try.ntmps4
    go_wp2_with fail
    refine (seal_any A n cap l _ H.out (by omega)).mono ?_
    rintro e w1 ⟨v, rfl, ho, hb1⟩
    have hlen : (l ++ sumL l).length = n + 2 := by have := HL.out; simp [sumL_length]; omega
    obtain ⟨A1, c1, hv1, hr1⟩ := ho.rd
    rw [hlen] at hv1 hr1
    subst hv1
    have HR1 := hid hr1
    clear hr1 ho hlen
    go_wp2_with fail
    refine (open_any _ (n + 2) c1 _ _ HR1.out (by omega)).mono ?_
    rintro e w2 ⟨v2, rfl, ho2, hb2⟩
    rw [open_sealed]
    rw [openL_sealed] at ho2
    have HO2 := hid ho2
    have hbA := Bt hb1 hb2
    have HA := hid (H.out.on hbA)
    clear ho2 hb1 hb2 HR1
    go_wp2_with fail
    refine (sum1 rfl HA.out).mono ?_
    rintro e w3 ⟨rfl, hb3⟩
    have hbB := Bt hbA hb3
    have HO3 := hid (HO2.out.grown hb3)
    have HB := hid (H.out.on hbB)
    clear hb3 hbA HA HO2
    have hx := (crcB 0#16 l).isLt
    have HSP : Hid (l.take a ++ ([] ++ l.drop a) = l) := show _ = _ by simp
    have HSM : Hid (crcB (crcB 0#16 (l.take a)) (l.drop a) = crcB 0#16 l) := show _ = _ by rw [← crcB_append, List.take_append_drop]
    obtain ⟨x, HX⟩ : ∃ x, Hid (x = crcB 0#16 l) := ⟨_, rfl⟩
    rw [← HX.out] at hx HSM ⊢
    obtain ⟨m, HM⟩ : ∃ m, Hid (m = x.toNat) := ⟨_, rfl⟩
    have HX1 : Hid ((m : Int) < 65536) := show _ < _ by have := HM.out; omega
    rw [← HM.out]
    clear hx
    have ha0 : (0 : Int) ≤ a := by omega
    have han' : (a : Int) ≤ n := by omega
    have hac : (a : Int) ≤ cap := by omega
    have hacn : a ≤ cap := by omega
    go_wp2_with fail
    refine reg_begin (by kernel_rfl) (fun w0r hx0r hHeld => ?_)
    refine wpAnyH_ready (rs := [0]) (by kernel_rfl) (by simp) ?_
    refine AllReadyH.cons at0 (fun K hK => ?_) AllReadyH.nil
    go_simp
    refine (alive_any _).mono ?_
    rintro e w4 ⟨rfl, hb4⟩
    go_wp2_with fail
    refine hK.out _ _ hb4 (fun hHeld => ?_)
    clear hK K
    try simp only [Act.put, List.setIfInBounds_toArray, List.set_cons_zero, List.set_cons_succ]
    refine reg_on hb4 (fun hHeld => ?_)
    have hbC := Bt (Bt hbB hx0r) hb4
    have HC := hid (H.out.on hbC)
    obtain ⟨A4, c4, hv4, hr4⟩ := (HO3.out.grown (Bt hx0r hb4)).rd
    have HR4 := hid hr4
    have hcv4 : ∀ w', Ext w4 w' → (convert 22 9 v2).run Try.prog w' = .ok (.string ⟨l.toArray⟩) w' := fun w' hb => by rw [hv4]; exact (HR4.out.on hb).conv
    have hcv5 : ∀ w', Ext w4 w' → (convert 22 9 (.slice A n cap)).run Try.prog w' = .ok (.string ⟨l.toArray⟩) w' := fun w' hb => (HC.out.on hb).conv
    clear hv4 hr4
    refine reg_take 1 (v := ?vb1) (atS at0) (by kernel_rfl) (by kernel_rfl) (by kernel_rfl) (by rfl) ?hyb1 hHeld ?restb1
    case hyb1 => (intro w' hSw; go_simp; try with_reducible rfl)
    try simp only [Act.put, List.setIfInBounds_toArray, List.set_cons_zero, List.set_cons_succ]
    refine reg_take 2 (v := ?vb2) (atS (atS at0)) (by kernel_rfl) (by kernel_rfl) (by kernel_rfl) (by rfl) ?hyb2 hHeld ?restb2
    case hyb2 => (intro w' hSw; go_simp; try with_reducible rfl)
    try simp only [Act.put, List.setIfInBounds_toArray, List.set_cons_zero, List.set_cons_succ]
    refine reg_take 3 (v := ?vb3) (atS (atS (atS at0))) (by kernel_rfl) (by kernel_rfl) (by kernel_rfl) (by rfl) ?hyb3 hHeld ?restb3
    case hyb3 => (intro w' hSw; go_simp; try with_reducible rfl)
    try simp only [Act.put, List.setIfInBounds_toArray, List.set_cons_zero, List.set_cons_succ]
    refine reg_take 4 (v := ?vb4) (atS (atS (atS (atS at0)))) (by kernel_rfl) (by kernel_rfl) (by kernel_rfl) (by rfl) ?hyb4 hHeld ?restb4
    case hyb4 => (intro w' hSw; go_simp; try with_reducible rfl)
    try simp only [Act.put, List.setIfInBounds_toArray, List.set_cons_zero, List.set_cons_succ]
    refine reg_take 5 (v := ?vb5) (atS5 at0) (by kernel_rfl) (by kernel_rfl) (by kernel_rfl) (by rfl) ?hyb5 hHeld ?restb5
    case hyb5 => (intro w' hSw; go_simp; try with_reducible rfl)
    try simp only [Act.put, List.setIfInBounds_toArray, List.set_cons_zero, List.set_cons_succ]
    refine reg_take 6 (v := ?vb6) (atS5 (atS at0)) (by kernel_rfl) (by kernel_rfl) (by kernel_rfl) (by rfl) ?hyb6 hHeld ?restb6
    case hyb6 => (intro w' hSw; go_simp; try with_reducible rfl)
    try simp only [Act.put, List.setIfInBounds_toArray, List.set_cons_zero, List.set_cons_succ]
    refine reg_take 7 (v := ?vb7) (atS5 (atS (atS at0))) (by kernel_rfl) (by kernel_rfl) (by kernel_rfl) (by rfl) ?hyb7 hHeld ?restb7
    case hyb7 => (intro w' hSw; go_simp; try with_reducible rfl)
    try simp only [Act.put, List.setIfInBounds_toArray, List.set_cons_zero, List.set_cons_succ]
    refine reg_take 8 (v := ?vb8) (atS5 (atS (atS (atS at0)))) (by kernel_rfl) (by kernel_rfl) (by kernel_rfl) (by rfl) ?hyb8 hHeld ?restb8
    case hyb8 => (intro w' hSw; go_simp; try with_reducible rfl)
    try simp only [Act.put, List.setIfInBounds_toArray, List.set_cons_zero, List.set_cons_succ]
    refine reg_take 9 (v := ?vb9) (atS5 (atS (atS (atS (atS at0))))) (by kernel_rfl) (by kernel_rfl) (by kernel_rfl) (by rfl) ?hyb9 hHeld ?restb9
    case hyb9 => (intro w' hSw; go_simp; try with_reducible rfl)
    try simp only [Act.put, List.setIfInBounds_toArray, List.set_cons_zero, List.set_cons_succ]
    refine reg_take 10 (v := ?vb10) (atS5 (atS5 at0)) (by kernel_rfl) (by kernel_rfl) (by kernel_rfl) (by rfl) ?hyb10 hHeld ?restb10
    case hyb10 => (intro w' hSw; go_simp; try with_reducible rfl)
    try simp only [Act.put, List.setIfInBounds_toArray, List.set_cons_zero, List.set_cons_succ]
    refine reg_take 11 (v := ?vb11) (atS5 (atS5 (atS at0))) (by kernel_rfl) (by kernel_rfl) (by kernel_rfl) (by rfl) ?hyb11 hHeld ?restb11
    case hyb11 => (intro w' hSw; go_simp; try with_reducible rfl)
    try simp only [Act.put, List.setIfInBounds_toArray, List.set_cons_zero, List.set_cons_succ]
    refine reg_take 12 (v := ?vb12) (atS5 (atS5 (atS (atS at0)))) (by kernel_rfl) (by kernel_rfl) (by kernel_rfl) (by rfl) ?hyb12 hHeld ?restb12
    case hyb12 => (intro w' hSw; go_simp; try with_reducible rfl)
    try simp only [Act.put, List.setIfInBounds_toArray, List.set_cons_zero, List.set_cons_succ]
    refine reg_take 13 (v := ?vb13) (atS5 (atS5 (atS (atS (atS at0))))) (by kernel_rfl) (by kernel_rfl) (by kernel_rfl) (by rfl) ?hyb13 hHeld ?restb13
    case hyb13 => (intro w' hSw; go_simp; try with_reducible rfl)
    try simp only [Act.put, List.setIfInBounds_toArray, List.set_cons_zero, List.set_cons_succ]
    refine reg_take 14 (v := ?vb14) (atS5 (atS5 (atS (atS (atS (atS at0)))))) (by kernel_rfl) (by kernel_rfl) (by kernel_rfl) (by rfl) ?hyb14 hHeld ?restb14
    case hyb14 => (intro w' hSw; go_simp; try with_reducible rfl)
    try simp only [Act.put, List.setIfInBounds_toArray, List.set_cons_zero, List.set_cons_succ]
    refine reg_take 15 (v := ?vb15) (atS5 (atS5 (atS5 at0))) (by kernel_rfl) (by kernel_rfl) (by kernel_rfl) (by rfl) ?hyb15 hHeld ?restb15
    case hyb15 => (intro w' hSw; go_simp; try with_reducible rfl)
    try simp only [Act.put, List.setIfInBounds_toArray, List.set_cons_zero, List.set_cons_succ]
    refine reg_take 16 (v := ?vb16) (atS5 (atS5 (atS5 (atS at0)))) (by kernel_rfl) (by kernel_rfl) (by kernel_rfl) (by rfl) ?hyb16 hHeld ?restb16
    case hyb16 => (intro w' hSw; go_simp; try with_reducible rfl)
    try simp only [Act.put, List.setIfInBounds_toArray, List.set_cons_zero, List.set_cons_succ]
    refine reg_take 17 (v := ?vb17) (atS5 (atS5 (atS5 (atS (atS at0))))) (by kernel_rfl) (by kernel_rfl) (by kernel_rfl) (by rfl) ?hyb17 hHeld ?restb17
    case hyb17 => (intro w' hSw; go_simp; try with_reducible rfl)
    try simp only [Act.put, List.setIfInBounds_toArray, List.set_cons_zero, List.set_cons_succ]
    refine reg_take 18 (v := ?vb18) (atS5 (atS5 (atS5 (atS (atS (atS at0)))))) (by kernel_rfl) (by kernel_rfl) (by kernel_rfl) (by rfl) ?hyb18 hHeld ?restb18
    case hyb18 => (intro w' hSw; go_simp; try with_reducible rfl)
    try simp only [Act.put, List.setIfInBounds_toArray, List.set_cons_zero, List.set_cons_succ]
    refine wpAnyH_ready (rs := [19]) (by kernel_rfl) (by simp) ?_
    refine AllReadyH.cons (atS5 (atS5 (atS5 (atS (atS (atS (atS at0))))))) (fun K hK => ?_) AllReadyH.nil
    go_simp
    skip
    refine hK.out _ _ (B1 _ _) (fun hHeld => ?_)
    clear hK K
    try simp only [Act.put, List.setIfInBounds_toArray, List.set_cons_zero, List.set_cons_succ]
    revert hHeld
    generalize hD : (if cap = a then A else Option.map (fun x => x.add a) A) = D
    intro hHeld
    have HD := hid hD
    clear hD
    have HDR : Hid (Rd w4 w4.heap.size D (n - a) (cap - a) (l.drop a)) := by rw [← HD.out]; exact HC.out.drop han
    refine wpAnyH_ready (rs := [20]) (by kernel_rfl) (by simp) ?_
    refine AllReadyH.cons (atS5 (atS5 (atS5 (atS5 at0)))) (fun K hK => ?_) AllReadyH.nil
    go_simp
    refine (sum3 rfl (HC.out.take han) (Rd.nil _ _) HDR.out).mono ?_
    rintro e w5 ⟨rfl, hb5⟩
    rw [HSP.out, ← HX.out, ← HM.out]
    go_wp2_with fail
    refine hK.out _ _ hb5 (fun hHeld => ?_)
    clear hK K
    try simp only [Act.put, List.setIfInBounds_toArray, List.set_cons_zero, List.set_cons_succ]
    refine reg_on hb5 (fun hHeld => ?_)
    refine reg_take 21 (v := ?vb21) (atS5 (atS5 (atS5 (atS5 (atS at0))))) (by kernel_rfl) (by kernel_rfl) (by kernel_rfl) (by rfl) ?hyb21 hHeld ?restb21
    case hyb21 => (intro w' hSw; go_simp; try with_reducible rfl)
    try simp only [Act.put, List.setIfInBounds_toArray, List.set_cons_zero, List.set_cons_succ]
    refine reg_take 22 (v := ?vb22) (atS5 (atS5 (atS5 (atS5 (atS (atS at0)))))) (by kernel_rfl) (by kernel_rfl) (by kernel_rfl) (by rfl) ?hyb22 hHeld ?restb22
    case hyb22 => (intro w' hSw; go_simp; try with_reducible rfl)
    try simp only [Act.put, List.setIfInBounds_toArray, List.set_cons_zero, List.set_cons_succ]
    refine reg_take 23 (v := ?vb23) (atS5 (atS5 (atS5 (atS5 (atS (atS (atS at0))))))) (by kernel_rfl) (by kernel_rfl) (by kernel_rfl) (by rfl) ?hyb23 hHeld ?restb23
    case hyb23 => (intro w' hSw; go_simp; try with_reducible rfl)
    try simp only [Act.put, List.setIfInBounds_toArray, List.set_cons_zero, List.set_cons_succ]
    refine reg_take 24 (v := ?vb24) (atS5 (atS5 (atS5 (atS5 (atS (atS (atS (atS at0)))))))) (by kernel_rfl) (by kernel_rfl) (by kernel_rfl) (by rfl) ?hyb24 hHeld ?restb24
    case hyb24 => (intro w' hSw; go_simp; try with_reducible rfl)
    try simp only [Act.put, List.setIfInBounds_toArray, List.set_cons_zero, List.set_cons_succ]
    refine reg_take 25 (v := ?vb25) (atS5 (atS5 (atS5 (atS5 (atS5 at0))))) (by kernel_rfl) (by kernel_rfl) (by kernel_rfl) (by rfl) ?hyb25 hHeld ?restb25
    case hyb25 => (intro w' hSw; go_simp; try with_reducible rfl)
    try simp only [Act.put, List.setIfInBounds_toArray, List.set_cons_zero, List.set_cons_succ]
    refine reg_take 26 (v := ?vb26) (atS5 (atS5 (atS5 (atS5 (atS5 (atS at0)))))) (by kernel_rfl) (by kernel_rfl) (by kernel_rfl) (by rfl) ?hyb26 hHeld ?restb26
    case hyb26 => (intro w' hSw; go_simp; try with_reducible rfl)
    try simp only [Act.put, List.setIfInBounds_toArray, List.set_cons_zero, List.set_cons_succ]
    refine reg_take 27 (v := ?vb27) (atS5 (atS5 (atS5 (atS5 (atS5 (atS (atS at0))))))) (by kernel_rfl) (by kernel_rfl) (by kernel_rfl) (by rfl) ?hyb27 hHeld ?restb27
    case hyb27 => (intro w' hSw; go_simp; try with_reducible rfl)
    try simp only [Act.put, List.setIfInBounds_toArray, List.set_cons_zero, List.set_cons_succ]
    refine reg_take 30 (v := ?vb30) (atS5 (atS5 (atS5 (atS5 (atS5 (atS5 at0)))))) (by kernel_rfl) (by kernel_rfl) (by kernel_rfl) (by rfl) ?hyb30 hHeld ?restb30
    case hyb30 => (intro w' hSw; go_simp; try with_reducible rfl)
    try simp only [Act.put, List.setIfInBounds_toArray, List.set_cons_zero, List.set_cons_succ]
    refine reg_take 31 (v := ?vb31) (atS5 (atS5 (atS5 (atS5 (atS5 (atS5 (atS at0))))))) (by kernel_rfl) (by kernel_rfl) (by kernel_rfl) (by rfl) ?hyb31 hHeld ?restb31
    case hyb31 => (intro w' hSw; go_simp; try with_reducible rfl)
    try simp only [Act.put, List.setIfInBounds_toArray, List.set_cons_zero, List.set_cons_succ]
    refine reg_take 32 (v := ?vb32) (atS5 (atS5 (atS5 (atS5 (atS5 (atS5 (atS (atS at0)))))))) (by kernel_rfl) (by kernel_rfl) (by kernel_rfl) (by rfl) ?hyb32 hHeld ?restb32
    case hyb32 => (intro w' hSw; go_simp; try with_reducible rfl)
    try simp only [Act.put, List.setIfInBounds_toArray, List.set_cons_zero, List.set_cons_succ]
    refine wpAnyH_ready (rs := [28]) (by kernel_rfl) (by simp) ?_
    refine AllReadyH.cons (atS5 (atS5 (atS5 (atS5 (atS5 (atS (atS (atS at0)))))))) (fun K hK => ?_) AllReadyH.nil
    go_simp
    skip
    refine hK.out _ _ (B1 _ _) (fun hHeld => ?_)
    clear hK K
    try simp only [Act.put, List.setIfInBounds_toArray, List.set_cons_zero, List.set_cons_succ]
    rw [HD.out]
    refine wpAnyH_ready (rs := [29]) (by kernel_rfl) (by simp) ?_
    refine AllReadyH.cons (atS5 (atS5 (atS5 (atS5 (atS5 (atS (atS (atS (atS at0))))))))) (fun K hK => ?_) AllReadyH.nil
    go_simp
    refine (sum1 rfl ((HC.out.on hb5).take han)).mono ?_
    rintro e w6 ⟨rfl, hb6⟩
    go_wp2_with fail
    refine hK.out _ _ hb6 (fun hHeld => ?_)
    clear hK K
    try simp only [Act.put, List.setIfInBounds_toArray, List.set_cons_zero, List.set_cons_succ]
    refine reg_on hb6 (fun hHeld => ?_)
    refine wpAnyH_ready (rs := [33]) (by kernel_rfl) (by simp) ?_
    refine AllReadyH.cons (atS5 (atS5 (atS5 (atS5 (atS5 (atS5 (atS (atS (atS at0))))))))) (fun K hK => ?_) AllReadyH.nil
    go_simp
    refine (more_any _ _ _ _ _ _ ((HDR.out.on hb5).on hb6)).mono ?_
    rintro e w7 ⟨rfl, hb7⟩
    rw [lowB_toNat', HSM.out, ← HM.out]
    go_wp2_with fail
    refine hK.out _ _ hb7 (fun hHeld => ?_)
    clear hK K
    try simp only [Act.put, List.setIfInBounds_toArray, List.set_cons_zero, List.set_cons_succ]
    refine reg_on hb7 (fun hHeld => ?_)
    have hx1 := HX1.out
    refine reg_take 34 (v := ?vb34) (atS5 (atS5 (atS5 (atS5 (atS5 (atS5 (atS (atS (atS (atS at0)))))))))) (by kernel_rfl) (by kernel_rfl) (by kernel_rfl) (by rfl) ?hyb34 hHeld ?restb34
    case hyb34 => (intro w' hSw; go_simp; try with_reducible rfl)
    try simp only [Act.put, List.setIfInBounds_toArray, List.set_cons_zero, List.set_cons_succ]
    refine reg_take 35 (v := ?vb35) (atS5 (atS5 (atS5 (atS5 (atS5 (atS5 (atS5 at0))))))) (by kernel_rfl) (by kernel_rfl) (by kernel_rfl) (by rfl) ?hyb35 hHeld ?restb35
    case hyb35 => (intro w' hSw; go_simp; try with_reducible rfl)
    try simp only [Act.put, List.setIfInBounds_toArray, List.set_cons_zero, List.set_cons_succ]
    refine reg_take 36 (v := ?vb36) (atS5 (atS5 (atS5 (atS5 (atS5 (atS5 (atS5 (atS at0)))))))) (by kernel_rfl) (by kernel_rfl) (by kernel_rfl) (by rfl) ?hyb36 hHeld ?restb36
    case hyb36 => (intro w' hSw; go_simp; try with_reducible rfl)
    try simp only [Act.put, List.setIfInBounds_toArray, List.set_cons_zero, List.set_cons_succ]
    refine reg_take 37 (v := ?vb37) (atS5 (atS5 (atS5 (atS5 (atS5 (atS5 (atS5 (atS (atS at0))))))))) (by kernel_rfl) (by kernel_rfl) (by kernel_rfl) (by rfl) ?hyb37 hHeld ?restb37
    case hyb37 => (intro w' hSw; go_simp; try with_reducible rfl)
    try simp only [Act.put, List.setIfInBounds_toArray, List.set_cons_zero, List.set_cons_succ]
    refine reg_take 38 (v := ?vb38) (atS5 (atS5 (atS5 (atS5 (atS5 (atS5 (atS5 (atS (atS (atS at0)))))))))) (by kernel_rfl) (by kernel_rfl) (by kernel_rfl) (by rfl) ?hyb38 hHeld ?restb38
    case hyb38 => (intro w' hSw; go_simp; try with_reducible rfl)
    try simp only [Act.put, List.setIfInBounds_toArray, List.set_cons_zero, List.set_cons_succ]
    refine reg_take 39 (v := ?vb39) (atS5 (atS5 (atS5 (atS5 (atS5 (atS5 (atS5 (atS (atS (atS (atS at0))))))))))) (by kernel_rfl) (by kernel_rfl) (by kernel_rfl) (by rfl) ?hyb39 hHeld ?restb39
    case hyb39 => (intro w' hSw; go_simp; try with_reducible rfl)
    try simp only [Act.put, List.setIfInBounds_toArray, List.set_cons_zero, List.set_cons_succ]
    refine reg_take 40 (v := ?vb40) (atS5 (atS5 (atS5 (atS5 (atS5 (atS5 (atS5 (atS5 at0)))))))) (by kernel_rfl) (by kernel_rfl) (by kernel_rfl) (by rfl) ?hyb40 hHeld ?restb40
    case hyb40 => (intro w' hSw; go_simp; try with_reducible rfl)
    try simp only [Act.put, List.setIfInBounds_toArray, List.set_cons_zero, List.set_cons_succ]
    refine reg_take 41 (v := ?vb41) (atS5 (atS5 (atS5 (atS5 (atS5 (atS5 (atS5 (atS5 (atS at0))))))))) (by kernel_rfl) (by kernel_rfl) (by kernel_rfl) (by rfl) ?hyb41 hHeld ?restb41
    case hyb41 => (intro w' hSw; go_simp; try with_reducible rfl)
    try simp only [Act.put, List.setIfInBounds_toArray, List.set_cons_zero, List.set_cons_succ]
    refine reg_take 42 (v := ?vb42) (atS5 (atS5 (atS5 (atS5 (atS5 (atS5 (atS5 (atS5 (atS (atS at0)))))))))) (by kernel_rfl) (by kernel_rfl) (by kernel_rfl) (by rfl) ?hyb42 hHeld ?restb42
    case hyb42 => (intro w' hSw; go_simp; try with_reducible rfl)
    try simp only [Act.put, List.setIfInBounds_toArray, List.set_cons_zero, List.set_cons_succ]
    refine reg_take 43 (v := ?vb43) (atS5 (atS5 (atS5 (atS5 (atS5 (atS5 (atS5 (atS5 (atS (atS (atS at0))))))))))) (by kernel_rfl) (by kernel_rfl) (by kernel_rfl) (by rfl) ?hyb43 hHeld ?restb43
    case hyb43 => (intro w' hSw; go_simp; try with_reducible rfl)
    try simp only [Act.put, List.setIfInBounds_toArray, List.set_cons_zero, List.set_cons_succ]
    refine reg_take 44 (v := ?vb44) (atS5 (atS5 (atS5 (atS5 (atS5 (atS5 (atS5 (atS5 (atS (atS (atS (atS at0)))))))))))) (by kernel_rfl) (by kernel_rfl) (by kernel_rfl) (by rfl) ?hyb44 hHeld ?restb44
    case hyb44 => (intro w' hSw; go_simp; try with_reducible rfl)
    try simp only [Act.put, List.setIfInBounds_toArray, List.set_cons_zero, List.set_cons_succ]
    refine wpAnyH_done (by kernel_rfl) ?_ _
    refine NoPanic.normal ?_
    clear hcv4 hcv5 hx1
    go_wp2_with fail
    all_goals
      go_ret
      exact ⟨rfl, Bt (Bt (Bt hbC hb5) hb6) hb7⟩
end Go.Proofs.Ytpgidhofgccdgaa
