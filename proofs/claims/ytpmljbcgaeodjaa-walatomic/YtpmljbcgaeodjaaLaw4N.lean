/-
  WalNothing holds: for every list of sets the statement answers true, and nothing that was there has turned.
-/
import Derived.Test.YtpmljbcgaeodjaaWalL
namespace Go.Proofs.Ytpmljbcgaeodjaa
open Go.RowKit Go.Maps Go.Shelf
set_option linter.unusedVariables false

theorem b20 : begE 20 2 9 1 [(15, 3)] = 0 ∧ seqOf 20 2 9 (zeros 160) = 0 ∧ rgE 20 2 9 = 0 := by decide +kernel
theorem len20 : (20 : Int) = ((zeros 160).length : Int) / 8 := by rw [zeros_length]; rfl
/-- What begins each of the statements: a device of 20 words, and a log of the words 2 to 10. -/
def D15 : DS := runS (cl (zeros 160)) (allS 2 1 [(15, 3)])
theorem D15_length : D15.S.length = 160 := runS_length (D := cl (zeros 160)) (all_ok len20 (by decide) (by decide) (by decide) b20.1)

theorem begE_cases (n at_ words next : Int) (xs : List (Int × Int)) (h : next ≤ 4294967295) :
    (begE n at_ words next xs = 1 ∧ (decide (0 < xs.length) && xs.all (mayB n at_ words)) = false) ∨ (begE n at_ words next xs = 40 ∧ (decide (0 < xs.length) && xs.all (mayB n at_ words)) = true ∧ (words - 1) / 2 < xs.length) ∨ (begE n at_ words next xs = 0 ∧ (decide (0 < xs.length) && xs.all (mayB n at_ words)) = true ∧ xs.length ≤ (words - 1) / 2) := by
  unfold begE
  by_cases h1 : xs.length = 0 ∨ xs.all (mayB n at_ words) = false
  · left
    rw [if_pos h1]
    refine ⟨rfl, ?_⟩
    rcases h1 with h1 | h1
    · simp [h1]
    · rw [h1, Bool.and_false]
  · right
    rw [if_neg h1]
    have h2 : (decide (0 < xs.length) && xs.all (mayB n at_ words)) = true := by
      rw [Bool.and_eq_true]
      refine ⟨by simp; omega, ?_⟩
      cases hh : xs.all (mayB n at_ words) with
      | true => rfl
      | false => exact absurd (.inr hh) h1
    by_cases h3 : (words - 1) / 2 < (xs.length : Int) ∨ 4294967295 < next
    · left; rw [if_pos h3]; exact ⟨rfl, h2, by omega⟩
    · right; rw [if_neg h3]; exact ⟨rfl, h2, by omega⟩

set_option maxRecDepth 20000 in
set_option maxHeartbeats 16000000 in
theorem walk_WalNothing (A : Option Addr) (n c : Nat) (xs : List (Int × Int)) (w : World) (h : RdS w w.heap.size A n c xs) :
    Calls Try.prog 5 #[.slice A n c] w fun e w' => e = .returned (.bool true) ∧ Below w.heap.size w w' := by
  have HRD := hid h
  have HN : Hid (xs.length = n) := h.1
  have hnm : (n : Int) ≤ 9223372036854775807 := by have := h.2.1; have := h.2.2.1; unfold maxLen at *; omega
  clear h
  by_cases hbig : 50 < (n : Int)
  · have d1 : decide (50 < (n : Int)) = true := by simp; omega
    go_enter Try.func5, Try.ntmps5
    go_wp2_with fail
    refine (new_ok 20 160 rfl (by decide) (by decide) w).mono ?_
    rintro e w1 ⟨d, g, lb, fb, rfl, hd1, hb1⟩
    clear hd1
    go_wp2_with fail
    refine (alive_any _).mono ?_
    rintro e w2 ⟨rfl, hb⟩
    go_wp2_with fail
    go_ret
    exact ⟨rfl, Bt hb1 hb⟩
  · have d1 : decide (50 < (n : Int)) = false := by simp; omega
    have hn50 : (n : Int) ≤ 50 := by omega
    clear hbig hnm
    go_enter Try.func5, Try.ntmps5
    go_wp2_with fail
    refine (new_ok 20 160 rfl (by decide) (by decide) w).mono ?_
    rintro e w1 ⟨d, g, lb, fb, rfl, hd1, hb1⟩
    have HD1 := hid (DevS.clean hd1); have HB1 := hid hb1
    clear hd1 hb1
    go_wp2_with fail
    refine (open_ok (S := zeros 160) (n := 20) HD1.out len20 b20.2.2).mono ?_
    rintro e w2 ⟨p, rfl, hl2, hp2, hb2⟩
    rw [b20.2.1] at hl2
    have HL2 : Hid (LogV w2 p d 2 9 1) := hl2
    have HB2 := hid (Bt HB1.out hb2); have HP : Hid (w.heap.size ≤ p) := Nat.le_trans HB1.out.size hp2
    have HD2 : Hid (DevS w2 w.heap.size d g 160 lb fb (cl (zeros 160))) := Dev.on HD1.out hb2
    clear hl2 hb2 hp2
    go_wp2_with fail
    obtain ⟨w3, hw3⟩ : ∃ w3, w3 = w2.alloc (.cells #[.int .i64 15, .int .u64 3] 54) := ⟨_, rfl⟩
    have hb3 : Below w2.heap.size w2 w3 := by rw [hw3]; exact B1 _ _
    have hr3 : RdS w3 w3.heap.size (some ⟨w2.heap.size, 0, none⟩) 1 1 [(15, 3)] := by rw [hw3]; exact rdS_one (15, 3) ⟨i64_iff.2 (by decide), by show U64 3; unfold U64; rw [pw8]; omega⟩
    rw [← hw3]
    have HD3 : Hid (DevS w3 w.heap.size d g 160 lb fb (cl (zeros 160))) := Dev.on HD2.out hb3
    have HL3 : Hid (LogV w3 p d 2 9 1) := (hb3.block _ (row_lt HL2.out)).trans HL2.out
    have HB3 := hid (Bt HB2.out hb3)
    clear hw3 hb3
    refine (commit_any (N := 20) HD3.out len20 (by decide) (by decide) (by decide) HL3.out hr3 (by decide) (by decide)).mono ?_
    clear hr3
    rintro e w4 ⟨rfl, hd4, hl4, hf4⟩
    rw [b20.1] at hd4 hl4 ⊢
    rw [if_pos rfl] at hd4 hl4
    have HD4 : Hid (DevS w4 w.heap.size d g 160 lb fb D15) := hd4
    have HL4 : Hid (LogV w4 p d 2 9 2) := hl4
    have HB4 := hid (HB3.out.trans (hf4.base HP.out (Dev.Bg HD3.out) (Dev.Bl HD3.out) (Dev.Bf HD3.out) HB3.out.size))
    clear hd4 hl4 hf4
    go_wp2_with fail
    refine reg_begin (by kernel_rfl) (fun w0z hx0z hHeld => ?_)
    have HX0 := hid hx0z
    refine reg_take 0 (v := ?vb0) at0 (by kernel_rfl) (by kernel_rfl) (by kernel_rfl) (by rfl) ?hyb0 hHeld ?restb0
    case hyb0 => (intro w' hSw; go_simp; try with_reducible rfl)
    try simp only [Act.put, List.setIfInBounds_toArray, List.set_cons_zero, List.set_cons_succ]
    refine reg_take 3 (v := ?vb3) (atS (atS (atS at0))) (by kernel_rfl) (by kernel_rfl) (by kernel_rfl) (by rfl) ?hyb3 hHeld ?restb3
    case hyb3 => (intro w' hSw; go_simp; try with_reducible rfl)
    try simp only [Act.put, List.setIfInBounds_toArray, List.set_cons_zero, List.set_cons_succ]
    refine wpAnyH_ready (rs := [1]) (by kernel_rfl) (by simp) ?_
    refine AllReadyH.cons (atS at0) (fun K hK => ?_) AllReadyH.nil
    go_simp
    refine (bytes_any (Dev.on HD4.out HX0.out)).mono ?_
    rintro e x1 ⟨v1, rfl, ho1, hb1⟩
    obtain ⟨A1, c1, rfl, hr1⟩ := ho1.rd
    have HR1 := hid hr1; have HX1 := hid (Bt HX0.out hb1)
    clear ho1 hr1
    go_wp2_with fail
    refine hK.out _ _ hb1 (fun hHeld => ?_)
    clear hK K
    try simp only [Act.put, List.setIfInBounds_toArray, List.set_cons_zero, List.set_cons_succ]
    refine reg_on hb1 (fun hHeld => ?_)
    have hcv : ∀ w', Ext x1 w' → (convert 35 9 (.slice A1 D15.S.length c1)).run Try.prog w' = .ok (.string ⟨D15.S.toArray⟩) w' := fun w' hb => (HR1.out.on hb).conv
    refine reg_take 2 (v := ?vb2) (atS (atS at0)) (by kernel_rfl) (by kernel_rfl) (by kernel_rfl) (by rfl) ?hyb2 hHeld ?restb2
    case hyb2 => (intro w' hSw; go_simp; try with_reducible rfl)
    try simp only [Act.put, List.setIfInBounds_toArray, List.set_cons_zero, List.set_cons_succ]
    refine wpAnyH_ready (rs := [4]) (by kernel_rfl) (by simp) ?_
    refine AllReadyH.cons (atS (atS (atS (atS at0)))) (fun K hK => ?_) AllReadyH.nil
    go_simp
    refine (seq_any ((HX1.out.block _ (row_lt HL4.out)).trans HL4.out)).mono ?_
    rintro e x2 ⟨rfl, rfl⟩
    go_wp2_with fail
    refine hK.out _ _ (Ext.refl _) (fun hHeld => ?_)
    clear hK K
    try simp only [Act.put, List.setIfInBounds_toArray, List.set_cons_zero, List.set_cons_succ]
    refine reg_take 5 (v := ?vb5) (atS5 at0) (by kernel_rfl) (by kernel_rfl) (by kernel_rfl) (by rfl) ?hyb5 hHeld ?restb5
    case hyb5 => (intro w' hSw; go_simp; try with_reducible rfl)
    try simp only [Act.put, List.setIfInBounds_toArray, List.set_cons_zero, List.set_cons_succ]
    refine reg_take 6 (v := ?vb6) (atS5 (atS at0)) (by kernel_rfl) (by kernel_rfl) (by kernel_rfl) (by rfl) ?hyb6 hHeld ?restb6
    case hyb6 => (intro w' hSw; go_simp; try with_reducible rfl)
    try simp only [Act.put, List.setIfInBounds_toArray, List.set_cons_zero, List.set_cons_succ]
    refine wpAnyH_done (by kernel_rfl) ?_ _
    refine NoPanic.normal ?_
    have HXB : Hid (Below w.heap.size w x2) := Bt HB4.out HX1.out
    have HD5 : Hid (DevS x2 w.heap.size d g 160 lb fb D15) := Dev.on HD4.out HX1.out
    have HL5 : Hid (LogV x2 p d 2 9 2) := (HX1.out.block _ (row_lt HL4.out)).trans HL4.out
    clear hcv
    go_wp2_with fail
    refine (own_any (HRD.out.on HXB.out) (by have := HN.out; omega)).mono ?_
    rintro e w6 ⟨v6, rfl, ho6, hb6⟩
    have hxok : ∀ x ∈ xs, I64 x.1 ∧ U64 x.2 := HRD.out.2.2.2.1
    obtain ⟨A6, c6, rfl⟩ := ho6.shape
    have hr6 := (ho6.rd hxok).1
    have HXO := hid hxok
    rw [HN.out] at hr6 ⊢
    have HD6 : Hid (DevS w6 w.heap.size d g 160 lb fb D15) := Dev.on HD5.out hb6
    have HL6 : Hid (LogV w6 p d 2 9 2) := (hb6.block _ (row_lt HL5.out)).trans HL5.out
    have HB6 := hid (Bt HXB.out hb6)
    have hcom := commit_any (N := 20) HD6.out (by rw [D15_length]; rfl) (by decide) (by decide) (by decide) HL6.out hr6 (by decide) (by decide)
    have HBC := hid (begE_cases 20 2 9 2 xs (by decide))
    obtain ⟨er, her⟩ : ∃ er, er = begE 20 2 9 2 xs := ⟨_, rfl⟩
    rw [← her] at hcom HBC
    have HC := hid hcom
    clear hcom ho6 hr6 hb6 her hxok
    go_wp2_with fail
    refine HC.out.mono ?_
    rintro e w7 ⟨rfl, hd7, hl7, hf7⟩
    have HB7 := hid (HB6.out.trans (hf7.base HP.out (Dev.Bg HD6.out) (Dev.Bl HD6.out) (Dev.Bf HD6.out) HB6.out.size))
    have HD7 := hid hd7; have HL7 := hid hl7
    clear hd7 hl7 hf7
    obtain ⟨z0, hz0⟩ : ∃ z0, z0 = decide (0 < n) := ⟨_, rfl⟩
    have hz0' : decide (0 < n) = z0 := hz0.symm
    have HZ0 := hid hz0
    clear hz0
    go_wp2_with fail
    go_loopw [10, 66] (fun v i wr => ∃ (k : Nat) (m : Bool), k ≤ n ∧ i = .int .i64 k ∧ v = .bool m ∧ Hid (m = (z0 && (xs.take k).all (mayB 20 2 9))) ∧ Hid (Below w7.heap.size w7 wr)) (fun _ i _ => n - (intOf i).toNat)
    case atStart => exact ⟨0, z0, Nat.zero_le _, rfl, (by rw [HZ0.out]), hid (by simp), hid (B0 _)⟩
    case round =>
      obtain ⟨k, m, hk, rfl, rfl, HMk, HBr⟩ := hrel
      by_cases hlt : k < n
      · have hkx : k < xs.length := by rw [HN.out]; exact hlt
        have hB := Bt HB7.out HBr.out
        obtain ⟨b, off, rfl, hbl, hc⟩ := (HRD.out.below hB).2.2.2.2 (by omega)
        obtain ⟨hc1, hc2⟩ := hc k hkx
        obtain ⟨⟨x1, x2'⟩, hx⟩ : ∃ x, x = xs[k] := ⟨_, rfl⟩
        have HXk : Hid (xs[k]? = some (x1, x2')) := by rw [hx]; exact List.getElem?_eq_getElem hkx
        have hxi := i64_iff.1 (HXO.out (x1, x2') (by rw [hx]; exact List.getElem_mem _)).1
        rw [← hx] at hc1 hc2
        simp only at hc1 hc2 hxi
        have HR : Hid (∀ b : Bool, b = (m && mayB 20 2 9 (x1, x2')) → b = (z0 && (xs.take (k + 1)).all (mayB 20 2 9))) := fun b hb => by
          rw [hb, HMk.out, List.take_add_one, HXk.out]; simp [List.all_append, Bool.and_assoc]
        have HMM : Hid (mayB 20 2 9 (x1, x2') = (decide (0 ≤ x1) && decide (x1 < 20) && !(decide (2 ≤ x1) && decide (x1 < 2 + 9)))) := rfl
        have HBx := hid (Ba HBr.out (.cells #[.int .i64 x1, .int .u64 x2'] 42))
        clear hc hx hB hkx
        cases m with
        | false =>
          go_wp2_with fail
          go_roundw
          case rel => exact ⟨k + 1, false, by omega, by simp, rfl, hid (HR.out false (by simp)), HBx⟩
          case measure => simp [intOf]; omega
        | true =>
          by_cases p1 : 0 ≤ x1
          · have e1 : decide (0 ≤ x1) = true := by simp; omega
            by_cases p2 : x1 < 20
            · have e2 : decide (x1 < 20) = true := by simp; omega
              by_cases p3 : x1 < 2
              · have e3 : decide (x1 < 2) = true := by simp; omega
                go_wp2_with fail
                go_roundw
                case rel => exact ⟨k + 1, true, by omega, by simp, rfl, hid (HR.out true (by rw [HMM.out]; simp; omega)), HBx⟩
                case measure => simp [intOf]; omega
              · have e3 : decide (x1 < 2) = false := by simp; omega
                by_cases p4 : 10 < x1
                · have e4 : decide (10 < x1) = true := by simp; omega
                  go_wp2_with fail
                  go_roundw
                  case rel => exact ⟨k + 1, true, by omega, by simp, rfl, hid (HR.out true (by rw [HMM.out]; simp; omega)), HBx⟩
                  case measure => simp [intOf]; omega
                · have e4 : decide (10 < x1) = false := by simp; omega
                  go_wp2_with fail
                  go_roundw
                  case rel => exact ⟨k + 1, false, by omega, by simp, rfl, hid (HR.out false (by rw [HMM.out]; simp; omega)), HBx⟩
                  case measure => simp [intOf]; omega
            · have e2 : decide (x1 < 20) = false := by simp; omega
              go_wp2_with fail
              go_roundw
              case rel => exact ⟨k + 1, false, by omega, by simp, rfl, hid (HR.out false (by rw [HMM.out]; simp; omega)), HBx⟩
              case measure => simp [intOf]; omega
          · have e1 : decide (0 ≤ x1) = false := by simp; omega
            go_wp2_with fail
            go_roundw
            case rel => exact ⟨k + 1, false, by omega, by simp, rfl, hid (HR.out false (by rw [HMM.out]; simp; omega)), HBx⟩
            case measure => simp [intOf]; omega
      · obtain rfl : k = n := by omega
        have hm : m = (decide (0 < xs.length) && xs.all (mayB 20 2 9)) := by
          rw [HMk.out, HZ0.out, ← HN.out, List.take_length]
        have HW : Hid (Below w.heap.size w wr) := Bt HB7.out HBr.out
        have HLr : Hid (LogV wr p d 2 9 (if er = 0 then 2 + 1 else 2)) := (HBr.out.block _ (row_lt HL7.out)).trans HL7.out
        have HDr := hid (Dev.on HD7.out HBr.out)
        clear hlt
        rcases HBC.out with ⟨rfl, hm1⟩ | ⟨rfl, hm1, hl1⟩ | ⟨rfl, hm1, hl1⟩
        · rw [← hm] at hm1
          subst hm1
          have hl9 := HLr.out
          rw [if_neg (by decide)] at hl9
          have HL9 := hid hl9
          have HD9 : Hid (Dev wr w.heap.size d g 160 lb fb D15.S D15.L D15.F) := HDr.out
          clear hm hl9
          go_wp2_with fail
          refine (alive_any _).mono ?_
          rintro e y1 ⟨rfl, by1⟩
          go_wp2_with fail
          refine (bytes_any (HD9.out.on by1)).mono ?_
          rintro e y2 ⟨v2, rfl, ho2, by2⟩
          obtain ⟨A2, c2, rfl, hr2⟩ := ho2.rd
          have hcv2 := hr2.conv
          have HLy : Hid (LogV y2 p d 2 9 2) := ((Bt by1 by2).block _ (row_lt HL9.out)).trans HL9.out
          clear ho2 hr2
          go_wp2_with fail
          refine (seq_any HLy.out).mono ?_
          rintro e y3 ⟨rfl, rfl⟩
          go_wp2_with fail
          go_ret
          exact ⟨rfl, Bt (Bt HW.out by1) by2⟩
        · rw [← hm] at hm1
          subst hm1
          have hl9 := HLr.out
          rw [if_neg (by decide)] at hl9
          have HL9 := hid hl9
          have HD9 : Hid (Dev wr w.heap.size d g 160 lb fb D15.S D15.L D15.F) := HDr.out
          have hgt : decide (4 < (k : Int)) = true := by rw [HN.out] at hl1; simp; omega
          clear hm hl9 hl1
          go_wp2_with fail
          refine (alive_any _).mono ?_
          rintro e y1 ⟨rfl, by1⟩
          go_wp2_with fail
          refine (bytes_any (HD9.out.on by1)).mono ?_
          rintro e y2 ⟨v2, rfl, ho2, by2⟩
          obtain ⟨A2, c2, rfl, hr2⟩ := ho2.rd
          have hcv2 := hr2.conv
          have HLy : Hid (LogV y2 p d 2 9 2) := ((Bt by1 by2).block _ (row_lt HL9.out)).trans HL9.out
          clear ho2 hr2
          go_wp2_with fail
          refine (seq_any HLy.out).mono ?_
          rintro e y3 ⟨rfl, rfl⟩
          go_wp2_with fail
          refine (room_any HLy.out (by decide) (by decide)).mono ?_
          rintro e y4 ⟨rfl, rfl⟩
          rw [show ((9 : Int) - 1) / 2 = 4 from rfl]
          go_wp2_with fail
          go_ret
          exact ⟨rfl, Bt (Bt HW.out by1) by2⟩
        · rw [← hm] at hm1
          subst hm1
          have hl9 := HLr.out
          rw [if_pos rfl] at hl9
          have HL9 : Hid (LogV wr p d 2 9 3) := hl9
          have hgt : decide ((k : Int) ≤ 4) = true := by rw [HN.out] at hl1; simp; omega
          clear hm hl9 hl1
          go_wp2_with fail
          refine (alive_any _).mono ?_
          rintro e y1 ⟨rfl, by1⟩
          have HLy : Hid (LogV y1 p d 2 9 3) := (by1.block _ (row_lt HL9.out)).trans HL9.out
          go_wp2_with fail
          refine (room_any HLy.out (by decide) (by decide)).mono ?_
          rintro e y2 ⟨rfl, rfl⟩
          rw [show ((9 : Int) - 1) / 2 = 4 from rfl]
          go_wp2_with fail
          refine (seq_any HLy.out).mono ?_
          rintro e y3 ⟨rfl, rfl⟩
          go_wp2_with fail
          go_ret
          exact ⟨rfl, Bt HW.out by1⟩
end Go.Proofs.Ytpmljbcgaeodjaa
