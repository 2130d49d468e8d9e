/-
  PmemNew holds: for every number of words the statement answers true, and nothing that was there has turned.
-/
import Derived.Test.YtfekholamkidkaaPmL
namespace Go.Proofs.Ytfekholamkidkaa
open Go.RowKit Go.Maps Go.Sort
set_option linter.unusedVariables false

theorem looseL_nil (n : Nat) : looseL n (fun _ => none) = [] := by simp [looseL]
theorem rd_zeros (W : World) {m : Nat} (h : m ≤ 65536) : Rd (W.alloc (.cells (zrow m).toArray 5)) (W.alloc (.cells (zrow m).toArray 5)).heap.size (some ⟨W.heap.size, 0, none⟩) m m (zeros m) := by
  have hr : Row (W.alloc (.cells (zrow m).toArray 5)) W.heap.size m (zeros m) :=
    ⟨_, heap_alloc_new W _, by simp [zrow], by simp [zeros], by unfold maxLen; omega, by simp [zrow, zeros]⟩
  have := hr.rd
  rw [zeros_length] at this; exact this

set_option maxHeartbeats 2000000 in
theorem walk_PmemNew (k : Int) (w : World) (hk : (Lit.int .i64 k).wf = true) :
    Calls Try.prog 3 #[.int .i64 k] w fun e w' => e = .returned (.bool true) ∧ Below w.heap.size w w' := by
  by_cases hbad : k < 0 ∨ 8192 < k
  · have hn := new_bad k hbad w
    have HN := hid hn; clear hn hk
    have hb2 : (decide (k < 0) || decide (8192 < k)) = true := by simpa using hbad
    go_enter Try.func3, Try.ntmps3
    go_wp2_with fail
    refine HN.out.mono ?_
    rintro e w1 ⟨rfl, rfl⟩
    by_cases h0 : k < 0
    · go_wp2_with fail
      refine (alive_any _).mono ?_
      rintro e w2 ⟨rfl, hb⟩
      go_wp2_with fail
      go_ret
      exact ⟨rfl, hb⟩
    · have h1 : 8192 < k := by omega
      go_wp2_with fail
      refine (alive_any _).mono ?_
      rintro e w2 ⟨rfl, hb⟩
      go_wp2_with fail
      go_ret
      exact ⟨rfl, hb⟩
  · have h0 : 0 ≤ k := by omega
    have h1 : k ≤ 8192 := by omega
    obtain ⟨m, hm⟩ : ∃ m : Nat, (m : Int) = k * 8 := ⟨(k * 8).toNat, by omega⟩
    have hn := new_ok k m hm h0 h1 w
    have hwr : IntKind.i64.wrap (k * 8) = m := by rw [← hm, IntKind.wrap_i64]; omega
    have hmb : m ≤ 65536 := by omega
    have HN := hid hn; have HW := hid hwr; have HM := hid hm; have HMB := hid hmb; clear hn hk hbad hm hwr hmb
    go_enter Try.func3, Try.ntmps3
    go_wp2_with fail
    refine HN.out.mono ?_
    rintro e w1 ⟨d, g, lb, fb, rfl, hd1, hb1⟩
    have HD1 := hid hd1; clear hd1
    go_wp2_with fail
    have hwr := HW.out
    refine reg_begin (by kernel_rfl) (fun w0 hx0 hHeld => ?_)
    have hmk := run_make8 m m rfl (by have := HMB.out; omega)
    have hcz : ∀ (W w' : World), Ext (W.alloc (.cells (zrow m).toArray 5)) w' → (convert 28 9 (.slice (some ⟨W.heap.size, 0, none⟩) m m)).run Try.prog w' = .ok (.string ⟨(zeros m).toArray⟩) w' := fun W w' hb => ((rd_zeros W HMB.out).on hb).conv
    have HD0 := hid (HD1.out.on hx0)
    refine wpAnyH_ready (rs := [0]) (by kernel_rfl) (by simp) ?_
    refine AllReadyH.cons at0 (fun K hK => ?_) AllReadyH.nil
    go_simp
    refine (alive_any _).mono ?_
    rintro e w2 ⟨rfl, hb2⟩
    go_wp2_with fail
    refine hK.out _ _ hb2 (fun hHeld => ?_)
    clear hK K
    try simp only [Act.put, List.setIfInBounds_toArray, List.set_cons_zero, List.set_cons_succ]
    refine reg_on hb2 (fun hHeld => ?_)
    have HD2 := hid (HD0.out.on hb2)
    have hfin := Bt (Bt hb1 hx0) hb2
    refine reg_take 1 (v := ?vz1_1) (atS at0) (by kernel_rfl) (by kernel_rfl) (by kernel_rfl) (by rfl) ?hyz1_1 hHeld ?restz1_1
    case hyz1_1 => (intro w' hSw; go_simp; try with_reducible rfl)
    try simp only [Act.put, List.setIfInBounds_toArray, List.set_cons_zero, List.set_cons_succ]
    refine reg_take 2 (v := ?vz2_2) (atS (atS at0)) (by kernel_rfl) (by kernel_rfl) (by kernel_rfl) (by rfl) ?hyz2_2 hHeld ?restz2_2
    case hyz2_2 => (intro w' hSw; go_simp; try with_reducible rfl)
    try simp only [Act.put, List.setIfInBounds_toArray, List.set_cons_zero, List.set_cons_succ]
    refine reg_take 3 (v := ?vz3_3) (atS (atS (atS at0))) (by kernel_rfl) (by kernel_rfl) (by kernel_rfl) (by rfl) ?hyz3_3 hHeld ?restz3_3
    case hyz3_3 => (intro w' hSw; go_simp; try with_reducible rfl)
    try simp only [Act.put, List.setIfInBounds_toArray, List.set_cons_zero, List.set_cons_succ]
    refine reg_take 4 (v := ?vz4_4) (atS (atS (atS (atS at0)))) (by kernel_rfl) (by kernel_rfl) (by kernel_rfl) (by rfl) ?hyz4_4 hHeld ?restz4_4
    case hyz4_4 => (intro w' hSw; go_simp; try with_reducible rfl)
    try simp only [Act.put, List.setIfInBounds_toArray, List.set_cons_zero, List.set_cons_succ]
    refine reg_take 5 (v := ?vz5_5) (atS5 at0) (by kernel_rfl) (by kernel_rfl) (by kernel_rfl) (by rfl) ?hyz5_5 hHeld ?restz5_5
    case hyz5_5 => (intro w' hSw; go_simp; try with_reducible rfl)
    try simp only [Act.put, List.setIfInBounds_toArray, List.set_cons_zero, List.set_cons_succ]
    refine reg_take 6 (v := ?vz6_6) (atS5 (atS at0)) (by kernel_rfl) (by kernel_rfl) (by kernel_rfl) (by rfl) ?hyz6_6 hHeld ?restz6_6
    case hyz6_6 => (intro w' hSw; go_simp; try with_reducible rfl)
    try simp only [Act.put, List.setIfInBounds_toArray, List.set_cons_zero, List.set_cons_succ]
    refine reg_take 7 (v := ?vz7_7) (atS5 (atS (atS at0))) (by kernel_rfl) (by kernel_rfl) (by kernel_rfl) (by rfl) ?hyz7_7 hHeld ?restz7_7
    case hyz7_7 => (intro w' hSw; go_simp; try with_reducible rfl)
    try simp only [Act.put, List.setIfInBounds_toArray, List.set_cons_zero, List.set_cons_succ]
    refine reg_take 8 (v := ?vz8_8) (atS5 (atS (atS (atS at0)))) (by kernel_rfl) (by kernel_rfl) (by kernel_rfl) (by rfl) ?hyz8_8 hHeld ?restz8_8
    case hyz8_8 => (intro w' hSw; go_simp; try with_reducible rfl)
    try simp only [Act.put, List.setIfInBounds_toArray, List.set_cons_zero, List.set_cons_succ]
    refine reg_take 9 (v := ?vz9_9) (atS5 (atS (atS (atS (atS at0))))) (by kernel_rfl) (by kernel_rfl) (by kernel_rfl) (by rfl) ?hyz9_9 hHeld ?restz9_9
    case hyz9_9 => (intro w' hSw; go_simp; try with_reducible rfl)
    try simp only [Act.put, List.setIfInBounds_toArray, List.set_cons_zero, List.set_cons_succ]
    refine reg_take 10 (v := ?vz10_10) (atS5 (atS5 at0)) (by kernel_rfl) (by kernel_rfl) (by kernel_rfl) (by rfl) ?hyz10_10 hHeld ?restz10_10
    case hyz10_10 => (intro w' hSw; go_simp; try with_reducible rfl)
    try simp only [Act.put, List.setIfInBounds_toArray, List.set_cons_zero, List.set_cons_succ]
    refine reg_take 12 (v := ?vz11_12) (atS5 (atS5 (atS (atS at0)))) (by kernel_rfl) (by kernel_rfl) (by kernel_rfl) (by rfl) ?hyz11_12 hHeld ?restz11_12
    case hyz11_12 => (intro w' hSw; go_simp; try with_reducible rfl)
    try simp only [Act.put, List.setIfInBounds_toArray, List.set_cons_zero, List.set_cons_succ]
    refine reg_take 13 (v := ?vz12_13) (atS5 (atS5 (atS (atS (atS at0))))) (by kernel_rfl) (by kernel_rfl) (by kernel_rfl) (by rfl) ?hyz12_13 hHeld ?restz12_13
    case hyz12_13 => (intro w' hSw; go_simp; try with_reducible rfl)
    try simp only [Act.put, List.setIfInBounds_toArray, List.set_cons_zero, List.set_cons_succ]
    refine wpAnyH_ready (rs := [11]) (by kernel_rfl) (by simp) ?_
    refine AllReadyH.cons (atS5 (atS5 (atS at0))) (fun K hK => ?_) AllReadyH.nil
    go_simp
    refine (len_any HD2.out).mono ?_
    rintro e w3 ⟨rfl, rfl⟩
    rw [zeros_length]
    go_wp2_with fail
    refine hK.out _ _ (Ext.refl _) (fun hHeld => ?_)
    clear hK K
    try simp only [Act.put, List.setIfInBounds_toArray, List.set_cons_zero, List.set_cons_succ]
    refine reg_take 14 (v := ?vz13_14) (atS5 (atS5 (atS (atS (atS (atS at0)))))) (by kernel_rfl) (by kernel_rfl) (by kernel_rfl) (by rfl) ?hyz13_14 hHeld ?restz13_14
    case hyz13_14 => (intro w' hSw; go_simp; try with_reducible rfl)
    try simp only [Act.put, List.setIfInBounds_toArray, List.set_cons_zero, List.set_cons_succ]
    refine reg_take 15 (v := ?vz14_15) (atS5 (atS5 (atS5 at0))) (by kernel_rfl) (by kernel_rfl) (by kernel_rfl) (by rfl) ?hyz14_15 hHeld ?restz14_15
    case hyz14_15 => (intro w' hSw; go_simp; try with_reducible rfl)
    try simp only [Act.put, List.setIfInBounds_toArray, List.set_cons_zero, List.set_cons_succ]
    refine reg_take 16 (v := ?vz15_16) (atS5 (atS5 (atS5 (atS at0)))) (by kernel_rfl) (by kernel_rfl) (by kernel_rfl) (by rfl) ?hyz15_16 hHeld ?restz15_16
    case hyz15_16 => (intro w' hSw; go_simp; try with_reducible rfl)
    try simp only [Act.put, List.setIfInBounds_toArray, List.set_cons_zero, List.set_cons_succ]
    refine reg_take 17 (v := ?vz16_17) (atS5 (atS5 (atS5 (atS (atS at0))))) (by kernel_rfl) (by kernel_rfl) (by kernel_rfl) (by rfl) ?hyz16_17 hHeld ?restz16_17
    case hyz16_17 => (intro w' hSw; go_simp; try with_reducible rfl)
    try simp only [Act.put, List.setIfInBounds_toArray, List.set_cons_zero, List.set_cons_succ]
    refine reg_take 20 (v := ?vz17_20) (atS5 (atS5 (atS5 (atS5 at0)))) (by kernel_rfl) (by kernel_rfl) (by kernel_rfl) (by rfl) ?hyz17_20 hHeld ?restz17_20
    case hyz17_20 => (intro w' hSw; go_simp; try with_reducible rfl)
    try simp only [Act.put, List.setIfInBounds_toArray, List.set_cons_zero, List.set_cons_succ]
    refine reg_take 21 (v := ?vz18_21) (atS5 (atS5 (atS5 (atS5 (atS at0))))) (by kernel_rfl) (by kernel_rfl) (by kernel_rfl) (by rfl) ?hyz18_21 hHeld ?restz18_21
    case hyz18_21 => (intro w' hSw; go_simp; try with_reducible rfl)
    try simp only [Act.put, List.setIfInBounds_toArray, List.set_cons_zero, List.set_cons_succ]
    refine wpAnyH_ready (rs := [18, 22]) (by kernel_rfl) (by simp) ?_
    refine AllReadyH.cons (atS5 (atS5 (atS5 (atS (atS (atS at0)))))) (fun K hK => ?_) (AllReadyH.cons (atS5 (atS5 (atS5 (atS5 (atS (atS at0)))))) (fun K hK => ?_) AllReadyH.nil)
    · skip
      go_simp
      refine (bytes_any HD2.out).mono ?_
      rintro e w4 ⟨v4, rfl, ho4, hb4⟩
      go_wp2_with fail
      refine hK.out _ _ hb4 (fun hHeld => ?_)
      clear hK K
      try simp only [Act.put, List.setIfInBounds_toArray, List.set_cons_zero, List.set_cons_succ]
      refine reg_on hb4 (fun hHeld => ?_)
      have HD4 := hid (HD2.out.on hb4)
      have hfin := Bt hfin hb4
      obtain ⟨A4, c4, hv4, hr4⟩ := ho4.rd
      subst hv4
      have hcv4 : ∀ w', Ext w4 w' → (convert 28 9 (.slice A4 (zeros m).length c4)).run Try.prog w' = .ok (.string ⟨(zeros m).toArray⟩) w' := fun w' hb => (hr4.on hb).conv
      clear ho4 hr4
      refine reg_take 19 (v := ?vz19_19) (atS5 (atS5 (atS5 (atS (atS (atS (atS at0))))))) (by kernel_rfl) (by kernel_rfl) (by kernel_rfl) (by rfl) ?hyz19_19 hHeld ?restz19_19
      case hyz19_19 => (intro w' hSw; go_simp; try with_reducible rfl)
      try simp only [Act.put, List.setIfInBounds_toArray, List.set_cons_zero, List.set_cons_succ]
      refine wpAnyH_ready (rs := [22]) (by kernel_rfl) (by simp) ?_
      refine AllReadyH.cons (atS5 (atS5 (atS5 (atS5 (atS (atS at0)))))) (fun K hK => ?_) AllReadyH.nil
      go_simp
      skip
      refine hK.out _ _ (B1 _ _) (fun hHeld => ?_)
      clear hK K
      try simp only [Act.put, List.setIfInBounds_toArray, List.set_cons_zero, List.set_cons_succ]
      refine reg_on (B1 _ _) (fun hHeld => ?_)
      have HD5 := hid (HD4.out.alloc (.cells (zrow m).toArray 5))
      have hfin := Ba hfin (.cells (zrow m).toArray 5)
      refine reg_take 23 (v := ?vz20_23) (atS5 (atS5 (atS5 (atS5 (atS (atS (atS at0))))))) (by kernel_rfl) (by kernel_rfl) (by kernel_rfl) (by rfl) ?hyz20_23 hHeld ?restz20_23
      case hyz20_23 => (intro w' hSw; go_simp; try with_reducible rfl)
      try simp only [Act.put, List.setIfInBounds_toArray, List.set_cons_zero, List.set_cons_succ]
      refine reg_take 24 (v := ?vz21_24) (atS5 (atS5 (atS5 (atS5 (atS (atS (atS (atS at0)))))))) (by kernel_rfl) (by kernel_rfl) (by kernel_rfl) (by rfl) ?hyz21_24 hHeld ?restz21_24
      case hyz21_24 => (intro w' hSw; go_simp; try with_reducible rfl)
      try simp only [Act.put, List.setIfInBounds_toArray, List.set_cons_zero, List.set_cons_succ]
      refine reg_take 25 (v := ?vz22_25) (atS5 (atS5 (atS5 (atS5 (atS5 at0))))) (by kernel_rfl) (by kernel_rfl) (by kernel_rfl) (by rfl) ?hyz22_25 hHeld ?restz22_25
      case hyz22_25 => (intro w' hSw; go_simp; try with_reducible rfl)
      try simp only [Act.put, List.setIfInBounds_toArray, List.set_cons_zero, List.set_cons_succ]
      refine reg_take 26 (v := ?vz23_26) (atS5 (atS5 (atS5 (atS5 (atS5 (atS at0)))))) (by kernel_rfl) (by kernel_rfl) (by kernel_rfl) (by rfl) ?hyz23_26 hHeld ?restz23_26
      case hyz23_26 => (intro w' hSw; go_simp; try with_reducible rfl)
      try simp only [Act.put, List.setIfInBounds_toArray, List.set_cons_zero, List.set_cons_succ]
      refine reg_take 27 (v := ?vz24_27) (atS5 (atS5 (atS5 (atS5 (atS5 (atS (atS at0))))))) (by kernel_rfl) (by kernel_rfl) (by kernel_rfl) (by rfl) ?hyz24_27 hHeld ?restz24_27
      case hyz24_27 => (intro w' hSw; go_simp; try with_reducible rfl)
      try simp only [Act.put, List.setIfInBounds_toArray, List.set_cons_zero, List.set_cons_succ]
      refine wpAnyH_ready (rs := [28]) (by kernel_rfl) (by simp) ?_
      refine AllReadyH.cons (atS5 (atS5 (atS5 (atS5 (atS5 (atS (atS (atS at0)))))))) (fun K hK => ?_) AllReadyH.nil
      go_simp
      refine (loose_any HD5.out).mono ?_
      rintro e w6 ⟨v6, rfl, hr6, hb6⟩
      rw [looseL_nil] at hr6
      obtain ⟨A6, c6, hv6, _⟩ := rdI_of_row hr6 (by simp)
      subst hv6
      clear hr6
      go_wp2_with fail
      refine hK.out _ _ hb6 (fun hHeld => ?_)
      clear hK K
      try simp only [Act.put, List.setIfInBounds_toArray, List.set_cons_zero, List.set_cons_succ]
      refine reg_on hb6 (fun hHeld => ?_)
      have hfin := Bt hfin hb6
      refine reg_take 29 (v := ?vz25_29) (atS5 (atS5 (atS5 (atS5 (atS5 (atS (atS (atS (atS at0))))))))) (by kernel_rfl) (by kernel_rfl) (by kernel_rfl) (by rfl) ?hyz25_29 hHeld ?restz25_29
      case hyz25_29 => (intro w' hSw; go_simp; try with_reducible rfl)
      try simp only [Act.put, List.setIfInBounds_toArray, List.set_cons_zero, List.set_cons_succ]
      refine reg_take 30 (v := ?vz26_30) (atS5 (atS5 (atS5 (atS5 (atS5 (atS5 at0)))))) (by kernel_rfl) (by kernel_rfl) (by kernel_rfl) (by rfl) ?hyz26_30 hHeld ?restz26_30
      case hyz26_30 => (intro w' hSw; go_simp; try with_reducible rfl)
      try simp only [Act.put, List.setIfInBounds_toArray, List.set_cons_zero, List.set_cons_succ]
      refine reg_take 31 (v := ?vz27_31) (atS5 (atS5 (atS5 (atS5 (atS5 (atS5 (atS at0))))))) (by kernel_rfl) (by kernel_rfl) (by kernel_rfl) (by rfl) ?hyz27_31 hHeld ?restz27_31
      case hyz27_31 => (intro w' hSw; go_simp; try with_reducible rfl)
      try simp only [Act.put, List.setIfInBounds_toArray, List.set_cons_zero, List.set_cons_succ]
      refine reg_take 32 (v := ?vz28_32) (atS5 (atS5 (atS5 (atS5 (atS5 (atS5 (atS (atS at0)))))))) (by kernel_rfl) (by kernel_rfl) (by kernel_rfl) (by rfl) ?hyz28_32 hHeld ?restz28_32
      case hyz28_32 => (intro w' hSw; go_simp; try with_reducible rfl)
      try simp only [Act.put, List.setIfInBounds_toArray, List.set_cons_zero, List.set_cons_succ]
      refine wpAnyH_done (by kernel_rfl) ?_ _
      refine NoPanic.normal ?_
      go_wp2_with fail
      go_ret
      exact ⟨rfl, hfin⟩
    · skip
      go_simp
      skip
      refine hK.out _ _ (B1 _ _) (fun hHeld => ?_)
      clear hK K
      try simp only [Act.put, List.setIfInBounds_toArray, List.set_cons_zero, List.set_cons_succ]
      refine reg_on (B1 _ _) (fun hHeld => ?_)
      have HD5 := hid (HD2.out.alloc (.cells (zrow m).toArray 5))
      have hfin := Ba hfin (.cells (zrow m).toArray 5)
      refine reg_take 23 (v := ?vz29_23) (atS5 (atS5 (atS5 (atS5 (atS (atS (atS at0))))))) (by kernel_rfl) (by kernel_rfl) (by kernel_rfl) (by rfl) ?hyz29_23 hHeld ?restz29_23
      case hyz29_23 => (intro w' hSw; go_simp; try with_reducible rfl)
      try simp only [Act.put, List.setIfInBounds_toArray, List.set_cons_zero, List.set_cons_succ]
      refine wpAnyH_ready (rs := [18]) (by kernel_rfl) (by simp) ?_
      refine AllReadyH.cons (atS5 (atS5 (atS5 (atS (atS (atS at0)))))) (fun K hK => ?_) AllReadyH.nil
      go_simp
      refine (bytes_any HD5.out).mono ?_
      rintro e w4 ⟨v4, rfl, ho4, hb4⟩
      go_wp2_with fail
      refine hK.out _ _ hb4 (fun hHeld => ?_)
      clear hK K
      try simp only [Act.put, List.setIfInBounds_toArray, List.set_cons_zero, List.set_cons_succ]
      refine reg_on hb4 (fun hHeld => ?_)
      have HD4 := hid (HD5.out.on hb4)
      have hfin := Bt hfin hb4
      obtain ⟨A4, c4, hv4, hr4⟩ := ho4.rd
      subst hv4
      have hcv4 : ∀ w', Ext w4 w' → (convert 28 9 (.slice A4 (zeros m).length c4)).run Try.prog w' = .ok (.string ⟨(zeros m).toArray⟩) w' := fun w' hb => (hr4.on hb).conv
      clear ho4 hr4
      refine reg_take 19 (v := ?vz30_19) (atS5 (atS5 (atS5 (atS (atS (atS (atS at0))))))) (by kernel_rfl) (by kernel_rfl) (by kernel_rfl) (by rfl) ?hyz30_19 hHeld ?restz30_19
      case hyz30_19 => (intro w' hSw; go_simp; try with_reducible rfl)
      try simp only [Act.put, List.setIfInBounds_toArray, List.set_cons_zero, List.set_cons_succ]
      refine reg_take 24 (v := ?vz31_24) (atS5 (atS5 (atS5 (atS5 (atS (atS (atS (atS at0)))))))) (by kernel_rfl) (by kernel_rfl) (by kernel_rfl) (by rfl) ?hyz31_24 hHeld ?restz31_24
      case hyz31_24 => (intro w' hSw; go_simp; try with_reducible rfl)
      try simp only [Act.put, List.setIfInBounds_toArray, List.set_cons_zero, List.set_cons_succ]
      refine reg_take 25 (v := ?vz32_25) (atS5 (atS5 (atS5 (atS5 (atS5 at0))))) (by kernel_rfl) (by kernel_rfl) (by kernel_rfl) (by rfl) ?hyz32_25 hHeld ?restz32_25
      case hyz32_25 => (intro w' hSw; go_simp; try with_reducible rfl)
      try simp only [Act.put, List.setIfInBounds_toArray, List.set_cons_zero, List.set_cons_succ]
      refine reg_take 26 (v := ?vz33_26) (atS5 (atS5 (atS5 (atS5 (atS5 (atS at0)))))) (by kernel_rfl) (by kernel_rfl) (by kernel_rfl) (by rfl) ?hyz33_26 hHeld ?restz33_26
      case hyz33_26 => (intro w' hSw; go_simp; try with_reducible rfl)
      try simp only [Act.put, List.setIfInBounds_toArray, List.set_cons_zero, List.set_cons_succ]
      refine reg_take 27 (v := ?vz34_27) (atS5 (atS5 (atS5 (atS5 (atS5 (atS (atS at0))))))) (by kernel_rfl) (by kernel_rfl) (by kernel_rfl) (by rfl) ?hyz34_27 hHeld ?restz34_27
      case hyz34_27 => (intro w' hSw; go_simp; try with_reducible rfl)
      try simp only [Act.put, List.setIfInBounds_toArray, List.set_cons_zero, List.set_cons_succ]
      refine wpAnyH_ready (rs := [28]) (by kernel_rfl) (by simp) ?_
      refine AllReadyH.cons (atS5 (atS5 (atS5 (atS5 (atS5 (atS (atS (atS at0)))))))) (fun K hK => ?_) AllReadyH.nil
      go_simp
      refine (loose_any HD4.out).mono ?_
      rintro e w6 ⟨v6, rfl, hr6, hb6⟩
      rw [looseL_nil] at hr6
      obtain ⟨A6, c6, hv6, _⟩ := rdI_of_row hr6 (by simp)
      subst hv6
      clear hr6
      go_wp2_with fail
      refine hK.out _ _ hb6 (fun hHeld => ?_)
      clear hK K
      try simp only [Act.put, List.setIfInBounds_toArray, List.set_cons_zero, List.set_cons_succ]
      refine reg_on hb6 (fun hHeld => ?_)
      have hfin := Bt hfin hb6
      refine reg_take 29 (v := ?vz35_29) (atS5 (atS5 (atS5 (atS5 (atS5 (atS (atS (atS (atS at0))))))))) (by kernel_rfl) (by kernel_rfl) (by kernel_rfl) (by rfl) ?hyz35_29 hHeld ?restz35_29
      case hyz35_29 => (intro w' hSw; go_simp; try with_reducible rfl)
      try simp only [Act.put, List.setIfInBounds_toArray, List.set_cons_zero, List.set_cons_succ]
      refine reg_take 30 (v := ?vz36_30) (atS5 (atS5 (atS5 (atS5 (atS5 (atS5 at0)))))) (by kernel_rfl) (by kernel_rfl) (by kernel_rfl) (by rfl) ?hyz36_30 hHeld ?restz36_30
      case hyz36_30 => (intro w' hSw; go_simp; try with_reducible rfl)
      try simp only [Act.put, List.setIfInBounds_toArray, List.set_cons_zero, List.set_cons_succ]
      refine reg_take 31 (v := ?vz37_31) (atS5 (atS5 (atS5 (atS5 (atS5 (atS5 (atS at0))))))) (by kernel_rfl) (by kernel_rfl) (by kernel_rfl) (by rfl) ?hyz37_31 hHeld ?restz37_31
      case hyz37_31 => (intro w' hSw; go_simp; try with_reducible rfl)
      try simp only [Act.put, List.setIfInBounds_toArray, List.set_cons_zero, List.set_cons_succ]
      refine reg_take 32 (v := ?vz38_32) (atS5 (atS5 (atS5 (atS5 (atS5 (atS5 (atS (atS at0)))))))) (by kernel_rfl) (by kernel_rfl) (by kernel_rfl) (by rfl) ?hyz38_32 hHeld ?restz38_32
      case hyz38_32 => (intro w' hSw; go_simp; try with_reducible rfl)
      try simp only [Act.put, List.setIfInBounds_toArray, List.set_cons_zero, List.set_cons_succ]
      refine wpAnyH_done (by kernel_rfl) ?_ _
      refine NoPanic.normal ?_
      go_wp2_with fail
      go_ret
      exact ⟨rfl, hfin⟩
end Go.Proofs.Ytfekholamkidkaa
