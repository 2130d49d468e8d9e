/-
  KindWhole, KindFloats: the walks.
-/
import Derived.Test.YtacakogncjhlfaaKindL
namespace Go.Proofs.Ytacakogncjhlfaa
open Go.RowKit
set_option linter.unusedVariables false
set_option linter.unusedSimpArgs false

theorem run_tofloat {n : Int} (h1 : -18446744073709551616 < n) (h2 : n < 18446744073709551616) (w : World) : (convert 3 46 (.int .i64 n)).run Try.prog w = .ok (.float .f64 (floatW n.natAbs (decide (n < 0)))) w := by
  rw [← f64_near h1 h2]
  simp [convert, run_underlying Try.underlying3, run_underlying Try.underlying46, go_sem, Conv.intToFloat]
theorem back_float {n : Int} (h1 : -9007199254740992 ≤ n) (h2 : n ≤ 9007199254740992) : wholeN (floatW n.natAbs (decide (n < 0))) = n := by
  rw [whole_float (by omega) _ (by simp; omega)]
  by_cases h : n < 0
  · rw [if_pos (by simpa using h)]; omega
  · rw [if_neg (by simpa using h)]; omega

set_option maxHeartbeats 1000000 in
theorem walk_KindWhole (bits n : Int) (w : World) (hb : (Lit.int .u64 bits).wf = true) (hn : (Lit.int .i64 n).wf = true) :
    Calls Try.prog 5 #[.int .u64 bits, .int .i64 n] w fun e w' => e = .returned (.bool true) ∧ Below w.heap.size w w' := by
  have hu := U64.of_wf hb
  clear hb hn
  by_cases c1 : n < -9007199254740992
  · have b1 : decide (n < -9007199254740992) = true := by simpa using c1
    go_enter Try.func5, Try.ntmps5
    go_wp2_with fail
    go_at_call 26
    refine (kwhole_any _ _ hu).mono ?_
    rintro e w1 ⟨rfl, hb1⟩
    go_wp2_with fail
    go_at_call 27
    refine (rwhole_any _ _ hu).mono ?_
    rintro e w2 ⟨rfl, rfl⟩
    go_wp2_with fail
    go_at_call 11
    refine (alive_any _).mono ?_
    rintro e w2 ⟨rfl, hb2⟩
    go_wp2_with fail
    go_ret
    exact ⟨rfl, Bt hb1 hb2⟩
  have b1 : decide (n < -9007199254740992) = false := by simpa using c1
  by_cases c2 : 9007199254740992 < n
  · have b2 : decide (9007199254740992 < n) = true := by simpa using c2
    go_enter Try.func5, Try.ntmps5
    go_wp2_with fail
    go_at_call 26
    refine (kwhole_any _ _ hu).mono ?_
    rintro e w1 ⟨rfl, hb1⟩
    go_wp2_with fail
    go_at_call 27
    refine (rwhole_any _ _ hu).mono ?_
    rintro e w2 ⟨rfl, rfl⟩
    go_wp2_with fail
    go_at_call 11
    refine (alive_any _).mono ?_
    rintro e w2 ⟨rfl, hb2⟩
    go_wp2_with fail
    go_ret
    exact ⟨rfl, Bt hb1 hb2⟩
  have b2 : decide (9007199254740992 < n) = false := by simpa using c2
  have hcf := run_tofloat (n := n) (by omega) (by omega)
  obtain ⟨f, hf⟩ : ∃ f, f = floatW n.natAbs (decide (n < 0)) := ⟨_, rfl⟩
  rw [← hf] at hcf
  have hfb := run_fbits f
  have hlt : f < 18446744073709551616 := by rw [hf]; exact floatW_lt (by omega) _
  have hfu : U64 (f : Int) := ⟨by omega, by rw [pw8]; omega⟩
  have HW : Hid (wholeN f = n) := by rw [hf]; exact back_float (by omega) (by omega)
  clear hf hlt
  go_enter Try.func5, Try.ntmps5
  go_wp2_with fail
  go_at_call 26
  refine (kwhole_any _ _ hu).mono ?_
  rintro e w1 ⟨rfl, hb1⟩
  go_wp2_with fail
  go_at_call 27
  refine (rwhole_any _ _ hu).mono ?_
  rintro e w2 ⟨rfl, rfl⟩
  go_wp2_with fail
  go_at_call 11
  refine (alive_any _).mono ?_
  rintro e w2 ⟨rfl, hb2⟩
  go_wp2_with fail
  go_at_call 26
  refine (kwhole_any _ _ hfu).mono ?_
  rintro e w3 ⟨rfl, hb3⟩
  rw [Int.toNat_natCast, HW.out]
  go_wp2_with fail
  go_ret
  exact ⟨rfl, Bt (Bt hb1 hb2) hb3⟩

theorem u64_of (n : Int) (h1 : -9223372036854775808 ≤ n) (h2 : n ≤ 9223372036854775807) : U64 (IntKind.u64.wrap n) := by
  rw [IntKind.wrap_u64]; exact ⟨by omega, by rw [pw8]; omega⟩
theorem fl_cast1 {n : Int} (h1 : -9007199254740992 ≤ n) (h2 : n ≤ 9007199254740992) : castR 8 (IntKind.u64.wrap n) ⟨#[]⟩ 8 0 10 0 = .tuple #[.agg #[.int .i64 10, .int .u64 (floatW n.natAbs (decide (n < 0)) : Nat), .string ⟨#[]⟩], .int .i64 0] := by
  have hu := u64_of n (by omega) (by omega)
  have hr : rightF 8 (IntKind.u64.wrap n) (ByteArray.size ⟨#[]⟩) 8 0 = true := by
    show rightF 8 (IntKind.u64.wrap n) 0 8 0 = true
    rw [rightF_lo (by decide) (by decide)]
    show fits (IntKind.u64.wrap n) 8 true = true
    have := sgn8 _ hu
    simp [fits, isW, this]
  rw [castR_ok hr (by decide)]
  have hN : castN (IntKind.u64.wrap n) 8 10 = (floatW n.natAbs (decide (n < 0)) : Nat) := by
    unfold castN
    rw [if_pos rfl, if_neg (by decide), if_pos (by decide)]
    by_cases h : n < 0
    · have e : IntKind.u64.wrap n = n + 18446744073709551616 := by rw [IntKind.wrap_u64]; omega
      rw [if_pos (by omega), e, show (18446744073709551616 - (n + 18446744073709551616)).toNat = n.natAbs by omega]
      simp [h]
    · have e : IntKind.u64.wrap n = n := by rw [IntKind.wrap_u64]; omega
      rw [if_neg (by omega), e, show n.toNat = n.natAbs by omega]
      simp [h]
  rw [hN]; rfl
theorem fl_cast2 {n : Int} (h1 : -9007199254740992 ≤ n) (h2 : n ≤ 9007199254740992) : castR 10 (floatW n.natAbs (decide (n < 0)) : Nat) ⟨#[]⟩ 10 0 8 0 = .tuple #[.agg #[.int .i64 8, .int .u64 (IntKind.u64.wrap n), .string ⟨#[]⟩], .int .i64 0] := by
  have hr : rightF 10 (floatW n.natAbs (decide (n < 0)) : Nat) (ByteArray.size ⟨#[]⟩) 10 0 = true := by
    show rightF 10 _ 0 10 0 = true
    exact rightF_hi (by decide) (by decide) (by decide)
  rw [castR_ok hr (by decide)]
  have hN : castN (floatW n.natAbs (decide (n < 0)) : Nat) 10 8 = IntKind.u64.wrap n := by
    unfold castN
    rw [if_neg (by decide), if_pos (by decide), Int.toNat_natCast, back_float h1 h2]
  rw [hN]; rfl

set_option maxHeartbeats 1000000 in
theorem walk_KindFloats (n : Int) (w : World) (hn : (Lit.int .i64 n).wf = true) :
    Calls Try.prog 10 #[.int .i64 n] w fun e w' => e = .returned (.bool true) ∧ Below w.heap.size w w' := by
  clear hn
  by_cases c1 : n < -9007199254740992
  · have b1 : decide (n < -9007199254740992) = true := by simpa using c1
    go_enter Try.func10, Try.ntmps10
    go_wp2_with fail
    go_at_call 11
    refine (alive_any _).mono ?_
    rintro e w2 ⟨rfl, hb2⟩
    go_wp2_with fail
    go_ret
    exact ⟨rfl, hb2⟩
  have b1 : decide (n < -9007199254740992) = false := by simpa using c1
  by_cases c2 : 9007199254740992 < n
  · have b2 : decide (9007199254740992 < n) = true := by simpa using c2
    go_enter Try.func10, Try.ntmps10
    go_wp2_with fail
    go_at_call 11
    refine (alive_any _).mono ?_
    rintro e w2 ⟨rfl, hb2⟩
    go_wp2_with fail
    go_ret
    exact ⟨rfl, hb2⟩
  have b2 : decide (9007199254740992 < n) = false := by simpa using c2
  have hu := u64_of n (by omega) (by omega)
  have hc1 := fl_cast1 (n := n) (by omega) (by omega)
  have hc2 := fl_cast2 (n := n) (by omega) (by omega)
  obtain ⟨f, hf⟩ : ∃ f, f = floatW n.natAbs (decide (n < 0)) := ⟨_, rfl⟩
  rw [← hf] at hc1 hc2
  have hlt : f < 18446744073709551616 := by rw [hf]; exact floatW_lt (by omega) _
  have hfu : U64 (f : Int) := ⟨by omega, by rw [pw8]; omega⟩
  obtain ⟨u, hU⟩ : ∃ u, IntKind.u64.wrap n = u := ⟨_, rfl⟩
  rw [hU] at hu hc1 hc2
  have H1 := hid hc1; have H2 := hid hc2
  clear hf hlt hc1 hc2
  go_enter Try.func10, Try.ntmps10
  go_wp2_with fail
  go_at_call 22
  refine (kcast_any _ _ _ _ _ _ _ _ _ _ hu).mono ?_
  rintro e w1 ⟨rfl, hb1⟩
  rw [H1.out]
  have hv1 := (vb_new w 8 u ⟨#[]⟩).on hb1
  obtain ⟨c0, c1, c2⟩ := hv1.cells
  go_wp2_with fail
  go_at_call 22
  refine (kcast_any _ _ _ _ _ _ _ _ _ _ hfu).mono ?_
  rintro e w2 ⟨rfl, hb2⟩
  rw [H2.out]
  have hv2 := (hv1.alloc (.cells #[.int .i64 10, .int .u64 (f : Int), .string ⟨#[]⟩] 24)).on hb2
  clear c0 c1 c2 hv1
  go_wp2_with fail
  go_at_call 11
  refine (alive_any _).mono ?_
  rintro e w3 ⟨rfl, hb3⟩
  have hv3 := (hv2.alloc (.cells #[.int .i64 8, .int .u64 u, .string ⟨#[]⟩] 24)).on hb3
  have hv4 := (vb_new w2 8 u ⟨#[]⟩).on hb3
  obtain ⟨c0, c1, c2⟩ := hv3.cells
  obtain ⟨d0, d1, d2⟩ := hv4.cells
  go_wp2_with fail
  go_ret
  exact ⟨rfl, Bt (Ba (Bt (Ba (Bt (B1 _ _) hb1) _) hb2) _) hb3⟩
end Go.Proofs.Ytacakogncjhlfaa
