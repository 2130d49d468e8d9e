/-
  Contracts of the document's own answers for layer 1 that take numbers alone: Right, top, Sign, Fits, Size; and of word.Size.
-/
import Derived.Test.YtacakogncjhlfaaWordA
namespace Go.Proofs.Ytacakogncjhlfaa
open Go.RowKit
set_option linter.unusedVariables false

set_option maxHeartbeats 400000 in
theorem right_any (x : Int) (w : World) :
    Calls Try.prog 50 #[.int .i64 x] w fun e w' => e = .returned (.bool (isW x)) ∧ w = w' := by
  by_cases h1 : x = 1
  · subst h1; go_enter Try.func50, Try.ntmps50; go_wp2; go_ret; exact ⟨rfl, rfl⟩
  have b1 : (x == 1) = false := by simpa using h1
  by_cases h2 : x = 2
  · subst h2; go_enter Try.func50, Try.ntmps50; go_wp2; go_ret; exact ⟨rfl, rfl⟩
  have b2 : (x == 2) = false := by simpa using h2
  by_cases h4 : x = 4
  · subst h4; go_enter Try.func50, Try.ntmps50; go_wp2; go_ret; exact ⟨rfl, rfl⟩
  have b4 : (x == 4) = false := by simpa using h4
  by_cases h8 : x = 8
  · subst h8; go_enter Try.func50, Try.ntmps50; go_wp2; go_ret; exact ⟨rfl, rfl⟩
  have b8 : (x == 8) = false := by simpa using h8
  go_enter Try.func50, Try.ntmps50; go_wp2; go_ret
  exact ⟨ret_bool (by simp [isW, b1, b2, b4, b8]), rfl⟩

set_option maxHeartbeats 400000 in
theorem top_any (x : Int) (w : World) (hx : 0 ≤ x) (hx8 : x ≤ 8) :
    Calls Try.prog 51 #[.int .i64 x] w fun e w' => e = .returned (.int .u64 (pw x - 1)) ∧ w = w' := by
  obtain ⟨m, rfl⟩ := Int.eq_ofNat_of_zero_le hx
  go_enter Try.func51, Try.ntmps51
  go_wp2
  go_loop [3, 4] (fun n i => ∃ k : Nat, k ≤ m ∧ i = .int .i64 k ∧ n = .int .u64 (pw k - 1)) (fun _ i => m - (intOf i).toNat)
  case atStart => exact ⟨0, by omega, rfl, by simp [pw]⟩
  case round =>
    obtain ⟨k, hk, rfl, rfl⟩ := hrel
    by_cases hlt : k < m
    · go_wp2
      go_round
      case rel => exact ⟨k + 1, by omega, by go_num, by rw [top_step (by omega)]⟩
      case measure => simp [intOf]; omega
    · go_wp2
      go_ret
      obtain rfl : k = m := by omega
      exact ⟨rfl, rfl⟩

theorem top1 (w : World) : Calls Try.prog 51 #[.int .i64 1] w fun e w' => e = .returned (.int .u64 255) ∧ w = w' := by
  have h := top_any 1 w (by decide) (by decide); rw [pw1] at h; exact h
theorem top2 (w : World) : Calls Try.prog 51 #[.int .i64 2] w fun e w' => e = .returned (.int .u64 65535) ∧ w = w' := by
  have h := top_any 2 w (by decide) (by decide); rw [pw2] at h; exact h
theorem top4 (w : World) : Calls Try.prog 51 #[.int .i64 4] w fun e w' => e = .returned (.int .u64 4294967295) ∧ w = w' := by
  have h := top_any 4 w (by decide) (by decide); rw [pw4] at h; exact h
theorem top8 (w : World) : Calls Try.prog 51 #[.int .i64 8] w fun e w' => e = .returned (.int .u64 18446744073709551615) ∧ w = w' := by
  have h := top_any 8 w (by decide) (by decide); rw [pw8] at h; exact h


set_option maxHeartbeats 1000000 in
theorem rsign1 (n : Int) (w : World) (hn : U64 n) :
    Calls Try.prog 35 #[.int .u64 n, .int .i64 1] w fun e w' => e = .returned (.int .u64 (sgn n 1)) ∧ w = w' := by
  have h0 := hn.1
  have hw : isW 1 = true := rfl
  by_cases hlow : n % 256 ≤ 127
  all_goals
    go_enter Try.func35, Try.ntmps35
    go_wp2_with (first | (go_at_call 50; refine (right_any _ _).mono ?_; rintro e w' ⟨rfl, rfl⟩) | (go_at_call 51; refine (top1 _).mono ?_; rintro e w' ⟨rfl, rfl⟩))
    go_ret
  · exact ⟨ret_int (by simp [sgn, hw, pw1]; omega), rfl⟩
  · exact ⟨ret_int (by rw [IntKind.wrap_u64, IntKind.wrap_u64]; simp [sgn, hw, pw1, pw8]; omega), rfl⟩

set_option maxHeartbeats 1000000 in
theorem rsign2 (n : Int) (w : World) (hn : U64 n) :
    Calls Try.prog 35 #[.int .u64 n, .int .i64 2] w fun e w' => e = .returned (.int .u64 (sgn n 2)) ∧ w = w' := by
  have h0 := hn.1
  have hw : isW 2 = true := rfl
  by_cases hlow : n % 65536 ≤ 32767
  all_goals
    go_enter Try.func35, Try.ntmps35
    go_wp2_with (first | (go_at_call 50; refine (right_any _ _).mono ?_; rintro e w' ⟨rfl, rfl⟩) | (go_at_call 51; refine (top2 _).mono ?_; rintro e w' ⟨rfl, rfl⟩))
    go_ret
  · exact ⟨ret_int (by simp [sgn, hw, pw2]; omega), rfl⟩
  · exact ⟨ret_int (by rw [IntKind.wrap_u64, IntKind.wrap_u64]; simp [sgn, hw, pw2, pw8]; omega), rfl⟩

set_option maxHeartbeats 1000000 in
theorem rsign4 (n : Int) (w : World) (hn : U64 n) :
    Calls Try.prog 35 #[.int .u64 n, .int .i64 4] w fun e w' => e = .returned (.int .u64 (sgn n 4)) ∧ w = w' := by
  have h0 := hn.1
  have hw : isW 4 = true := rfl
  by_cases hlow : n % 4294967296 ≤ 2147483647
  all_goals
    go_enter Try.func35, Try.ntmps35
    go_wp2_with (first | (go_at_call 50; refine (right_any _ _).mono ?_; rintro e w' ⟨rfl, rfl⟩) | (go_at_call 51; refine (top4 _).mono ?_; rintro e w' ⟨rfl, rfl⟩))
    go_ret
  · exact ⟨ret_int (by simp [sgn, hw, pw4]; omega), rfl⟩
  · exact ⟨ret_int (by rw [IntKind.wrap_u64, IntKind.wrap_u64]; simp [sgn, hw, pw4, pw8]; omega), rfl⟩

set_option maxHeartbeats 1000000 in
theorem rsign8 (n : Int) (w : World) (hn : U64 n) :
    Calls Try.prog 35 #[.int .u64 n, .int .i64 8] w fun e w' => e = .returned (.int .u64 (sgn n 8)) ∧ w = w' := by
  have h0 := hn.1
  have hw : isW 8 = true := rfl
  have h1 := hn.2
  by_cases hlow : n ≤ 9223372036854775807
  all_goals
    go_enter Try.func35, Try.ntmps35
    go_wp2_with (first | (go_at_call 50; refine (right_any _ _).mono ?_; rintro e w' ⟨rfl, rfl⟩) | (go_at_call 51; refine (top8 _).mono ?_; rintro e w' ⟨rfl, rfl⟩))
    go_ret
  · exact ⟨ret_int (sgn8 n hn).symm, rfl⟩
  · exact ⟨ret_int (by rw [sgn8 n hn]; rw [pw8] at h1; rw [IntKind.wrap_u64, IntKind.wrap_u64]; omega), rfl⟩

set_option maxHeartbeats 1000000 in
theorem rsign_any (n x : Int) (w : World) (hn : U64 n) :
    Calls Try.prog 35 #[.int .u64 n, .int .i64 x] w fun e w' => e = .returned (.int .u64 (sgn n x)) ∧ w = w' := by
  by_cases hx : isW x = true
  · rcases isW_cases hx with rfl | rfl | rfl | rfl
    · exact rsign1 n w hn
    · exact rsign2 n w hn
    · exact rsign4 n w hn
    · exact rsign8 n w hn
  · have hx' : isW x = false := by simpa using hx
    go_enter Try.func35, Try.ntmps35
    go_wp2_with (first | (go_at_call 50; refine (right_any _ _).mono ?_; rintro e w' ⟨rfl, rfl⟩))
    go_ret
    exact ⟨ret_int (by simp [sgn, hx']), rfl⟩

set_option maxHeartbeats 1000000 in
theorem rfits_any (n x : Int) (sg : Bool) (w : World) (hn : U64 n) :
    Calls Try.prog 38 #[.int .u64 n, .int .i64 x, .bool sg] w fun e w' => e = .returned (.bool (fits n x sg)) ∧ w = w' := by
  have h0 := hn.1
  by_cases hx : isW x = true
  · have hx8 : 0 ≤ x ∧ x ≤ 8 := by rcases isW_cases hx with rfl | rfl | rfl | rfl <;> omega
    cases sg
    · go_enter Try.func38, Try.ntmps38
      go_wp2_with (first | (go_at_call 50; refine (right_any _ _).mono ?_; rintro e w' ⟨rfl, rfl⟩) | (go_at_call 51; refine (top_any _ _ hx8.1 hx8.2).mono ?_; rintro e w' ⟨rfl, rfl⟩))
      go_ret
      exact ⟨ret_bool (by rw [Bool.eq_iff_iff]; simp [fits, hx]; omega), rfl⟩
    · go_enter Try.func38, Try.ntmps38
      go_wp2_with (first | (go_at_call 50; refine (right_any _ _).mono ?_; rintro e w' ⟨rfl, rfl⟩) | (go_at_call 35; refine (rsign_any _ _ _ hn).mono ?_; rintro e w' ⟨rfl, rfl⟩))
      go_ret
      exact ⟨ret_bool (by simp [fits, hx]), rfl⟩
  · have hx' : isW x = false := by simpa using hx
    go_enter Try.func38, Try.ntmps38
    go_wp2_with (first | (go_at_call 50; refine (right_any _ _).mono ?_; rintro e w' ⟨rfl, rfl⟩))
    go_ret
    exact ⟨ret_bool (by simp [fits, hx']), rfl⟩
end Go.Proofs.Ytacakogncjhlfaa
