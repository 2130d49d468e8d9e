/-
  Contracts of the document's own answers for layer 1 that take numbers alone: Right, top, Sign, Fits, Size; and of word.Size.
-/
import Derived.Test.YtpgidhofgccdgaaWordA
namespace Go.Proofs.Ytpgidhofgccdgaa
open Go.RowKit
set_option linter.unusedVariables false

set_option maxHeartbeats 400000 in
theorem right_any (x : Int) (w : World) :
    Calls Try.prog 28 #[.int .i64 x] w fun e w' => e = .returned (.bool (isW x)) ∧ w = w' := by
  by_cases h1 : x = 1
  · subst h1; go_enter Try.func28, Try.ntmps28; go_wp2; go_ret; exact ⟨rfl, rfl⟩
  have b1 : (x == 1) = false := by simpa using h1
  by_cases h2 : x = 2
  · subst h2; go_enter Try.func28, Try.ntmps28; go_wp2; go_ret; exact ⟨rfl, rfl⟩
  have b2 : (x == 2) = false := by simpa using h2
  by_cases h4 : x = 4
  · subst h4; go_enter Try.func28, Try.ntmps28; go_wp2; go_ret; exact ⟨rfl, rfl⟩
  have b4 : (x == 4) = false := by simpa using h4
  by_cases h8 : x = 8
  · subst h8; go_enter Try.func28, Try.ntmps28; go_wp2; go_ret; exact ⟨rfl, rfl⟩
  have b8 : (x == 8) = false := by simpa using h8
  go_enter Try.func28, Try.ntmps28; go_wp2; go_ret
  exact ⟨ret_bool (by simp [isW, b1, b2, b4, b8]), rfl⟩

set_option maxHeartbeats 400000 in
theorem top_any (x : Int) (w : World) (hx : 0 ≤ x) (hx8 : x ≤ 8) :
    Calls Try.prog 29 #[.int .i64 x] w fun e w' => e = .returned (.int .u64 (pw x - 1)) ∧ w = w' := by
  obtain ⟨m, rfl⟩ := Int.eq_ofNat_of_zero_le hx
  go_enter Try.func29, Try.ntmps29
  go_wp2
  go_loop [3, 4] (fun n i => ∃ k : Nat, k ≤ m ∧ i = .int .i64 k ∧ n = .int .u64 (pw k - 1)) (fun _ i => m - (intOf i).toNat)
  case atStart => exact ⟨0, by omega, rfl, by simp [pw]⟩
  case round =>
    obtain ⟨k, hk, rfl, rfl⟩ := hrel
    by_cases hlt : k < m
    · go_wp2
      go_round
      case rel => exact ⟨k + 1, by omega, by go_num, by rw [top_step (by omega)]⟩
      case measure => simp [intOf]; omega
    · go_wp2
      go_ret
      obtain rfl : k = m := by omega
      exact ⟨rfl, rfl⟩

theorem top1 (w : World) : Calls Try.prog 29 #[.int .i64 1] w fun e w' => e = .returned (.int .u64 255) ∧ w = w' := by
  have h := top_any 1 w (by decide) (by decide); rw [pw1] at h; exact h
theorem top2 (w : World) : Calls Try.prog 29 #[.int .i64 2] w fun e w' => e = .returned (.int .u64 65535) ∧ w = w' := by
  have h := top_any 2 w (by decide) (by decide); rw [pw2] at h; exact h
theorem top4 (w : World) : Calls Try.prog 29 #[.int .i64 4] w fun e w' => e = .returned (.int .u64 4294967295) ∧ w = w' := by
  have h := top_any 4 w (by decide) (by decide); rw [pw4] at h; exact h
theorem top8 (w : World) : Calls Try.prog 29 #[.int .i64 8] w fun e w' => e = .returned (.int .u64 18446744073709551615) ∧ w = w' := by
  have h := top_any 8 w (by decide) (by decide); rw [pw8] at h; exact h


end Go.Proofs.Ytpgidhofgccdgaa
