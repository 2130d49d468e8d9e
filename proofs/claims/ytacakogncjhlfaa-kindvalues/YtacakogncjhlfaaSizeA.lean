/-
  Contracts of word.Size and of the document's own Size.
-/
import Derived.Test.YtacakogncjhlfaaWordA
namespace Go.Proofs.Ytacakogncjhlfaa
open Go.RowKit
set_option linter.unusedVariables false

def sizeOfKind (k : Int) : Int :=
  if k = 1 ∨ k = 5 ∨ k = 9 then 1 else if k = 2 ∨ k = 6 then 2 else if k = 3 ∨ k = 7 then 4 else if k = 4 ∨ k = 8 ∨ k = 10 ∨ k = 11 then 8 else 0

set_option maxHeartbeats 1000000 in
theorem size_any (k : Int) (w : World) :
    Calls Try.prog 39 #[.int .i64 k] w fun e w' => e = .returned (.int .i64 (sizeOfKind k)) ∧ w = w' := by
  by_cases h : k = 1 ∨ k = 2 ∨ k = 3 ∨ k = 4 ∨ k = 5 ∨ k = 6 ∨ k = 7 ∨ k = 8 ∨ k = 9 ∨ k = 10 ∨ k = 11
  · rcases h with rfl | rfl | rfl | rfl | rfl | rfl | rfl | rfl | rfl | rfl | rfl
    all_goals
      go_enter Try.func39, Try.ntmps39
      go_wp2
      go_ret
      exact ⟨rfl, rfl⟩
  · have hz : sizeOfKind k = 0 := by unfold sizeOfKind; repeat (rw [if_neg (by omega)])
    have b1 : (k == 1) = false := by simp; omega
    have b2 : (k == 2) = false := by simp; omega
    have b3 : (k == 3) = false := by simp; omega
    have b4 : (k == 4) = false := by simp; omega
    have b5 : (k == 5) = false := by simp; omega
    have b6 : (k == 6) = false := by simp; omega
    have b7 : (k == 7) = false := by simp; omega
    have b8 : (k == 8) = false := by simp; omega
    have b9 : (k == 9) = false := by simp; omega
    have b10 : (k == 10) = false := by simp; omega
    have b11 : (k == 11) = false := by simp; omega
    clear h
    go_enter Try.func39, Try.ntmps39
    go_wp2
    go_ret
    exact ⟨ret_int hz.symm, rfl⟩
end Go.Proofs.Ytacakogncjhlfaa
