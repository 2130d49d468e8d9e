/-
  Values and fields: whether a field may be, how many bytes, whether a value is right, what may be cast (the words of the proofs).
-/
import Derived.Test.YtacakogncjhlfaaSizeA
namespace Go.Proofs.Ytacakogncjhlfaa
open Go.RowKit
set_option linter.unusedVariables false

def mayF (k g : Int) : Bool := if k = 12 then decide (0 < g) && decide (g ≤ 64) else decide (0 < k) && decide (k < 12) && decide (g = 0)
def longF (k g : Int) : Int := if mayF k g then (if k = 12 then g else sizeOfKind k) else 0
/-- Is a value of the kind vk, with bits n and m bytes of text, right of a field? -/
def rightF (vk n : Int) (m : Nat) (k g : Int) : Bool :=
  mayF k g && decide (vk = k) && (if k = 12 then decide (n = 0) && decide ((m : Int) = g) else decide (m = 0) && (if k = 9 then decide (n < 2) else (decide (9 < k) || fits n (longF k g) (decide (4 < k)))))
def castsF (k g k' g' : Int) : Bool :=
  mayF k g && mayF k' g' && (if k = k' then true else if k ≤ 4 ∧ k' ≤ 8 then decide (longF k g < longF k' g') else if k = 9 ∧ k' ≤ 8 then decide (longF k g < longF k' g') || decide (k' = 1) else if 5 ≤ k ∧ k ≤ 8 ∧ 5 ≤ k' ∧ k' ≤ 8 then decide (longF k g < longF k' g') else if k ≤ 8 ∧ k' = 10 then true else decide (k = 10) && decide (k' = 8))

theorem mayF12 (g : Int) : mayF 12 g = (decide (0 < g) && decide (g ≤ 64)) := by simp [mayF]
theorem mayF_ne {k g : Int} (h : k ≠ 12) : mayF k g = (decide (0 < k) && decide (k < 12) && decide (g = 0)) := by simp [mayF, h]
/-- The kinds that may be, but Bytes. -/
theorem may_cases {k g : Int} (h : mayF k g = true) (hk : k ≠ 12) : g = 0 ∧ (k = 1 ∨ k = 2 ∨ k = 3 ∨ k = 4 ∨ k = 5 ∨ k = 6 ∨ k = 7 ∨ k = 8 ∨ k = 9 ∨ k = 10 ∨ k = 11) := by
  rw [mayF_ne hk] at h; simp at h; omega
theorem may12 {g : Int} (h : mayF 12 g = true) : 0 < g ∧ g ≤ 64 := by
  rw [mayF12] at h; simpa using h
theorem longF_nonneg (k g : Int) : 0 ≤ longF k g := by
  unfold longF; split
  · rename_i h; split
    · rename_i h2; subst h2; have := may12 h; omega
    · unfold sizeOfKind; repeat' split
      all_goals omega
  · omega
theorem longF_le (k g : Int) : longF k g ≤ 64 := by
  unfold longF; split
  · rename_i h; split
    · rename_i h2; subst h2; have := may12 h; omega
    · unfold sizeOfKind; repeat' split
      all_goals omega
  · omega
end Go.Proofs.Ytacakogncjhlfaa
