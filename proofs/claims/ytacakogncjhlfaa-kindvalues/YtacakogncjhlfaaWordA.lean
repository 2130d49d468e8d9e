/-
  Contracts of the functions of word that take numbers alone: widths, Sign, Fits.
-/
import Derived.Test.YtacakogncjhlfaaChecked
import Derived.Test.YtacakogncjhlfaaNums
import Derived.WalkKit
import Derived.WalkSpells
import Derived.WalkLawsBesides
import Derived.Below
namespace Go.Proofs.Ytacakogncjhlfaa
open Go.RowKit
set_option linter.unusedVariables false

set_option maxHeartbeats 400000 in
theorem isWidth_any (x : Int) (b : Nat) (w : World) (h0 : w.cell? ⟨b, 0, none⟩ = some (.int .i64 1)) (h1 : w.cell? ⟨b, 1, none⟩ = some (.int .i64 2)) (h2 : w.cell? ⟨b, 2, none⟩ = some (.int .i64 4)) (h3 : w.cell? ⟨b, 3, none⟩ = some (.int .i64 8)) :
    Calls Try.prog 57 #[.int .i64 x, .pointer (some ⟨b, 0, none⟩)] w fun e w' => e = .returned (.bool (isW x)) ∧ w = w' := by
  have i0 : ∀ w, (Instr.index 73 (.agg #[.int .i64 1, .int .i64 2, .int .i64 4, .int .i64 8]) (.int .i64 0)).run Try.prog w = .ok (.int .i64 1) w := fun _ => by kernel_rfl
  have i1 : ∀ w, (Instr.index 73 (.agg #[.int .i64 1, .int .i64 2, .int .i64 4, .int .i64 8]) (.int .i64 1)).run Try.prog w = .ok (.int .i64 2) w := fun _ => by kernel_rfl
  have i2 : ∀ w, (Instr.index 73 (.agg #[.int .i64 1, .int .i64 2, .int .i64 4, .int .i64 8]) (.int .i64 2)).run Try.prog w = .ok (.int .i64 4) w := fun _ => by kernel_rfl
  have i3 : ∀ w, (Instr.index 73 (.agg #[.int .i64 1, .int .i64 2, .int .i64 4, .int .i64 8]) (.int .i64 3)).run Try.prog w = .ok (.int .i64 8) w := fun _ => by kernel_rfl
  go_enter Try.func57, Try.ntmps57
  go_wp2
  go_loop [7] (fun i => ∃ k : Nat, k ≤ 4 ∧ i = .int .i64 k ∧ (1 ≤ k → x ≠ 1) ∧ (2 ≤ k → x ≠ 2) ∧ (3 ≤ k → x ≠ 4) ∧ (4 ≤ k → x ≠ 8)) (fun i => 4 - (intOf i).toNat)
  case atStart => exact ⟨0, by omega, rfl, by omega, by omega, by omega, by omega⟩
  case round =>
    obtain ⟨k, hk, rfl, a1, a2, a3, a4⟩ := hrel
    have hk' : k = 0 ∨ k = 1 ∨ k = 2 ∨ k = 3 ∨ k = 4 := by omega
    rcases hk' with rfl | rfl | rfl | rfl | rfl
    · by_cases hx : x = 1
      · subst hx; go_wp2; go_ret; exact ⟨rfl, rfl⟩
      · have hb : (x == 1) = false := by simpa using hx
        go_wp2; go_round
        case rel => exact ⟨1, by omega, rfl, by omega, by omega, by omega, by omega⟩
        case measure => simp [intOf]
    · by_cases hx : x = 2
      · subst hx; go_wp2; go_ret; exact ⟨rfl, rfl⟩
      · have hb : (x == 2) = false := by simpa using hx
        go_wp2; go_round
        case rel => exact ⟨2, by omega, rfl, by omega, by omega, by omega, by omega⟩
        case measure => simp [intOf]
    · by_cases hx : x = 4
      · subst hx; go_wp2; go_ret; exact ⟨rfl, rfl⟩
      · have hb : (x == 4) = false := by simpa using hx
        go_wp2; go_round
        case rel => exact ⟨3, by omega, rfl, by omega, by omega, by omega, by omega⟩
        case measure => simp [intOf]
    · by_cases hx : x = 8
      · subst hx; go_wp2; go_ret; exact ⟨rfl, rfl⟩
      · have hb : (x == 8) = false := by simpa using hx
        go_wp2; go_round
        case rel => exact ⟨4, by omega, rfl, by omega, by omega, by omega, by omega⟩
        case measure => simp [intOf]
    · have hw : isW x = false := by simp [isW]; omega
      go_wp2; go_ret; exact ⟨rfl, rfl⟩

set_option maxHeartbeats 400000 in
theorem widths_any (w : World) :
    Calls Try.prog 54 #[] w fun e w' => e = .returned (.func (.func 57) #[] #[.pointer (some ⟨w.heap.size, 0, none⟩)]) ∧ w' = w.alloc (.cells #[.int .i64 1, .int .i64 2, .int .i64 4, .int .i64 8] 73) := by
  go_enter Try.func54, Try.ntmps54
  go_wp2
  go_ret
  exact ⟨rfl, rfl⟩

theorem ret_int {k : IntKind} {a b : Int} (h : a = b) : Ending.returned (.int k a) = .returned (.int k b) := by rw [h]
theorem ret_bool {a b : Bool} (h : a = b) : Ending.returned (.bool a) = .returned (.bool b) := by rw [h]

set_option maxHeartbeats 1000000 in
theorem sign_any (n x : Int) (w : World) (hn : U64 n) :
    Calls Try.prog 33 #[.int .u64 n, .int .i64 x] w fun e w' => e = .returned (.int .u64 (sgn n x)) ∧ Below w.heap.size w w' := by
  have h0 := hn.1
  by_cases hx : isW x = true
  · rcases isW_cases hx with rfl | rfl | rfl | rfl
    all_goals
      go_enter Try.func33, Try.ntmps33
      go_wp2_with fail
      refine (widths_any _).mono ?_
      rintro e w1 ⟨rfl, rfl⟩
      go_wp2_with fail
      refine (isWidth_any _ _ _ (by simp) (by simp) (by simp) (by simp)).mono ?_
      rintro e w1 ⟨rfl, rfl⟩
      go_wp2_with fail
      go_ret
    · exact ⟨ret_int (sgn1 n hn), B1 _ _⟩
    · exact ⟨ret_int (sgn2 n hn), B1 _ _⟩
    · exact ⟨ret_int (sgn4 n hn), B1 _ _⟩
    · exact ⟨ret_int (sgn8' n hn), B1 _ _⟩
  · have hx' : isW x = false := by simpa using hx
    go_enter Try.func33, Try.ntmps33
    go_wp2_with fail
    refine (widths_any _).mono ?_
    rintro e w1 ⟨rfl, rfl⟩
    go_wp2_with fail
    refine (isWidth_any _ _ _ (by simp) (by simp) (by simp) (by simp)).mono ?_
    rintro e w1 ⟨rfl, rfl⟩
    go_wp2_with fail
    go_ret
    exact ⟨ret_int (by simp [sgn, hx']), B1 _ _⟩

set_option maxHeartbeats 1000000 in
theorem fits_any (n x : Int) (sg : Bool) (w : World) (hn : U64 n) :
    Calls Try.prog 47 #[.int .u64 n, .int .i64 x, .bool sg] w fun e w' => e = .returned (.bool (fits n x sg)) ∧ Below w.heap.size w w' := by
  have h0 := hn.1
  by_cases hx : isW x = true
  · cases sg
    · rcases isW_cases hx with rfl | rfl | rfl | rfl
      all_goals
        go_enter Try.func47, Try.ntmps47
        go_wp2_with fail
        refine (widths_any _).mono ?_
        rintro e w1 ⟨rfl, rfl⟩
        go_wp2_with fail
        refine (isWidth_any _ _ _ (by simp) (by simp) (by simp) (by simp)).mono ?_
        rintro e w1 ⟨rfl, rfl⟩
        go_wp2_with fail
        go_ret
      · exact ⟨ret_bool (fit1 n hn), B1 _ _⟩
      · exact ⟨ret_bool (fit2 n hn), B1 _ _⟩
      · exact ⟨ret_bool (fit4 n hn), B1 _ _⟩
      · exact ⟨ret_bool (fit8 n hn), B1 _ _⟩
    · go_enter Try.func47, Try.ntmps47
      go_wp2_with fail
      refine (widths_any _).mono ?_
      rintro e w1 ⟨rfl, rfl⟩
      go_wp2_with fail
      refine (isWidth_any _ _ _ (by simp) (by simp) (by simp) (by simp)).mono ?_
      rintro e w1 ⟨rfl, rfl⟩
      go_wp2_with fail
      refine (sign_any n x _ hn).mono ?_
      rintro e w1 ⟨rfl, hb⟩
      go_wp2_with fail
      go_ret
      exact ⟨ret_bool (by simp [fits, hx]), Bt (B1 _ _) hb⟩
  · have hx' : isW x = false := by simpa using hx
    go_enter Try.func47, Try.ntmps47
    go_wp2_with fail
    refine (widths_any _).mono ?_
    rintro e w1 ⟨rfl, rfl⟩
    go_wp2_with fail
    refine (isWidth_any _ _ _ (by simp) (by simp) (by simp) (by simp)).mono ?_
    rintro e w1 ⟨rfl, rfl⟩
    go_wp2_with fail
    go_ret
    exact ⟨ret_bool (by simp [fits, hx']), B1 _ _⟩
end Go.Proofs.Ytacakogncjhlfaa
