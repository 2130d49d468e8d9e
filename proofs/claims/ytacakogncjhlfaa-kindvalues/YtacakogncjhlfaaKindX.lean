/-
  The float64 next to a number (mathematics alone).
-/
import Derived.Test.YtacakogncjhlfaaKindW
namespace Go.Proofs.Ytacakogncjhlfaa
set_option linter.unusedVariables false
set_option linter.unusedSimpArgs false

/-- The bits, without a sign, of the float64 next to a number. -/
def floatN (n : Nat) : Nat :=
  if n = 0 then 0
  else if n.log2 ≤ 52 then (1022 + n.log2) * 4503599627370496 + n * 2 ^ (52 - n.log2)
  else (1022 + n.log2) * 4503599627370496 + (n / 2 ^ (n.log2 - 52) + (decide (2 ^ (n.log2 - 52) < 2 * (n % 2 ^ (n.log2 - 52))) || (decide (2 ^ (n.log2 - 52) = 2 * (n % 2 ^ (n.log2 - 52))) && decide (n / 2 ^ (n.log2 - 52) % 2 = 1))).toNat)
def floatW (n : Nat) (neg : Bool) : Nat := if neg then 9223372036854775808 + floatN n else floatN n

theorem log2_lt {n k : Nat} (h : n ≠ 0) (hn : n < 2 ^ k) : n.log2 < k := (Nat.log2_lt h).2 hn
theorem pow_log2 {n : Nat} (h : n ≠ 0) : 2 ^ n.log2 ≤ n := Nat.log2_self_le h
theorem lt_pow_log2 (n : Nat) : n < 2 ^ (n.log2 + 1) := Nat.lt_log2_self

theorem cut_even0 (s : Bool) (n : Nat) : Ieee.Toward.even.cut s n 0 = n := by
  unfold Ieee.Toward.cut
  simp [Nat.mod_one]
theorem cut_even (s : Bool) (n d : Nat) (hd : d ≤ n.log2) : Ieee.Toward.even.cut s n d = n / 2 ^ d + (decide (2 ^ d < 2 * (n % 2 ^ d)) || (decide (2 ^ d = 2 * (n % 2 ^ d)) && decide (n / 2 ^ d % 2 = 1))).toNat := by
  unfold Ieee.Toward.cut
  rw [Nat.min_eq_left (by omega), Nat.one_shiftLeft]
  rfl
theorem top_bounds {n : Nat} (h0 : n ≠ 0) (h : ¬ n.log2 ≤ 52) : 4503599627370496 ≤ n / 2 ^ (n.log2 - 52) ∧ n / 2 ^ (n.log2 - 52) < 9007199254740992 := by
  have hp : 0 < 2 ^ (n.log2 - 52) := Nat.two_pow_pos _
  constructor
  · rw [Nat.le_div_iff_mul_le hp]
    have : 4503599627370496 * 2 ^ (n.log2 - 52) = 2 ^ n.log2 := by
      rw [show (4503599627370496 : Nat) = 2 ^ 52 by decide, ← Nat.pow_add]; congr 1; omega
    rw [this]; exact pow_log2 h0
  · rw [Nat.div_lt_iff_lt_mul hp]
    have : 9007199254740992 * 2 ^ (n.log2 - 52) = 2 ^ (n.log2 + 1) := by
      rw [show (9007199254740992 : Nat) = 2 ^ 53 by decide, ← Nat.pow_add]; congr 1; omega
    rw [this]; exact lt_pow_log2 n
theorem low_bounds {n : Nat} (h0 : n ≠ 0) (h : n.log2 ≤ 52) : 4503599627370496 ≤ n * 2 ^ (52 - n.log2) ∧ n * 2 ^ (52 - n.log2) < 9007199254740992 := by
  have hp : 0 < 2 ^ (52 - n.log2) := Nat.two_pow_pos _
  constructor
  · have h1 := Nat.mul_le_mul_right (2 ^ (52 - n.log2)) (pow_log2 h0)
    have : 2 ^ n.log2 * 2 ^ (52 - n.log2) = 4503599627370496 := by
      rw [← Nat.pow_add, show n.log2 + (52 - n.log2) = 52 by omega]
    omega
  · have h1 := Nat.mul_lt_mul_of_pos_right (lt_pow_log2 n) hp
    have : 2 ^ (n.log2 + 1) * 2 ^ (52 - n.log2) = 9007199254740992 := by
      rw [← Nat.pow_add, show n.log2 + 1 + (52 - n.log2) = 53 by omega]
    omega
theorem floatN_lt {n : Nat} (hn : n < 18446744073709551616) : floatN n < 9218868437227405312 := by
  by_cases h0 : n = 0
  · unfold floatN; rw [if_pos h0]; decide
  have hl : n.log2 < 64 := log2_lt h0 (by simpa using hn)
  by_cases h : n.log2 ≤ 52
  · unfold floatN; rw [if_neg h0, if_pos h]
    have := low_bounds h0 h
    omega
  · have hb := top_bounds h0 h
    unfold floatN; rw [if_neg h0, if_neg h]
    have h1 : ∀ x : Bool, x.toNat ≤ 1 := fun x => by cases x <;> simp
    have := h1 (decide (2 ^ (n.log2 - 52) < 2 * (n % 2 ^ (n.log2 - 52))) || (decide (2 ^ (n.log2 - 52) = 2 * (n % 2 ^ (n.log2 - 52))) && decide (n / 2 ^ (n.log2 - 52) % 2 = 1)))
    omega
theorem floatW_lt {n : Nat} (hn : n < 18446744073709551616) (neg : Bool) : floatW n neg < 18446744073709551616 := by
  have := floatN_lt hn
  unfold floatW; split <;> omega

/-- What float64(n) makes. -/
theorem near_eq (neg : Bool) {n : Nat} (hn : n < 18446744073709551616) (hz : n = 0 → neg = false) : Ieee.double.nearest neg n 0 = floatW n neg := by
  unfold Ieee.Format.nearest
  by_cases h0 : n = 0
  · rw [if_pos h0, hz h0]; subst h0; rfl
  rw [if_neg h0]
  have hlt := floatN_lt hn
  have hl : n.log2 < 64 := log2_lt h0 (by simpa using hn)
  have hfb : Ieee.double.fractionBits = 52 := rfl
  have hlast : max ((0 : Int) + n.log2 - Ieee.double.fractionBits) Ieee.double.leastPlace = (n.log2 : Int) - 52 := by
    rw [dbl_lp, hfb]; omega
  simp only [hlast]
  have hk : ((n.log2 : Int) - 52 - Ieee.double.leastPlace).toNat * Ieee.double.binade + Ieee.Toward.even.cut neg (n <<< ((0 : Int) - ((n.log2 : Int) - 52)).toNat) ((n.log2 : Int) - 52 - 0).toNat = floatN n := by
    rw [dbl_lp, dbl_bin]
    by_cases h : n.log2 ≤ 52
    · rw [show ((n.log2 : Int) - 52 - 0).toNat = 0 by omega, cut_even0, show ((0 : Int) - ((n.log2 : Int) - 52)).toNat = 52 - n.log2 by omega, Nat.shiftLeft_eq, show ((n.log2 : Int) - 52 - -1074).toNat = 1022 + n.log2 by omega]
      unfold floatN; rw [if_neg h0, if_pos h]
    · rw [show ((n.log2 : Int) - 52 - 0).toNat = n.log2 - 52 by omega, show ((0 : Int) - ((n.log2 : Int) - 52)).toNat = 0 by omega, Nat.shiftLeft_zero, cut_even _ _ _ (by omega), show ((n.log2 : Int) - 52 - -1074).toNat = 1022 + n.log2 by omega]
      unfold floatN; rw [if_neg h0, if_neg h]
  rw [hk, dbl_inf, Nat.min_eq_left (by omega)]
  unfold Ieee.Format.word floatW
  rw [dbl_sw]
theorem f64_near {n : Int} (h1 : -18446744073709551616 < n) (h2 : n < 18446744073709551616) : FloatKind.f64.nearest n = floatW n.natAbs (decide (n < 0)) := by
  unfold FloatKind.nearest FloatKind.encode Ieee.Format.write
  exact near_eq _ (by omega) (by simp; omega)

/-- A whole number that is not too far from 0 is its float64's whole. -/
theorem floatN_fields {n : Nat} (h0 : n ≠ 0) (h : n.log2 ≤ 52) : floatN n = (1023 + n.log2) * 4503599627370496 + (n * 2 ^ (52 - n.log2) - 4503599627370496) := by
  have := low_bounds h0 h
  unfold floatN; rw [if_neg h0, if_pos h]; omega
theorem whole_float {n : Nat} (hn : n ≤ 9007199254740992) (neg : Bool) (hz : n = 0 → neg = false) : wholeN (floatW n neg) = if neg then -(n : Int) else (n : Int) := by
  by_cases h0 : n = 0
  · subst h0; rw [hz rfl]; decide
  by_cases h53 : n = 9007199254740992
  · subst h53; cases neg <;> decide
  have hl : n.log2 < 53 := log2_lt h0 (show n < 2 ^ 53 by omega)
  have hb := low_bounds h0 (by omega)
  have hf := floatN_fields h0 (by omega)
  obtain ⟨m, hm⟩ : ∃ m, m = n * 2 ^ (52 - n.log2) := ⟨_, rfl⟩
  rw [← hm] at hb hf
  have e1 : fE (floatW n neg) = 1023 + n.log2 := by unfold fE floatW; split <;> omega
  have e2 : fF (floatW n neg) = m - 4503599627370496 := by unfold fF floatW; split <;> omega
  have e3 : fS (floatW n neg) = neg := by
    unfold fS floatW; cases neg <;> simp <;> omega
  rw [wholeN_mid (by omega) (by omega), e3]
  have e4 : fM (floatW n neg) = n := by
    unfold fM
    rw [e1, e2, show 4503599627370496 + (m - 4503599627370496) = m by omega]
    by_cases h52 : n.log2 = 52
    · rw [if_pos (by omega), show 1023 + n.log2 - 1075 = 0 by omega, hm, show 52 - n.log2 = 0 by omega]; simp
    · rw [if_neg (by omega), show 1075 - (1023 + n.log2) = 52 - n.log2 by omega, hm, Nat.mul_div_cancel _ (Nat.two_pow_pos _)]
  rw [e4]

/-! ### Halving, and what is lost -/
def hB (n : Nat) : Nat → Bool
  | 0 => false
  | d + 1 => decide (n / 2 ^ d % 2 = 1)
def lB (n : Nat) : Nat → Bool
  | 0 => false
  | d + 1 => decide (n % 2 ^ d ≠ 0)
theorem mod_two_pow_succ (n k : Nat) : n % 2 ^ (k + 1) = n % 2 ^ k + 2 ^ k * (n / 2 ^ k % 2) := by
  rw [Nat.pow_succ, Nat.mod_mul]
theorem lB_succ (n d : Nat) : lB n (d + 1) = (lB n d || hB n d) := by
  cases d with
  | zero => simp [lB, hB, Nat.mod_one]
  | succ k =>
    have h := mod_two_pow_succ n k
    have hp : 0 < 2 ^ k := Nat.two_pow_pos _
    simp only [lB, hB]
    rw [h, Bool.eq_iff_iff]
    have h2 : n / 2 ^ k % 2 = 0 ∨ n / 2 ^ k % 2 = 1 := by omega
    rcases h2 with e | e <;> rw [e] <;> simp
/-- Up or not. -/
theorem up_eq (n d : Nat) : (hB n (d + 1) && (lB n (d + 1) || decide (n / 2 ^ (d + 1) % 2 = 1))) = (decide (2 ^ (d + 1) < 2 * (n % 2 ^ (d + 1))) || (decide (2 ^ (d + 1) = 2 * (n % 2 ^ (d + 1))) && decide (n / 2 ^ (d + 1) % 2 = 1))) := by
  have h := mod_two_pow_succ n d
  have hp : n % 2 ^ d < 2 ^ d := Nat.mod_lt _ (Nat.two_pow_pos _)
  have hs : 2 ^ (d + 1) = 2 * 2 ^ d := by rw [Nat.pow_succ, Nat.mul_comm]
  obtain ⟨o, ho⟩ : ∃ o, o = decide (n / 2 ^ (d + 1) % 2 = 1) := ⟨_, rfl⟩
  rw [← ho]
  simp only [lB, hB]
  rw [h, hs]
  have h2 : n / 2 ^ d % 2 = 0 ∨ n / 2 ^ d % 2 = 1 := by omega
  rcases h2 with e | e
  · rw [e]
    have e1 : decide (2 * 2 ^ d < 2 * (n % 2 ^ d + 2 ^ d * 0)) = false := by simp; omega
    have e2 : decide (2 * 2 ^ d = 2 * (n % 2 ^ d + 2 ^ d * 0)) = false := by simp; omega
    rw [e1, e2]; simp
  · rw [e]
    by_cases hz : n % 2 ^ d = 0
    · rw [hz]
      have e1 : decide (2 * 2 ^ d < 2 * (0 + 2 ^ d * 1)) = false := by simp
      have e2 : decide (2 * 2 ^ d = 2 * (0 + 2 ^ d * 1)) = true := by simp
      rw [e1, e2]; simp
    · have e1 : decide (2 * 2 ^ d < 2 * (n % 2 ^ d + 2 ^ d * 1)) = true := by simp; omega
      rw [e1]; simp [hz]
theorem log2_of {n L : Nat} (h1 : 2 ^ L ≤ n) (h2 : n < 2 ^ (L + 1)) : n.log2 = L := by
  have h0 : n ≠ 0 := by have := Nat.two_pow_pos L; omega
  have a : n.log2 < L + 1 := (Nat.log2_lt h0).2 h2
  have b : L ≤ n.log2 := (Nat.le_log2 h0).2 h1
  omega
/-- The end, without halving. -/
theorem float_end0 {n j : Nat} (h0 : n ≠ 0) (h1 : 4503599627370496 ≤ n * 2 ^ j) (h2 : n * 2 ^ j < 9007199254740992) (hj : j ≤ 52) : floatN n + j * 4503599627370496 + 4503599627370496 = 1075 * 4503599627370496 + n * 2 ^ j := by
  have hp : 0 < 2 ^ j := Nat.two_pow_pos _
  have hl : n.log2 = 52 - j := by
    apply log2_of
    · have : 2 ^ (52 - j) * 2 ^ j ≤ n * 2 ^ j := by rw [← Nat.pow_add, show 52 - j + j = 52 by omega]; exact h1
      exact Nat.le_of_mul_le_mul_right this hp
    · have : n * 2 ^ j < 2 ^ (52 - j + 1) * 2 ^ j := by rw [← Nat.pow_add, show 52 - j + 1 + j = 53 by omega]; exact h2
      exact Nat.lt_of_mul_lt_mul_right this
  unfold floatN
  rw [if_neg h0, if_pos (by omega), hl, show 52 - (52 - j) = j by omega]
  omega
/-- The end, with it. -/
theorem float_end1 {n d : Nat} (h1 : 4503599627370496 ≤ n / 2 ^ (d + 1)) (h2 : n / 2 ^ (d + 1) < 9007199254740992) : floatN n + 4503599627370496 = (1075 + (d + 1)) * 4503599627370496 + (n / 2 ^ (d + 1) + (hB n (d + 1) && (lB n (d + 1) || decide (n / 2 ^ (d + 1) % 2 = 1))).toNat) := by
  have hp : 0 < 2 ^ (d + 1) := Nat.two_pow_pos _
  have hl : n.log2 = 52 + (d + 1) := by
    apply log2_of
    · rw [Nat.le_div_iff_mul_le hp] at h1; rw [Nat.pow_add]; exact h1
    · rw [Nat.div_lt_iff_lt_mul hp] at h2; rw [show 52 + (d + 1) + 1 = 53 + (d + 1) by omega, Nat.pow_add]; exact h2
  have h0 : n ≠ 0 := by
    rintro rfl; simp at h1
  rw [up_eq]
  unfold floatN
  rw [if_neg h0, if_neg (by omega), hl, show 52 + (d + 1) - 52 = d + 1 by omega]
  omega
end Go.Proofs.Ytacakogncjhlfaa
