/-
  float64 by its bits: what a word stands for, how two stand to each other, the whole of one, and the one next to a number (mathematics alone).
  The float64 next to a number (mathematics alone).
-/
import GoSem.Core.Float
import Derived.Test.YtaegencmnmjgbaaGreatM1

namespace Go.Proofs.YtaegencmnmjgbaaGreat
set_option linter.unusedVariables false
set_option linter.unusedSimpArgs false
def fE (b : Nat) : Nat := b / 4503599627370496 % 2048
def fF (b : Nat) : Nat := b % 4503599627370496
def fS (b : Nat) : Bool := decide (9223372036854775808 ≤ b)
theorem fE_lt (b : Nat) : fE b < 2048 := Nat.mod_lt _ (by decide)
theorem fF_lt (b : Nat) : fF b < 4503599627370496 := Nat.mod_lt _ (by decide)
theorem dbl_sw : Ieee.double.signWeight = 9223372036854775808 := by decide
theorem dbl_bin : Ieee.double.binade = 4503599627370496 := by decide
theorem dbl_inf : Ieee.double.infRung = 9218868437227405312 := by decide
theorem dbl_lp : Ieee.double.leastPlace = -1074 := by decide
theorem f64_fmt : FloatKind.f64.format = Ieee.double := rfl
theorem rung_eq (b : Nat) (hb : b < 18446744073709551616) : b % 9223372036854775808 = fE b * 4503599627370496 + fF b := by
  unfold fE fF; omega
theorem sign_eq (b : Nat) (hb : b < 18446744073709551616) : (b / 9223372036854775808 % 2 == 1) = fS b := by
  unfold fS; rw [Bool.eq_iff_iff]; simp; omega
theorem read_sub {b : Nat} (hb : b < 18446744073709551616) (h : fE b = 0) : Ieee.double.read b = .number (fS b) (fF b) (-1074) := by
  unfold Ieee.Format.read
  simp only [dbl_sw, dbl_bin, dbl_inf, dbl_lp, sign_eq b hb, rung_eq b hb]
  have := fF_lt b
  rw [if_pos (by omega), h]; simp
theorem read_norm {b : Nat} (hb : b < 18446744073709551616) (h0 : 0 < fE b) (h1 : fE b < 2047) : Ieee.double.read b = .number (fS b) (4503599627370496 + fF b) ((fE b : Int) - 1075) := by
  unfold Ieee.Format.read
  simp only [dbl_sw, dbl_bin, dbl_inf, dbl_lp, sign_eq b hb, rung_eq b hb]
  have := fF_lt b
  rw [if_neg (by omega), if_pos (by omega)]
  have e1 : (fE b * 4503599627370496 + fF b) % 4503599627370496 = fF b := by omega
  have e2 : (fE b * 4503599627370496 + fF b) / 4503599627370496 = fE b := by omega
  simp only [e1, e2]
  exact congrArg (fun z => Ieee.Datum.number (fS b) (4503599627370496 + fF b) z) (show (-1074 : Int) + ((fE b - 1 : Nat) : Int) = (fE b : Int) - 1075 by omega)
theorem read_inf {b : Nat} (hb : b < 18446744073709551616) (h0 : fE b = 2047) (h1 : fF b = 0) : Ieee.double.read b = .infinity (fS b) := by
  unfold Ieee.Format.read
  simp only [dbl_sw, dbl_bin, dbl_inf, dbl_lp, sign_eq b hb, rung_eq b hb]
  rw [if_neg (by omega), if_neg (by omega), if_pos (by omega)]
theorem read_nan {b : Nat} (hb : b < 18446744073709551616) (h0 : fE b = 2047) (h1 : fF b ≠ 0) : Ieee.double.read b = .nan (fS b) (fF b) := by
  unfold Ieee.Format.read
  simp only [dbl_sw, dbl_bin, dbl_inf, dbl_lp, sign_eq b hb, rung_eq b hb]
  rw [if_neg (by omega), if_neg (by omega), if_neg (by omega)]
  have e1 : fE b * 4503599627370496 + fF b - 9218868437227405312 = fF b := by omega
  simp only [e1]
def wholeN (b : Nat) : Int :=
  if fE b = 2047 ∧ fF b ≠ 0 then 0
  else if 1086 ≤ fE b then (if fS b then -9223372036854775808 else 9223372036854775807)
  else if fE b < 1023 then 0
  else if fS b then -((if 1075 ≤ fE b then (4503599627370496 + fF b) * 2 ^ (fE b - 1075) else (4503599627370496 + fF b) / 2 ^ (1075 - fE b) : Nat) : Int)
  else ((if 1075 ≤ fE b then (4503599627370496 + fF b) * 2 ^ (fE b - 1075) else (4503599627370496 + fF b) / 2 ^ (1075 - fE b) : Nat) : Int)
theorem cut_zero (s : Bool) (n d : Nat) : Ieee.Toward.zero.cut s n d = n / 2 ^ d := by
  unfold Ieee.Toward.cut
  simp only [Bool.toNat_false, Nat.add_zero]
  rw [Nat.one_shiftLeft]
  by_cases h : d ≤ n.log2 + 2
  · rw [Nat.min_eq_left h]
  · rw [Nat.min_eq_right (by omega)]
    have h1 : n < 2 ^ (n.log2 + 2) := Nat.lt_of_lt_of_le (Nat.lt_log2_self (n := n)) (Nat.pow_le_pow_right (by decide) (by omega))
    have h2 : n < 2 ^ d := Nat.lt_of_lt_of_le h1 (Nat.pow_le_pow_right (by decide) (by omega))
    rw [Nat.div_eq_of_lt h1, Nat.div_eq_of_lt h2]
theorem toInt_num (s : Bool) (m : Nat) (i : Int) : (Ieee.Datum.number s m i).toInt .zero = some (if s then -((m * 2 ^ i.toNat / 2 ^ (-i).toNat : Nat) : Int) else ((m * 2 ^ i.toNat / 2 ^ (-i).toNat : Nat) : Int)) := by
  unfold Ieee.Datum.toInt Ieee.Datum.integral
  simp only [cut_zero, Nat.shiftLeft_eq]
  unfold Ieee.signed
  simp [Nat.shiftLeft_eq]
def fM (b : Nat) : Nat := if 1075 ≤ fE b then (4503599627370496 + fF b) * 2 ^ (fE b - 1075) else (4503599627370496 + fF b) / 2 ^ (1075 - fE b)
theorem wholeN_nan {b : Nat} (h : fE b = 2047) (h' : fF b ≠ 0) : wholeN b = 0 := if_pos ⟨h, h'⟩
theorem wholeN_big {b : Nat} (h : 1086 ≤ fE b) (h' : ¬ (fE b = 2047 ∧ fF b ≠ 0)) : wholeN b = if fS b then -9223372036854775808 else 9223372036854775807 := by
  unfold wholeN; rw [if_neg h', if_pos h]
theorem wholeN_low {b : Nat} (h : fE b < 1023) : wholeN b = 0 := by
  unfold wholeN; rw [if_neg (by omega), if_neg (by omega), if_pos h]
theorem wholeN_mid {b : Nat} (h : ¬ fE b < 1023) (h' : fE b < 1086) : wholeN b = if fS b then -(fM b : Int) else (fM b : Int) := by
  unfold wholeN; rw [if_neg (by omega), if_neg (by omega), if_neg h]; rfl
theorem toInt_whole {b : Nat} (hb : b < 18446744073709551616) (h : fE b < 1086) : (FloatKind.f64.decode b).toInt .zero = some (wholeN b) := by
  unfold FloatKind.decode
  rw [f64_fmt]
  have hf := fF_lt b
  by_cases h0 : fE b = 0
  · rw [read_sub hb h0, toInt_num]
    have : fF b * 2 ^ (-1074 : Int).toNat / 2 ^ (-(-1074) : Int).toNat = 0 := by
      have key : ∀ d : Nat, 53 ≤ d → fF b / 2 ^ d = 0 := fun d hd => Nat.div_eq_of_lt (Nat.lt_of_lt_of_le (show fF b < 2 ^ 53 by omega) (Nat.pow_le_pow_right (by decide) hd))
      rw [show (-1074 : Int).toNat = 0 from rfl, Nat.pow_zero, Nat.mul_one]
      exact key _ (by omega)
    rw [this, wholeN_low (by omega)]
    simp
  · rw [read_norm hb (by omega) (by omega), toInt_num]
    by_cases h1 : fE b < 1023
    · rw [wholeN_low h1]
      have : (4503599627370496 + fF b) * 2 ^ ((fE b : Int) - 1075).toNat / 2 ^ (-((fE b : Int) - 1075)).toNat = 0 := by
        rw [show ((fE b : Int) - 1075).toNat = 0 by omega, show (-((fE b : Int) - 1075)).toNat = 1075 - fE b by omega, Nat.pow_zero, Nat.mul_one]
        exact Nat.div_eq_of_lt (Nat.lt_of_lt_of_le (show 4503599627370496 + fF b < 2 ^ 53 by omega) (Nat.pow_le_pow_right (by decide) (by omega)))
      rw [this]; simp
    · rw [wholeN_mid h1 h]
      have : (4503599627370496 + fF b) * 2 ^ ((fE b : Int) - 1075).toNat / 2 ^ (-((fE b : Int) - 1075)).toNat = fM b := by
        unfold fM
        by_cases h2 : 1075 ≤ fE b
        · rw [if_pos h2, show ((fE b : Int) - 1075).toNat = fE b - 1075 by omega, show (-((fE b : Int) - 1075)).toNat = 0 by omega, Nat.pow_zero, Nat.div_one]
        · rw [if_neg h2, show ((fE b : Int) - 1075).toNat = 0 by omega, show (-((fE b : Int) - 1075)).toNat = 1075 - fE b by omega, Nat.pow_zero, Nat.mul_one]
      rw [this]
theorem fM_lt {b : Nat} (h : fE b < 1086) : fM b < 9223372036854775808 := by
  have hf := fF_lt b
  unfold fM
  split
  · have h1 : (4503599627370496 + fF b) * 2 ^ (fE b - 1075) ≤ (4503599627370496 + fF b) * 2 ^ 10 := Nat.mul_le_mul_left _ (Nat.pow_le_pow_right (by decide) (by omega))
    have : (2 : Nat) ^ 10 = 1024 := by decide
    omega
  · have := Nat.div_le_self (4503599627370496 + fF b) (2 ^ (1075 - fE b))
    omega
theorem wholeN_i64 (b : Nat) : -9223372036854775808 ≤ wholeN b ∧ wholeN b ≤ 9223372036854775807 := by
  by_cases h0 : fE b = 2047 ∧ fF b ≠ 0
  · rw [wholeN_nan h0.1 h0.2]; omega
  by_cases h1 : 1086 ≤ fE b
  · rw [wholeN_big h1 h0]; split <;> omega
  by_cases h2 : fE b < 1023
  · rw [wholeN_low h2]; omega
  · have := fM_lt (b := b) (by omega)
    rw [wholeN_mid h2 (by omega)]; split <;> omega
def fV (b : Nat) : Int := if fE b = 0 then Ieee.signed (fS b) (fF b) 0 else Ieee.signed (fS b) (4503599627370496 + fF b) (fE b - 1)
theorem signed_up (s : Bool) (m u d : Nat) : Ieee.signed s m (u + d) = Ieee.signed s m u * 2 ^ d := by
  unfold Ieee.signed
  simp only [Nat.shiftLeft_eq, Nat.pow_add, ← Nat.mul_assoc]
  split <;> simp [Int.neg_mul]
theorem cmp_scale (x y : Int) (d : Nat) : compare (x * 2 ^ d) (y * 2 ^ d) = compare x y := by
  have hp : (0 : Int) < 2 ^ d := Int.pow_pos (by decide)
  simp only [compare, compareOfLessAndEq]
  have e1 : x * 2 ^ d < y * 2 ^ d ↔ x < y := ⟨fun h => Int.lt_of_mul_lt_mul_right h (Int.le_of_lt hp), fun h => Int.mul_lt_mul_of_pos_right h hp⟩
  have e2 : x * 2 ^ d = y * 2 ^ d ↔ x = y := ⟨fun h => Int.eq_of_mul_eq_mul_right (Int.ne_of_gt hp) h, fun h => by rw [h]⟩
  simp only [e1, e2]
theorem order_num (s t : Bool) (m n : Nat) (i j : Int) (hi : -1074 ≤ i) (hj : -1074 ≤ j) : (Ieee.Datum.number s m i).order (.number t n j) = some (compare (Ieee.signed s m (i + 1074).toNat) (Ieee.signed t n (j + 1074).toNat)) := by
  unfold Ieee.Datum.order
  simp only []
  congr 1
  rw [← cmp_scale (Ieee.signed s m (i - min i j).toNat) _ (min i j + 1074).toNat, ← signed_up, ← signed_up]
  congr 2 <;> omega
theorem read_fin {b : Nat} (hb : b < 18446744073709551616) (h : fE b < 2047) : ∃ s m i, Ieee.double.read b = .number s m i ∧ -1074 ≤ i ∧ Ieee.signed s m (i + 1074).toNat = fV b := by
  by_cases h0 : fE b = 0
  · exact ⟨_, _, _, read_sub hb h0, by omega, by unfold fV; rw [if_pos h0]; rfl⟩
  · refine ⟨_, _, _, read_norm hb (by omega) h, by omega, ?_⟩
    unfold fV; rw [if_neg h0, show ((fE b : Int) - 1075 + 1074).toNat = fE b - 1 by omega]
theorem order_fin {b c : Nat} (hb : b < 18446744073709551616) (hc : c < 18446744073709551616) (h : fE b < 2047) (k : fE c < 2047) : FloatKind.f64.format.order b c = some (compare (fV b) (fV c)) := by
  obtain ⟨s, m, i, e1, h1, v1⟩ := read_fin hb h
  obtain ⟨t, n, j, e2, h2, v2⟩ := read_fin hc k
  rw [f64_fmt, Ieee.Format.order, e1, e2, order_num s t m n i j h1 h2, v1, v2]
theorem order_nan {b : Nat} (c : Nat) (hb : b < 18446744073709551616) (h0 : fE b = 2047) (h1 : fF b ≠ 0) : FloatKind.f64.format.order b c = none := by
  rw [f64_fmt, Ieee.Format.order, read_nan hb h0 h1]
  unfold Ieee.Datum.order; rfl
theorem order_inf {b c : Nat} (hb : b < 18446744073709551616) (hc : c < 18446744073709551616) (h0 : fE b = 2047) (h1 : fF b = 0) (k : fE c < 2047) : FloatKind.f64.format.order b c = some (if fS b then .lt else .gt) := by
  obtain ⟨t, n, j, e2, h2, v2⟩ := read_fin hc k
  rw [f64_fmt, Ieee.Format.order, read_inf hb h0 h1, e2]
  rfl
theorem order_inf2 {b : Nat} (hb : b < 18446744073709551616) (h0 : fE b = 2047) (h1 : fF b = 0) : FloatKind.f64.format.order b b = some .eq := by
  rw [f64_fmt, Ieee.Format.order, read_inf hb h0 h1]
  simp [Ieee.Datum.order]
theorem order_self {b : Nat} (hb : b < 18446744073709551616) : FloatKind.f64.format.order b b = if fE b = 2047 ∧ fF b ≠ 0 then none else some .eq := by
  have := fE_lt b
  by_cases h : fE b < 2047
  · rw [if_neg (by omega), order_fin hb hb h h]; simp
  · by_cases h1 : fF b = 0
    · rw [if_neg (by omega), order_inf2 hb (by omega) h1]
    · rw [if_pos ⟨by omega, h1⟩, order_nan b hb (by omega) h1]
def fMag (b : Nat) : Nat := if fE b = 0 then fF b else (4503599627370496 + fF b) * 2 ^ (fE b - 1)
def fT (e : Nat) : Nat := 4503599627370496 * 2 ^ (e - 1)
theorem fV_mag (b : Nat) : fV b = if fS b then -(fMag b : Int) else (fMag b : Int) := by
  unfold fV fMag Ieee.signed
  simp only [Nat.shiftLeft_eq, Nat.pow_zero, Nat.mul_one]
  by_cases h : fE b = 0 <;> simp [h]
theorem mag_lt {b e : Nat} (h : fE b < e) : fMag b < fT e := by
  have hf := fF_lt b
  unfold fMag fT
  have h1 : 1 ≤ 2 ^ (e - 1) := Nat.one_le_two_pow
  split
  · have : 4503599627370496 * 1 ≤ 4503599627370496 * 2 ^ (e - 1) := Nat.mul_le_mul_left _ h1
    omega
  · have h2 : 2 ^ (fE b - 1) * 2 ≤ 2 ^ (e - 1) := by rw [← Nat.pow_succ]; exact Nat.pow_le_pow_right (by decide) (by omega)
    have h3 : 0 < 2 ^ (fE b - 1) := Nat.two_pow_pos _
    have h4 : (4503599627370496 + fF b) * 2 ^ (fE b - 1) < (4503599627370496 * 2) * 2 ^ (fE b - 1) := Nat.mul_lt_mul_of_pos_right (by omega) h3
    have h5 : 4503599627370496 * (2 ^ (fE b - 1) * 2) ≤ 4503599627370496 * 2 ^ (e - 1) := Nat.mul_le_mul_left _ h2
    rw [Nat.mul_assoc, Nat.mul_comm 2] at h4
    omega
theorem mag_at {b e : Nat} (h : fE b = e) (h0 : e ≠ 0) : fMag b = fT e + fF b * 2 ^ (e - 1) := by
  unfold fMag fT; rw [if_neg (by omega), h, Nat.add_mul]
theorem mag_at0 {b e : Nat} (h : fE b = e) (h0 : e ≠ 0) (hf : fF b = 0) : fMag b = fT e := by rw [mag_at h h0, hf]; simp
theorem mag_at1 {b e : Nat} (h : fE b = e) (h0 : e ≠ 0) (hf : fF b ≠ 0) : fT e < fMag b := by
  rw [mag_at h h0]
  have : 0 < fF b * 2 ^ (e - 1) := Nat.mul_pos (by omega) (Nat.two_pow_pos _)
  omega
theorem fT_pos (e : Nat) : 0 < fT e := Nat.mul_pos (by decide) (Nat.two_pow_pos _)
theorem mag_gt {b e : Nat} (h : e < fE b) (h0 : e ≠ 0) : fT e < fMag b := by
  unfold fMag fT; rw [if_neg (by omega)]
  have h2 : 2 ^ (e - 1) < 2 ^ (fE b - 1) := Nat.pow_lt_pow_right (by decide) (by omega)
  have h3 : 4503599627370496 * 2 ^ (e - 1) < 4503599627370496 * 2 ^ (fE b - 1) := Nat.mul_lt_mul_of_pos_left h2 (by decide)
  rw [Nat.add_mul]; omega
theorem cmp_lt {x y : Int} (h : x < y) : compare x y = .lt := by simp [compare, compareOfLessAndEq, h]
theorem cmp_gt {x y : Int} (h : y < x) : compare x y = .gt := by
  have h1 : ¬ x < y := by omega
  have h2 : ¬ x = y := by omega
  simp [compare, compareOfLessAndEq, h1, h2]
theorem cmp_eq {x y : Int} (h : x = y) : compare x y = .eq := by simp [compare, compareOfLessAndEq, h]
theorem hi_pos : fS 4890909195324358656 = false ∧ fE 4890909195324358656 = 1086 ∧ fF 4890909195324358656 = 0 := by decide
theorem lo_neg : fS 14114281232179134464 = true ∧ fE 14114281232179134464 = 1086 ∧ fF 14114281232179134464 = 0 := by decide
theorem fV_hi : fV 4890909195324358656 = (fT 1086 : Int) := by
  rw [fV_mag, hi_pos.1, mag_at0 hi_pos.2.1 (by decide) hi_pos.2.2]; rfl
theorem fV_lo : fV 14114281232179134464 = -(fT 1086 : Int) := by
  rw [fV_mag, lo_neg.1, mag_at0 lo_neg.2.1 (by decide) lo_neg.2.2]; rfl
theorem ord_hi {b : Nat} (hb : b < 18446744073709551616) (hn : ¬ (fE b = 2047 ∧ fF b ≠ 0)) :
    FloatKind.f64.format.order b 4890909195324358656 = some (if fS b then .lt else if fE b < 1086 then .lt else if fE b = 1086 ∧ fF b = 0 then .eq else .gt) := by
  have hlt := fE_lt b
  have hT := fT_pos 1086
  have hk : fE 4890909195324358656 < 2047 := by rw [hi_pos.2.1]; decide
  by_cases h : fE b < 2047
  · rw [order_fin hb (by decide) h hk, fV_hi, fV_mag]
    refine congrArg some ?_
    cases hs : fS b
    · simp only [Bool.false_eq_true, if_false]
      by_cases h1 : fE b < 1086
      · rw [if_pos h1]; exact cmp_lt (by have := mag_lt h1; omega)
      · rw [if_neg h1]
        by_cases h2 : fE b = 1086
        · by_cases h3 : fF b = 0
          · rw [if_pos ⟨h2, h3⟩, mag_at0 h2 (by decide) h3]; exact cmp_eq rfl
          · rw [if_neg (fun h => h3 h.2)]
            exact cmp_gt (by have := mag_at1 h2 (by decide) h3; omega)
        · rw [if_neg (fun h => h2 h.1)]; exact cmp_gt (by have := mag_gt (b := b) (e := 1086) (by omega) (by decide); omega)
    · simp only [if_true]; exact cmp_lt (by omega)
  · have h1 : fF b = 0 := by
      rcases Nat.eq_zero_or_pos (fF b) with h2 | h2
      · exact h2
      · exact absurd ⟨by omega, by omega⟩ hn
    rw [order_inf hb (by decide) (by omega) h1 hk, if_neg (c := fE b < 1086) (by omega), if_neg (c := fE b = 1086 ∧ fF b = 0) (by omega)]
theorem ord_lo {b : Nat} (hb : b < 18446744073709551616) (hn : ¬ (fE b = 2047 ∧ fF b ≠ 0)) :
    FloatKind.f64.format.order b 14114281232179134464 = some (if fS b then (if fE b < 1086 then .gt else if fE b = 1086 ∧ fF b = 0 then .eq else .lt) else .gt) := by
  have hlt := fE_lt b
  have hT := fT_pos 1086
  have hk : fE 14114281232179134464 < 2047 := by rw [lo_neg.2.1]; decide
  by_cases h : fE b < 2047
  · rw [order_fin hb (by decide) h hk, fV_lo, fV_mag]
    refine congrArg some ?_
    cases hs : fS b
    · simp only [Bool.false_eq_true, if_false]; exact cmp_gt (by omega)
    · simp only [if_true]
      by_cases h1 : fE b < 1086
      · rw [if_pos h1]; exact cmp_gt (by have := mag_lt h1; omega)
      · rw [if_neg h1]
        by_cases h2 : fE b = 1086
        · by_cases h3 : fF b = 0
          · rw [if_pos ⟨h2, h3⟩, mag_at0 h2 (by decide) h3]; exact cmp_eq rfl
          · rw [if_neg (fun h => h3 h.2)]
            exact cmp_lt (by have := mag_at1 h2 (by decide) h3; omega)
        · rw [if_neg (fun h => h2 h.1)]; exact cmp_lt (by have := mag_gt (b := b) (e := 1086) (by omega) (by decide); omega)
  · have h1 : fF b = 0 := by
      rcases Nat.eq_zero_or_pos (fF b) with h2 | h2
      · exact h2
      · exact absurd ⟨by omega, by omega⟩ hn
    rw [order_inf hb (by decide) (by omega) h1 hk, if_neg (c := fE b < 1086) (by omega), if_neg (c := fE b = 1086 ∧ fF b = 0) (by omega)]
end Go.Proofs.YtaegencmnmjgbaaGreat

namespace Go.Proofs.YtaegencmnmjgbaaGreat
set_option linter.unusedVariables false
set_option linter.unusedSimpArgs false
def floatN (n : Nat) : Nat :=
  if n = 0 then 0
  else if n.log2 ≤ 52 then (1022 + n.log2) * 4503599627370496 + n * 2 ^ (52 - n.log2)
  else (1022 + n.log2) * 4503599627370496 + (n / 2 ^ (n.log2 - 52) + (decide (2 ^ (n.log2 - 52) < 2 * (n % 2 ^ (n.log2 - 52))) || (decide (2 ^ (n.log2 - 52) = 2 * (n % 2 ^ (n.log2 - 52))) && decide (n / 2 ^ (n.log2 - 52) % 2 = 1))).toNat)
def floatW (n : Nat) (neg : Bool) : Nat := if neg then 9223372036854775808 + floatN n else floatN n
theorem log2_lt {n k : Nat} (h : n ≠ 0) (hn : n < 2 ^ k) : n.log2 < k := (Nat.log2_lt h).2 hn
theorem pow_log2 {n : Nat} (h : n ≠ 0) : 2 ^ n.log2 ≤ n := Nat.log2_self_le h
theorem lt_pow_log2 (n : Nat) : n < 2 ^ (n.log2 + 1) := Nat.lt_log2_self
theorem cut_even0 (s : Bool) (n : Nat) : Ieee.Toward.even.cut s n 0 = n := by
  unfold Ieee.Toward.cut
  simp [Nat.mod_one]
theorem cut_even (s : Bool) (n d : Nat) (hd : d ≤ n.log2) : Ieee.Toward.even.cut s n d = n / 2 ^ d + (decide (2 ^ d < 2 * (n % 2 ^ d)) || (decide (2 ^ d = 2 * (n % 2 ^ d)) && decide (n / 2 ^ d % 2 = 1))).toNat := by
  unfold Ieee.Toward.cut
  rw [Nat.min_eq_left (by omega), Nat.one_shiftLeft]
  rfl
theorem top_bounds {n : Nat} (h0 : n ≠ 0) (h : ¬ n.log2 ≤ 52) : 4503599627370496 ≤ n / 2 ^ (n.log2 - 52) ∧ n / 2 ^ (n.log2 - 52) < 9007199254740992 := by
  have hp : 0 < 2 ^ (n.log2 - 52) := Nat.two_pow_pos _
  constructor
  · rw [Nat.le_div_iff_mul_le hp]
    have : 4503599627370496 * 2 ^ (n.log2 - 52) = 2 ^ n.log2 := by
      rw [show (4503599627370496 : Nat) = 2 ^ 52 by decide, ← Nat.pow_add]; congr 1; omega
    rw [this]; exact pow_log2 h0
  · rw [Nat.div_lt_iff_lt_mul hp]
    have : 9007199254740992 * 2 ^ (n.log2 - 52) = 2 ^ (n.log2 + 1) := by
      rw [show (9007199254740992 : Nat) = 2 ^ 53 by decide, ← Nat.pow_add]; congr 1; omega
    rw [this]; exact lt_pow_log2 n
theorem low_bounds {n : Nat} (h0 : n ≠ 0) (h : n.log2 ≤ 52) : 4503599627370496 ≤ n * 2 ^ (52 - n.log2) ∧ n * 2 ^ (52 - n.log2) < 9007199254740992 := by
  have hp : 0 < 2 ^ (52 - n.log2) := Nat.two_pow_pos _
  constructor
  · have h1 := Nat.mul_le_mul_right (2 ^ (52 - n.log2)) (pow_log2 h0)
    have : 2 ^ n.log2 * 2 ^ (52 - n.log2) = 4503599627370496 := by
      rw [← Nat.pow_add, show n.log2 + (52 - n.log2) = 52 by omega]
    omega
  · have h1 := Nat.mul_lt_mul_of_pos_right (lt_pow_log2 n) hp
    have : 2 ^ (n.log2 + 1) * 2 ^ (52 - n.log2) = 9007199254740992 := by
      rw [← Nat.pow_add, show n.log2 + 1 + (52 - n.log2) = 53 by omega]
    omega
theorem floatN_lt {n : Nat} (hn : n < 18446744073709551616) : floatN n < 9218868437227405312 := by
  by_cases h0 : n = 0
  · unfold floatN; rw [if_pos h0]; decide
  have hl : n.log2 < 64 := log2_lt h0 (by simpa using hn)
  by_cases h : n.log2 ≤ 52
  · unfold floatN; rw [if_neg h0, if_pos h]
    have := low_bounds h0 h
    omega
  · have hb := top_bounds h0 h
    unfold floatN; rw [if_neg h0, if_neg h]
    have h1 : ∀ x : Bool, x.toNat ≤ 1 := fun x => by cases x <;> simp
    have := h1 (decide (2 ^ (n.log2 - 52) < 2 * (n % 2 ^ (n.log2 - 52))) || (decide (2 ^ (n.log2 - 52) = 2 * (n % 2 ^ (n.log2 - 52))) && decide (n / 2 ^ (n.log2 - 52) % 2 = 1)))
    omega
theorem floatW_lt {n : Nat} (hn : n < 18446744073709551616) (neg : Bool) : floatW n neg < 18446744073709551616 := by
  have := floatN_lt hn
  unfold floatW; split <;> omega
theorem near_eq (neg : Bool) {n : Nat} (hn : n < 18446744073709551616) (hz : n = 0 → neg = false) : Ieee.double.nearest neg n 0 = floatW n neg := by
  unfold Ieee.Format.nearest
  by_cases h0 : n = 0
  · rw [if_pos h0, hz h0]; subst h0; rfl
  rw [if_neg h0]
  have hlt := floatN_lt hn
  have hl : n.log2 < 64 := log2_lt h0 (by simpa using hn)
  have hfb : Ieee.double.fractionBits = 52 := rfl
  have hlast : max ((0 : Int) + n.log2 - Ieee.double.fractionBits) Ieee.double.leastPlace = (n.log2 : Int) - 52 := by
    rw [dbl_lp, hfb]; omega
  simp only [hlast]
  have hk : ((n.log2 : Int) - 52 - Ieee.double.leastPlace).toNat * Ieee.double.binade + Ieee.Toward.even.cut neg (n <<< ((0 : Int) - ((n.log2 : Int) - 52)).toNat) ((n.log2 : Int) - 52 - 0).toNat = floatN n := by
    rw [dbl_lp, dbl_bin]
    by_cases h : n.log2 ≤ 52
    · rw [show ((n.log2 : Int) - 52 - 0).toNat = 0 by omega, cut_even0, show ((0 : Int) - ((n.log2 : Int) - 52)).toNat = 52 - n.log2 by omega, Nat.shiftLeft_eq, show ((n.log2 : Int) - 52 - -1074).toNat = 1022 + n.log2 by omega]
      unfold floatN; rw [if_neg h0, if_pos h]
    · rw [show ((n.log2 : Int) - 52 - 0).toNat = n.log2 - 52 by omega, show ((0 : Int) - ((n.log2 : Int) - 52)).toNat = 0 by omega, Nat.shiftLeft_zero, cut_even _ _ _ (by omega), show ((n.log2 : Int) - 52 - -1074).toNat = 1022 + n.log2 by omega]
      unfold floatN; rw [if_neg h0, if_neg h]
  rw [hk, dbl_inf, Nat.min_eq_left (by omega)]
  unfold Ieee.Format.word floatW
  rw [dbl_sw]
theorem f64_near {n : Int} (h1 : -18446744073709551616 < n) (h2 : n < 18446744073709551616) : FloatKind.f64.nearest n = floatW n.natAbs (decide (n < 0)) := by
  unfold FloatKind.nearest FloatKind.encode Ieee.Format.write
  exact near_eq _ (by omega) (by simp; omega)
theorem floatN_fields {n : Nat} (h0 : n ≠ 0) (h : n.log2 ≤ 52) : floatN n = (1023 + n.log2) * 4503599627370496 + (n * 2 ^ (52 - n.log2) - 4503599627370496) := by
  have := low_bounds h0 h
  unfold floatN; rw [if_neg h0, if_pos h]; omega
theorem whole_float {n : Nat} (hn : n ≤ 9007199254740992) (neg : Bool) (hz : n = 0 → neg = false) : wholeN (floatW n neg) = if neg then -(n : Int) else (n : Int) := by
  by_cases h0 : n = 0
  · subst h0; rw [hz rfl]; decide
  by_cases h53 : n = 9007199254740992
  · subst h53; cases neg <;> decide
  have hl : n.log2 < 53 := log2_lt h0 (show n < 2 ^ 53 by omega)
  have hb := low_bounds h0 (by omega)
  have hf := floatN_fields h0 (by omega)
  obtain ⟨m, hm⟩ : ∃ m, m = n * 2 ^ (52 - n.log2) := ⟨_, rfl⟩
  rw [← hm] at hb hf
  have e1 : fE (floatW n neg) = 1023 + n.log2 := by unfold fE floatW; split <;> omega
  have e2 : fF (floatW n neg) = m - 4503599627370496 := by unfold fF floatW; split <;> omega
  have e3 : fS (floatW n neg) = neg := by
    unfold fS floatW; cases neg <;> simp <;> omega
  rw [wholeN_mid (by omega) (by omega), e3]
  have e4 : fM (floatW n neg) = n := by
    unfold fM
    rw [e1, e2, show 4503599627370496 + (m - 4503599627370496) = m by omega]
    by_cases h52 : n.log2 = 52
    · rw [if_pos (by omega), show 1023 + n.log2 - 1075 = 0 by omega, hm, show 52 - n.log2 = 0 by omega]; simp
    · rw [if_neg (by omega), show 1075 - (1023 + n.log2) = 52 - n.log2 by omega, hm, Nat.mul_div_cancel _ (Nat.two_pow_pos _)]
  rw [e4]
def hB (n : Nat) : Nat → Bool
  | 0 => false
  | d + 1 => decide (n / 2 ^ d % 2 = 1)
def lB (n : Nat) : Nat → Bool
  | 0 => false
  | d + 1 => decide (n % 2 ^ d ≠ 0)
theorem mod_two_pow_succ (n k : Nat) : n % 2 ^ (k + 1) = n % 2 ^ k + 2 ^ k * (n / 2 ^ k % 2) := by
  rw [Nat.pow_succ, Nat.mod_mul]
theorem lB_succ (n d : Nat) : lB n (d + 1) = (lB n d || hB n d) := by
  cases d with
  | zero => simp [lB, hB, Nat.mod_one]
  | succ k =>
    have h := mod_two_pow_succ n k
    have hp : 0 < 2 ^ k := Nat.two_pow_pos _
    simp only [lB, hB]
    rw [h, Bool.eq_iff_iff]
    have h2 : n / 2 ^ k % 2 = 0 ∨ n / 2 ^ k % 2 = 1 := by omega
    rcases h2 with e | e <;> rw [e] <;> simp
theorem up_eq (n d : Nat) : (hB n (d + 1) && (lB n (d + 1) || decide (n / 2 ^ (d + 1) % 2 = 1))) = (decide (2 ^ (d + 1) < 2 * (n % 2 ^ (d + 1))) || (decide (2 ^ (d + 1) = 2 * (n % 2 ^ (d + 1))) && decide (n / 2 ^ (d + 1) % 2 = 1))) := by
  have h := mod_two_pow_succ n d
  have hp : n % 2 ^ d < 2 ^ d := Nat.mod_lt _ (Nat.two_pow_pos _)
  have hs : 2 ^ (d + 1) = 2 * 2 ^ d := by rw [Nat.pow_succ, Nat.mul_comm]
  obtain ⟨o, ho⟩ : ∃ o, o = decide (n / 2 ^ (d + 1) % 2 = 1) := ⟨_, rfl⟩
  rw [← ho]
  simp only [lB, hB]
  rw [h, hs]
  have h2 : n / 2 ^ d % 2 = 0 ∨ n / 2 ^ d % 2 = 1 := by omega
  rcases h2 with e | e
  · rw [e]
    have e1 : decide (2 * 2 ^ d < 2 * (n % 2 ^ d + 2 ^ d * 0)) = false := by simp; omega
    have e2 : decide (2 * 2 ^ d = 2 * (n % 2 ^ d + 2 ^ d * 0)) = false := by simp; omega
    rw [e1, e2]; simp
  · rw [e]
    by_cases hz : n % 2 ^ d = 0
    · rw [hz]
      have e1 : decide (2 * 2 ^ d < 2 * (0 + 2 ^ d * 1)) = false := by simp
      have e2 : decide (2 * 2 ^ d = 2 * (0 + 2 ^ d * 1)) = true := by simp
      rw [e1, e2]; simp
    · have e1 : decide (2 * 2 ^ d < 2 * (n % 2 ^ d + 2 ^ d * 1)) = true := by simp; omega
      rw [e1]; simp [hz]
theorem log2_of {n L : Nat} (h1 : 2 ^ L ≤ n) (h2 : n < 2 ^ (L + 1)) : n.log2 = L := by
  have h0 : n ≠ 0 := by have := Nat.two_pow_pos L; omega
  have a : n.log2 < L + 1 := (Nat.log2_lt h0).2 h2
  have b : L ≤ n.log2 := (Nat.le_log2 h0).2 h1
  omega
theorem float_end0 {n j : Nat} (h0 : n ≠ 0) (h1 : 4503599627370496 ≤ n * 2 ^ j) (h2 : n * 2 ^ j < 9007199254740992) (hj : j ≤ 52) : floatN n + j * 4503599627370496 + 4503599627370496 = 1075 * 4503599627370496 + n * 2 ^ j := by
  have hp : 0 < 2 ^ j := Nat.two_pow_pos _
  have hl : n.log2 = 52 - j := by
    apply log2_of
    · have : 2 ^ (52 - j) * 2 ^ j ≤ n * 2 ^ j := by rw [← Nat.pow_add, show 52 - j + j = 52 by omega]; exact h1
      exact Nat.le_of_mul_le_mul_right this hp
    · have : n * 2 ^ j < 2 ^ (52 - j + 1) * 2 ^ j := by rw [← Nat.pow_add, show 52 - j + 1 + j = 53 by omega]; exact h2
      exact Nat.lt_of_mul_lt_mul_right this
  unfold floatN
  rw [if_neg h0, if_pos (by omega), hl, show 52 - (52 - j) = j by omega]
  omega
theorem float_end1 {n d : Nat} (h1 : 4503599627370496 ≤ n / 2 ^ (d + 1)) (h2 : n / 2 ^ (d + 1) < 9007199254740992) : floatN n + 4503599627370496 = (1075 + (d + 1)) * 4503599627370496 + (n / 2 ^ (d + 1) + (hB n (d + 1) && (lB n (d + 1) || decide (n / 2 ^ (d + 1) % 2 = 1))).toNat) := by
  have hp : 0 < 2 ^ (d + 1) := Nat.two_pow_pos _
  have hl : n.log2 = 52 + (d + 1) := by
    apply log2_of
    · rw [Nat.le_div_iff_mul_le hp] at h1; rw [Nat.pow_add]; exact h1
    · rw [Nat.div_lt_iff_lt_mul hp] at h2; rw [show 52 + (d + 1) + 1 = 53 + (d + 1) by omega, Nat.pow_add]; exact h2
  have h0 : n ≠ 0 := by
    rintro rfl; simp at h1
  rw [up_eq]
  unfold floatN
  rw [if_neg h0, if_neg (by omega), hl, show 52 + (d + 1) - 52 = d + 1 by omega]
  omega
end Go.Proofs.YtaegencmnmjgbaaGreat
