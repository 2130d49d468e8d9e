/-
  Contract of kind.Whole: float64 without what is behind the point.
-/
import Derived.Test.YtacakogncjhlfaaKindX
import Derived.Test.YtacakogncjhlfaaKindA
import Derived.Laws.Externs
namespace Go.Proofs.Ytacakogncjhlfaa
open Go.RowKit
set_option linter.unusedVariables false
set_option linter.unusedSimpArgs false

/-- The bits of a float64 without what is behind the point. -/
def truncB (b : Nat) : Nat := FloatKind.f64.encode ((FloatKind.f64.decode b).integral .zero)
theorem integral_num (s : Bool) (m : Nat) (i : Int) : (Ieee.Datum.number s m i).integral .zero = .number s (m * 2 ^ i.toNat / 2 ^ (-i).toNat) 0 := by
  unfold Ieee.Datum.integral
  simp only [cut_zero, Nat.shiftLeft_eq]
theorem enc_num (s : Bool) (m : Nat) : FloatKind.f64.encode (.number s m 0) = Ieee.double.nearest s m 0 := rfl
theorem near_any (s : Bool) {m : Nat} (hm : m < 18446744073709551616) : Ieee.double.nearest s m 0 = floatW m s := by
  by_cases h0 : m = 0
  · subst h0; cases s <;> decide
  · exact near_eq s hm (fun h => absurd h h0)
/-- What is left of one that is in int64's range is so many. -/
theorem whole_w (s : Bool) {m : Nat} (hm : m ≤ 9007199254740992) : wholeN (floatW m s) = if s then -(m : Int) else (m : Int) := by
  by_cases h0 : m = 0
  · subst h0; cases s <;> decide
  · exact whole_float hm s (fun h => absurd h h0)
theorem fE_w (s : Bool) {m : Nat} (hm : m ≤ 9007199254740992) : fE (floatW m s) < 1086 := by
  by_cases h0 : m = 0
  · subst h0; cases s <;> decide
  by_cases h53 : m = 9007199254740992
  · subst h53; cases s <;> decide
  have hl : m.log2 < 53 := log2_lt h0 (show m < 2 ^ 53 by omega)
  have hb := low_bounds h0 (by omega)
  have hf := floatN_fields h0 (by omega)
  unfold fE floatW; split <;> omega
theorem trunc_small {s : Bool} {m : Nat} {w : Int} (hm : m ≤ 9007199254740992) (hw : w = if s then -(m : Int) else (m : Int)) : (FloatKind.f64.decode (Ieee.double.nearest s m 0)).toInt .zero = some w := by
  rw [near_any s (by omega), toInt_whole (floatW_lt (by omega) s) (fE_w s hm), whole_w s hm, hw]
/-- A great one is whole. -/
theorem trunc_great {b : Nat} (hb : b < 18446744073709551616) (h : 1075 ≤ fE b) (h2 : fE b < 1086) : Ieee.double.nearest (fS b) ((4503599627370496 + fF b) * 2 ^ (fE b - 1075)) 0 = b := by
  have hf := fF_lt b
  obtain ⟨k, hk⟩ : ∃ k, k = fE b - 1075 := ⟨_, rfl⟩
  obtain ⟨m, hm⟩ : ∃ m, m = 4503599627370496 + fF b := ⟨_, rfl⟩
  rw [← hk, ← hm]
  have hk10 : k ≤ 10 := by omega
  have hp : 0 < 2 ^ k := Nat.two_pow_pos _
  have hp2 : 2 ^ k ≤ 2 ^ 10 := Nat.pow_le_pow_right (by decide) hk10
  have hM : m * 2 ^ k ≤ m * 2 ^ 10 := Nat.mul_le_mul_left _ hp2
  have e10 : (2 : Nat) ^ 10 = 1024 := by decide
  have hMlt : m * 2 ^ k < 18446744073709551616 := by rw [e10] at hM; omega
  have hM0 : m * 2 ^ k ≠ 0 := Nat.mul_ne_zero (by omega) (by omega)
  have hlog : (m * 2 ^ k).log2 = 52 + k := by
    refine log2_of ?_ ?_
    · rw [Nat.pow_add]; exact Nat.mul_le_mul_right _ (by omega)
    · rw [show 52 + k + 1 = 53 + k by omega, Nat.pow_add]; exact Nat.mul_lt_mul_of_pos_right (by omega) hp
  have hN : floatN (m * 2 ^ k) = (1022 + (52 + k)) * 4503599627370496 + m := by
    unfold floatN
    rw [if_neg hM0, hlog]
    by_cases hk0 : k = 0
    · subst hk0; rw [if_pos (by omega)]; simp
    · rw [if_neg (by omega), show 52 + k - 52 = k by omega, Nat.mul_div_cancel _ hp, Nat.mul_mod_left]
      simp
  rw [near_any _ hMlt]
  unfold floatW
  rw [hN]
  have e := rung_eq b hb
  have hs : fS b = decide (9223372036854775808 ≤ b) := rfl
  rw [hs]
  by_cases c : 9223372036854775808 ≤ b
  · rw [if_pos (by simpa using c)]; omega
  · rw [if_neg (by simpa using c)]; omega
theorem dec_eq (b : Nat) : FloatKind.f64.decode b = Ieee.double.read b := rfl
theorem trunc_whole {b : Nat} (hb : b < 18446744073709551616) (h : fE b < 1086) : (FloatKind.f64.decode (truncB b)).toInt .zero = some (wholeN b) := by
  have hf := fF_lt b
  unfold truncB
  rw [dec_eq b]
  by_cases h0 : fE b = 0
  · rw [read_sub hb h0, integral_num, enc_num]
    have e : fF b * 2 ^ (-1074 : Int).toNat / 2 ^ (-(-1074) : Int).toNat = 0 := by
      have key : ∀ d : Nat, 53 ≤ d → fF b / 2 ^ d = 0 := fun d hd => Nat.div_eq_of_lt (Nat.lt_of_lt_of_le (show fF b < 2 ^ 53 by omega) (Nat.pow_le_pow_right (by decide) hd))
      rw [show (-1074 : Int).toNat = 0 from rfl, Nat.pow_zero, Nat.mul_one]
      exact key _ (by omega)
    rw [e]
    exact trunc_small (by decide) (by rw [wholeN_low (by omega)]; cases fS b <;> rfl)
  · rw [read_norm hb (by omega) (by omega), integral_num, enc_num]
    by_cases h1 : fE b < 1023
    · have e : (4503599627370496 + fF b) * 2 ^ ((fE b : Int) - 1075).toNat / 2 ^ (-((fE b : Int) - 1075)).toNat = 0 := by
        rw [show ((fE b : Int) - 1075).toNat = 0 by omega, show (-((fE b : Int) - 1075)).toNat = 1075 - fE b by omega, Nat.pow_zero, Nat.mul_one]
        exact Nat.div_eq_of_lt (Nat.lt_of_lt_of_le (show 4503599627370496 + fF b < 2 ^ 53 by omega) (Nat.pow_le_pow_right (by decide) (by omega)))
      rw [e]
      exact trunc_small (by decide) (by rw [wholeN_low h1]; cases fS b <;> rfl)
    · by_cases h2 : 1075 ≤ fE b
      · rw [show ((fE b : Int) - 1075).toNat = fE b - 1075 by omega, show (-((fE b : Int) - 1075)).toNat = 0 by omega, Nat.pow_zero, Nat.div_one, trunc_great hb h2 h]
        exact toInt_whole hb h
      · have e : (4503599627370496 + fF b) * 2 ^ ((fE b : Int) - 1075).toNat / 2 ^ (-((fE b : Int) - 1075)).toNat = fM b := by
          unfold fM
          rw [if_neg h2, show ((fE b : Int) - 1075).toNat = 0 by omega, show (-((fE b : Int) - 1075)).toNat = 1075 - fE b by omega, Nat.pow_zero, Nat.mul_one]
        rw [e]
        refine trunc_small ?_ (wholeN_mid h1 h)
        unfold fM; rw [if_neg h2]
        have := Nat.div_le_self (4503599627370496 + fF b) (2 ^ (1075 - fE b))
        omega
theorem trunc_least : truncB 14114281232179134464 = 14114281232179134464 ∧ (FloatKind.f64.decode 14114281232179134464).toInt .zero = some (-9223372036854775808) := by decide

theorem run_trunc {b : Nat} (hb : b < 18446744073709551616) (h : ¬ (fE b = 2047 ∧ fF b ≠ 0)) (w : World) : (callFunc 55 #[.float .f64 b]).run Try.prog w = .ok (.value (.float .f64 (truncB b))) w := by
  rw [run_callFunc_extern Try.func55 (e := Extern.MathFloor.toIntegral "math.archTrunc" .zero) (by kernel_rfl) (by kernel_rfl) (by kernel_rfl) (by kernel_rfl)]
  have hlt := fE_lt b
  have hd : ∀ s t, FloatKind.f64.decode b ≠ .nan s t := by
    intro s t
    rw [dec_eq]
    by_cases h0 : fE b = 0
    · rw [read_sub hb h0]; simp
    by_cases h1 : fE b < 2047
    · rw [read_norm hb (by omega) h1]; simp
    · rw [read_inf hb (by omega) (by omega)]; simp
  have e : ∃ X : Bool → Nat → Sem Value, Extern.MathFloor.toIntegral "math.archTrunc" .zero #[.float .f64 b] = (match FloatKind.f64.decode b with | .nan s t => X s t | d => pure (.float .f64 (FloatKind.f64.encode (d.integral .zero)))) := ⟨_, rfl⟩
  obtain ⟨X, e⟩ := e
  rw [e]
  unfold truncB
  cases hx : FloatKind.f64.decode b with
  | nan s t => exact absurd hx (hd s t)
  | infinity s => rfl
  | number s m i => rfl
theorem run_frombits (n : Int) (w : World) : (callFunc 44 #[.int .u64 n]).run Try.prog w = .ok (.value (.float .f64 n.toNat)) w := by
  rw [run_callFunc_extern Try.func44 (e := Extern.MathFloatBits.float64frombits) (by kernel_rfl) (by kernel_rfl) (by kernel_rfl) (by kernel_rfl)]
  rfl
theorem fneq (b : Nat) (hb : b < 18446744073709551616) : (FloatKind.f64.format.order b b != some Ordering.eq) = decide (fE b = 2047 ∧ fF b ≠ 0) := by
  have h := order_self hb
  by_cases c : fE b = 2047 ∧ fF b ≠ 0
  · rw [if_pos c] at h; rw [h]; simp [c]
  · rw [if_neg c] at h; rw [h]; simp [c]
theorem fge (b : Nat) (hb : b < 18446744073709551616) (hn : ¬ (fE b = 2047 ∧ fF b ≠ 0)) : (FloatKind.f64.format.order b 4890909195324358656 == some Ordering.gt || FloatKind.f64.format.order b 4890909195324358656 == some Ordering.eq) = (!fS b && decide (1086 ≤ fE b)) := by
  rw [ord_hi hb hn]
  cases hs : fS b
  · simp only [Bool.false_eq_true, if_false]
    by_cases h1 : fE b < 1086
    · have h1' : ¬ 1086 ≤ fE b := by omega
      simp [h1, h1']
    · by_cases h2 : fE b = 1086 ∧ fF b = 0
      · simp [h1, h2]
      · have h1' : 1086 ≤ fE b := by omega
        simp [h1, h1', h2]
  · simp
theorem flt (b : Nat) (hb : b < 18446744073709551616) (hn : ¬ (fE b = 2047 ∧ fF b ≠ 0)) : (FloatKind.f64.format.order b 14114281232179134464 == some Ordering.lt) = (fS b && decide (1086 ≤ fE b) && !decide (fE b = 1086 ∧ fF b = 0)) := by
  rw [ord_lo hb hn]
  cases hs : fS b
  · simp
  · simp only [if_true]
    by_cases h1 : fE b < 1086
    · have h1' : ¬ 1086 ≤ fE b := by omega
      simp [h1, h1']
    · by_cases h2 : fE b = 1086 ∧ fF b = 0
      · simp [h1, h2]
      · have h1' : 1086 ≤ fE b := by omega
        simp [h1, h1', h2]
theorem run_toint {b : Nat} {n : Int} (h : (FloatKind.f64.decode b).toInt .zero = some n) (h1 : -9223372036854775808 ≤ n) (h2 : n ≤ 9223372036854775807) (w : World) : (convert 46 2 (.float .f64 b)).run Try.prog w = .ok (.int .i64 n) w := by
  have e1 : IntKind.i64.min ≤ n ∧ n ≤ IntKind.i64.max := ⟨h1, h2⟩
  simp [convert, run_underlying Try.underlying46, run_underlying Try.underlying2, go_sem, Conv.floatToInt, h, e1]
  intro hc; omega

theorem isNaN_any (b : Nat) (w : World) (hb : b < 18446744073709551616) :
    Calls Try.prog 45 #[.float .f64 b] w fun e w' => e = .returned (.bool (decide (fE b = 2047 ∧ fF b ≠ 0))) ∧ w = w' := by
  have h := fneq b hb
  obtain ⟨c, hc⟩ : ∃ c : Bool, decide (fE b = 2047 ∧ fF b ≠ 0) = c := ⟨_, rfl⟩
  rw [hc] at h ⊢
  clear hc
  go_enter Try.func45, Try.ntmps45
  go_wp2_with fail
  go_ret
  exact ⟨rfl, rfl⟩
theorem trunc_any (b : Nat) (w : World) (hb : b < 18446744073709551616) (hn : ¬ (fE b = 2047 ∧ fF b ≠ 0)) :
    Calls Try.prog 46 #[.float .f64 b] w fun e w' => e = .returned (.float .f64 (truncB b)) ∧ w = w' := by
  have h := run_trunc hb hn
  obtain ⟨c, hc⟩ : ∃ c, truncB b = c := ⟨_, rfl⟩
  rw [hc] at h ⊢
  clear hc hn
  go_enter Try.func46, Try.ntmps46
  go_wp2_with fail
  go_ret
  exact ⟨rfl, rfl⟩

set_option maxHeartbeats 1000000 in
theorem kwhole_any (n : Int) (w : World) (hn : U64 n) :
    Calls Try.prog 26 #[.int .u64 n] w fun e w' => e = .returned (.int .i64 (wholeN n.toNat)) ∧ Below w.heap.size w w' := by
  have hfb := run_frombits n
  have hb : n.toNat < 18446744073709551616 := by have := hn.1; have h2 := hn.2; rw [pw8] at h2; omega
  obtain ⟨b, hbb⟩ : ∃ b, b = n.toNat := ⟨_, rfl⟩
  rw [← hbb] at hfb hb ⊢
  clear hbb
  have HB : Hid (b < 18446744073709551616) := hb
  by_cases hnan : fE b = 2047 ∧ fF b ≠ 0
  · have hw : Hid (wholeN b = 0) := wholeN_nan hnan.1 hnan.2
    have hd : Hid (decide (fE b = 2047 ∧ fF b ≠ 0) = true) := by show _ = _; simpa using hnan
    clear hnan hb
    go_enter Try.func26, Try.ntmps26
    go_wp2_with fail
    go_at_call 45
    refine (isNaN_any _ _ HB.out).mono ?_
    rintro e w1 ⟨rfl, rfl⟩
    rw [hd.out]
    go_wp2_with fail
    go_ret
    exact ⟨by rw [hw.out]; rfl, B0 _⟩
  have HN : Hid (¬ (fE b = 2047 ∧ fF b ≠ 0)) := hnan
  have hd : Hid (decide (fE b = 2047 ∧ fF b ≠ 0) = false) := by show _ = _; simpa using hnan
  have hge := fge b hb hnan
  have hlt := flt b hb hnan
  by_cases h1 : 1086 ≤ fE b
  · have hw := wholeN_big h1 hnan
    have e1 : decide (1086 ≤ fE b) = true := by simpa using h1
    cases hs : fS b with
    | false =>
      rw [hs, e1] at hge
      simp only [Bool.not_false, Bool.and_true] at hge
      rw [hs] at hw
      have HW : Hid (wholeN b = 9223372036854775807) := hw
      clear hw hs e1 h1 hlt hnan hb
      go_enter Try.func26, Try.ntmps26
      go_wp2_with fail
      go_at_call 45
      refine (isNaN_any _ _ HB.out).mono ?_
      rintro e w1 ⟨rfl, rfl⟩
      rw [hd.out]
      go_wp2_with fail
      go_ret
      exact ⟨by rw [HW.out]; rfl, B0 _⟩
    | true =>
      rw [hs, e1] at hge hlt
      simp only [Bool.not_true, Bool.false_and] at hge
      rw [hs] at hw
      have HW : Hid (wholeN b = -9223372036854775808) := hw
      by_cases h2 : fE b = 1086 ∧ fF b = 0
      · have hbe : b = 14114281232179134464 := by
          have e := rung_eq b hb
          have c : 9223372036854775808 ≤ b := by simpa [fS] using hs
          omega
        have e2 : decide (fE b = 1086 ∧ fF b = 0) = true := by simpa using h2
        rw [e2] at hlt
        simp only [Bool.not_true, Bool.and_false, Bool.not_false, Bool.and_true] at hlt
        have hci := run_toint (b := truncB b) (n := -9223372036854775808) (by rw [hbe, trunc_least.1]; exact trunc_least.2) (by decide) (by decide)
        obtain ⟨t, ht⟩ : ∃ t, truncB b = t := ⟨_, rfl⟩
        rw [ht] at hci
        have HT := hid ht
        clear hw hs e1 e2 h1 h2 hnan hb hbe ht
        go_enter Try.func26, Try.ntmps26
        go_wp2_with fail
        go_at_call 45
        refine (isNaN_any _ _ HB.out).mono ?_
        rintro e w1 ⟨rfl, rfl⟩
        rw [hd.out]
        go_wp2_with fail
        go_at_call 46
        refine (trunc_any _ _ HB.out HN.out).mono ?_
        rintro e w1 ⟨rfl, rfl⟩
        rw [HT.out]
        go_wp2_with fail
        go_ret
        exact ⟨by rw [HW.out]; rfl, B0 _⟩
      · have e2 : decide (fE b = 1086 ∧ fF b = 0) = false := by simpa using h2
        rw [e2] at hlt
        simp only [Bool.not_true, Bool.and_false, Bool.not_false, Bool.and_true] at hlt
        clear hw hs e1 e2 h1 h2 hnan hb
        go_enter Try.func26, Try.ntmps26
        go_wp2_with fail
        go_at_call 45
        refine (isNaN_any _ _ HB.out).mono ?_
        rintro e w1 ⟨rfl, rfl⟩
        rw [hd.out]
        go_wp2_with fail
        go_ret
        exact ⟨by rw [HW.out]; rfl, B0 _⟩
  · have e1 : decide (1086 ≤ fE b) = false := by simpa using h1
    rw [e1] at hge hlt
    simp only [Bool.and_false, Bool.false_and] at hge hlt
    have hi := wholeN_i64 b
    have hci := run_toint (b := truncB b) (trunc_whole hb (by omega)) hi.1 hi.2
    obtain ⟨t, ht⟩ : ∃ t, truncB b = t := ⟨_, rfl⟩
    rw [ht] at hci
    have HT := hid ht
    clear hi e1 h1 hnan hb ht
    go_enter Try.func26, Try.ntmps26
    go_wp2_with fail
    go_at_call 45
    refine (isNaN_any _ _ HB.out).mono ?_
    rintro e w1 ⟨rfl, rfl⟩
    rw [hd.out]
    go_wp2_with fail
    go_at_call 46
    refine (trunc_any _ _ HB.out HN.out).mono ?_
    rintro e w1 ⟨rfl, rfl⟩
    rw [HT.out]
    go_wp2_with fail
    go_ret
    exact ⟨rfl, B0 _⟩
end Go.Proofs.Ytacakogncjhlfaa
