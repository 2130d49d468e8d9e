/-
  Contracts of the document's Whole and Float.
-/
import Derived.Test.YtaegencmnmjgbaaGreatM8
import Derived.Test.YtaegencmnmjgbaaGreatM4

namespace Go.Proofs.YtaegencmnmjgbaaGreat
open Go.RowKit
set_option linter.unusedVariables false
set_option linter.unusedSimpArgs false
theorem w_power (n : Int) (hn : U64 n) : wrap64 ((wrap64 (IntKind.u64.wrap (n.tdiv 4503599627370496))).tmod 2048 - 1075) = (fE n.toNat : Int) - 1075 := by
  have h0 := hn.1; have h1 := hn.2; rw [pw8] at h1
  rw [Int.tdiv_eq_ediv_of_nonneg h0]
  have e1 : IntKind.u64.wrap (n / 4503599627370496) = n / 4503599627370496 := by rw [IntKind.wrap_u64]; omega
  have e2 : wrap64 (n / 4503599627370496) = n / 4503599627370496 := by unfold wrap64; omega
  rw [e1, e2, Int.tmod_eq_emod_of_nonneg (by omega)]
  unfold wrap64 fE; omega
theorem w_frac (n : Int) (hn : U64 n) : n.tmod 4503599627370496 = (fF n.toNat : Int) := by
  have h0 := hn.1
  rw [Int.tmod_eq_emod_of_nonneg h0]; unfold fF; omega
theorem w_sign (n : Int) (hn : U64 n) : decide (9223372036854775808 ≤ n) = fS n.toNat := by
  have h0 := hn.1
  unfold fS; rw [Bool.eq_iff_iff]; simp; omega
set_option maxHeartbeats 1000000 in
theorem rwhole_any (n : Int) (w : World) (hn : U64 n) :
    Calls Tryz.prog 135 #[.int .u64 n] w fun e w' => e = .returned (.int .i64 (wholeN n.toNat)) ∧ w = w' := by
  have hp := w_power n hn
  have hf := w_frac n hn
  have hs := w_sign n hn
  obtain ⟨b, hb⟩ : ∃ b, b = n.toNat := ⟨_, rfl⟩
  rw [← hb] at hp hf hs ⊢
  have hfl := fF_lt b
  have hel := fE_lt b
  obtain ⟨P, hP⟩ : ∃ P : Int, P = (fE b : Int) - 1075 := ⟨_, rfl⟩
  obtain ⟨F, hF⟩ : ∃ F : Int, F = (fF b : Int) := ⟨_, rfl⟩
  obtain ⟨s, hS⟩ : ∃ s : Bool, s = fS b := ⟨_, rfl⟩
  rw [← hP] at hp; rw [← hF] at hf; rw [← hS] at hs
  obtain ⟨D, hDD⟩ : ∃ D : Int, D = F + 4503599627370496 := ⟨_, rfl⟩
  have hD : IntKind.u64.wrap (F + 4503599627370496) = D := by rw [hDD, IntKind.wrap_u64]; omega
  have hD2 : wrap64 D = D := by unfold wrap64; omega
  have hfr : 0 ≤ F ∧ F < 4503599627370496 := by omega
  clear hn
  by_cases c1 : P = 972
  · have b1 : (P == 972) = true := by simpa using c1
    by_cases c2 : F = 0
    · have b2 : (F != 0) = false := by simpa using c2
      have hw : wholeN b = if s then -9223372036854775808 else 9223372036854775807 := by rw [wholeN_big (by omega) (by omega), hS]
      clear hP hF hS hDD hfl hel hb hfr c2
      rw [hw]
      cases s
      all_goals
        go_enter Tryz.func135, Tryz.ntmps135
        go_wp2_with fail
        go_ret
        exact ⟨rfl, rfl⟩
    · have b2 : (F != 0) = true := by simpa using c2
      have hw : wholeN b = 0 := wholeN_nan (by omega) (by omega)
      clear hP hF hS hDD hfl hel hb hfr c2
      rw [hw]
      go_enter Tryz.func135, Tryz.ntmps135
      go_wp2_with fail
      go_ret
      exact ⟨rfl, rfl⟩
  have b1 : (P == 972) = false := by simpa using c1
  by_cases c3 : 11 ≤ P
  · have b3 : decide (11 ≤ P) = true := by simpa using c3
    have hw : wholeN b = if s then -9223372036854775808 else 9223372036854775807 := by rw [wholeN_big (by omega) (by omega), hS]
    clear hP hF hS hDD hfl hel hb hfr c1 c3
    rw [hw]
    cases s
    all_goals
      go_enter Tryz.func135, Tryz.ntmps135
      go_wp2_with fail
      go_ret
      exact ⟨rfl, rfl⟩
  have b3 : decide (11 ≤ P) = false := by simpa using c3
  by_cases c4 : P < -52
  · have b4 : decide (P < -52) = true := by simpa using c4
    have hw : wholeN b = 0 := wholeN_low (by omega)
    clear hP hF hS hDD hfl hel hb hfr c1 c3 c4
    rw [hw]
    go_enter Tryz.func135, Tryz.ntmps135
    go_wp2_with fail
    go_ret
    exact ⟨rfl, rfl⟩
  have b4 : decide (P < -52) = false := by simpa using c4
  have HW : Hid (wholeN b = if s then -(fM b : Int) else (fM b : Int)) := by rw [hS]; exact wholeN_mid (by omega) (by omega)
  have hml := fM_lt (b := b) (by omega)
  by_cases c5 : 0 ≤ P
  · have HM : Hid ((fM b : Int) = D * 2 ^ P.toNat) := by
      have e : fM b = (4503599627370496 + fF b) * 2 ^ (fE b - 1075) := by unfold fM; rw [if_pos (by omega)]
      rw [show P.toNat = fE b - 1075 by omega, hDD, hF]; show (fM b : Int) = _
      rw [e]; simp [Int.add_comm]
    have hDr : 4503599627370496 ≤ D ∧ D < 9007199254740992 := by omega
    have hP10 : P ≤ 10 := by omega
    clear hP hF hS hDD hfl hel hb hfr c1 c3 c4
    go_enter Tryz.func135, Tryz.ntmps135
    go_wp2_with fail
    go_loopw [4, 6] (fun p x wr => ∃ (q X : Int), 0 ≤ q ∧ q ≤ P ∧ p = .int .i64 q ∧ x = .int .i64 X ∧ Hid (X = D * 2 ^ (P.toNat - q.toNat)) ∧ w = wr) (fun p _ _ => (intOf p).toNat)
    case atStart => exact ⟨P, D, c5, by omega, by first | rfl | rw [hp], by first | rfl | (rw [hf, hD, hD2]) | rw [hD, hD2] | rw [hD2], hid (by simp), rfl⟩
    case round =>
      obtain ⟨q, X, hq, hqP, rfl, rfl, HX, rfl⟩ := hrel
      by_cases hlt : 0 < q
      · have hXr : 0 ≤ X ∧ X < 4611686018427387904 := by
          have h1 : (2 : Int) ^ (P.toNat - q.toNat) ≤ 2 ^ 9 := by exact_mod_cast Nat.pow_le_pow_right (by decide : 0 < 2) (by omega)
          have h2 : (0 : Int) < 2 ^ (P.toNat - q.toNat) := Int.pow_pos (by decide)
          have h3 : D * 2 ^ (P.toNat - q.toNat) ≤ D * 2 ^ 9 := Int.mul_le_mul_of_nonneg_left h1 (by omega)
          have h4 : 0 ≤ D * 2 ^ (P.toNat - q.toNat) := Int.mul_nonneg (by omega) (by omega)
          have h5 : (2 : Int) ^ 9 = 512 := by decide
          rw [HX.out]; omega
        have q1 : wrap64 (X * 2) = X * 2 := by unfold wrap64; omega
        have q2 : wrap64 (q - 1) = q - 1 := by unfold wrap64; omega
        go_wp2_with fail
        go_roundw
        case rel =>
          refine ⟨q - 1, X * 2, by omega, by omega, rfl, rfl, hid ?_, by trivial⟩
          rw [HX.out, show P.toNat - (q - 1).toNat = P.toNat - q.toNat + 1 by omega, Int.pow_succ, Int.mul_assoc]
        case measure => simp [intOf]; omega
      · obtain rfl : q = 0 := by omega
        have HX2 : Hid (X = (fM b : Int)) := hid (by rw [HX.out, HM.out]; simp)
        have hXr : 0 ≤ X ∧ X < 9223372036854775808 := by have := HX2.out; omega
        have q1 : wrap64 (-X) = -X := by unfold wrap64; omega
        go_wp2_with fail
        go_loopw [4, 6] (fun p x wr => p = .int .i64 0 ∧ x = .int .i64 X ∧ w = wr) (fun _ _ _ => 0)
        case atStart => exact ⟨rfl, rfl, rfl⟩
        case round =>
          obtain ⟨rfl, rfl, rfl⟩ := hrel
          cases s
          all_goals
            go_wp2_with fail
            go_ret
            exact ⟨by rw [HW.out, HX2.out]; rfl, rfl⟩
  · have hM : fM b = (4503599627370496 + fF b) / 2 ^ (1075 - fE b) := by unfold fM; rw [if_neg (by omega)]
    have HM : Hid ((fM b : Int) = D / 2 ^ (-P).toNat) := by
      show (fM b : Int) = _
      rw [hM, show (-P).toNat = 1075 - fE b by omega, hDD, hF]; simp [Int.add_comm]
    have hDr : 4503599627370496 ≤ D ∧ D < 9007199254740992 := by omega
    have hP10 : -52 ≤ P ∧ P < 0 := by omega
    clear hP hF hS hDD hfl hel hb hfr c1 c3 c4 hM
    go_enter Tryz.func135, Tryz.ntmps135
    go_wp2_with fail
    go_loopw [4, 6] (fun p x wr => p = .int .i64 P ∧ x = .int .i64 D ∧ w = wr) (fun _ _ _ => 0)
    case atStart => exact ⟨rfl, rfl, rfl⟩
    case round =>
      obtain ⟨rfl, rfl, rfl⟩ := hrel
      go_wp2_with fail
      go_loopw [4, 6] (fun p x wr => ∃ (q X : Int), q ≤ 0 ∧ P ≤ q ∧ p = .int .i64 q ∧ x = .int .i64 X ∧ Hid (X = D / 2 ^ (q - P).toNat) ∧ w = wr) (fun p _ _ => (-intOf p).toNat)
      case atStart => exact ⟨P, D, by omega, by omega, rfl, rfl, hid (by simp), rfl⟩
      case round =>
        obtain ⟨q, X, hq, hqP, rfl, rfl, HX, rfl⟩ := hrel
        have hXr : 0 ≤ X ∧ X < 9007199254740992 := by
          have h2 : (0 : Int) < 2 ^ (q - P).toNat := Int.pow_pos (by decide)
          have h1 : D / 2 ^ (q - P).toNat ≤ D := Int.ediv_le_self _ (by omega)
          have h3 : 0 ≤ D / 2 ^ (q - P).toNat := Int.ediv_nonneg (by omega) (by omega)
          rw [HX.out]; omega
        by_cases hlt : q < 0
        · have q1 : wrap64 (X.tdiv 2) = X / 2 := by rw [Int.tdiv_eq_ediv_of_nonneg (by omega)]; unfold wrap64; omega
          have q2 : wrap64 (q + 1) = q + 1 := by unfold wrap64; omega
          go_wp2_with fail
          go_roundw
          case rel =>
            refine ⟨q + 1, X / 2, by omega, by omega, rfl, ?_, hid ?_, by trivial⟩
            · first | rfl | rw [q1]
            · rw [HX.out, show (q + 1 - P).toNat = (q - P).toNat + 1 by omega, Int.pow_succ, Int.ediv_ediv_of_nonneg (Int.le_of_lt (Int.pow_pos (by decide)))]
          case measure => simp [intOf]; omega
        · obtain rfl : q = 0 := by omega
          have HX2 : Hid (X = (fM b : Int)) := hid (by rw [HX.out, HM.out, Int.zero_sub])
          have q1 : wrap64 (-X) = -X := by unfold wrap64; omega
          cases s
          all_goals
            go_wp2_with fail
            go_ret
            exact ⟨by rw [HW.out, HX2.out]; rfl, rfl⟩
def StF (N d : Nat) (X P : Int) (l h : Bool) : Prop := X = ((N / 2 ^ d : Nat) : Int) ∧ P = 1075 + (d : Int) ∧ l = lB N d ∧ h = hB N d ∧ (d = 0 ∨ 4503599627370496 ≤ X) ∧ d ≤ 64
theorem div_two_pow_succ (n d : Nat) : n / 2 ^ (d + 1) = n / 2 ^ d / 2 := by rw [Nat.pow_succ, Nat.div_div_eq_div_mul]
theorem float_fin {N d j : Nat} {X P Y Q : Int} {l h : Bool} (hN : N ≠ 0) (hs : StF N d X P l h) (hY : Y = X * 2 ^ j) (hQ : Q = P - (j : Int)) (hj : j ≤ 52) (hjd : j = 0 ∨ d = 0) (h1 : 4503599627370496 ≤ Y) (h2 : Y < 9007199254740992) :
    Q * 4503599627370496 + (Y + ((h && (l || (Y % 2 == 1))).toNat : Int)) - 4503599627370496 = (floatN N : Int) := by
  obtain ⟨s1, s2, s3, s4, s5, s6⟩ := hs
  cases d with
  | zero =>
    rw [s4, s3]
    simp only [hB, Bool.false_and, Bool.toNat_false]
    have hX : X = (N : Int) := by rw [s1]; simp
    have hYN : Y = ((N * 2 ^ j : Nat) : Int) := by rw [hY, hX]; simp
    obtain ⟨Z, hZ⟩ : ∃ Z, Z = N * 2 ^ j := ⟨_, rfl⟩
    have he := float_end0 (n := N) (j := j) hN (by rw [← hZ] at hYN ⊢; omega) (by rw [← hZ] at hYN ⊢; omega) hj
    rw [← hZ] at he hYN
    omega
  | succ d =>
    have hj0 : j = 0 := by omega
    subst hj0
    have hYX : Y = ((N / 2 ^ (d + 1) : Nat) : Int) := by rw [hY, s1]; simp
    obtain ⟨Z, hZ⟩ : ∃ Z, Z = N / 2 ^ (d + 1) := ⟨_, rfl⟩
    have he := float_end1 (n := N) (d := d) (by rw [← hZ] at hYX ⊢; omega) (by rw [← hZ] at hYX ⊢; omega)
    have ho : (Y % 2 == 1) = decide (N / 2 ^ (d + 1) % 2 = 1) := by rw [← hZ] at hYX ⊢; rw [hYX, Bool.eq_iff_iff]; simp; omega
    rw [ho, s4, s3]
    rw [← hZ] at he hYX ⊢
    omega
set_option maxHeartbeats 2000000 in
theorem rfloat_any (n : Int) (minus : Bool) (w : World) (hn : U64 n) (h0 : n ≠ 0) :
    Calls Tryz.prog 134 #[.int .u64 n, .bool minus] w fun e w' => e = .returned (.int .u64 (floatW n.toNat minus : Nat)) ∧ w = w' := by
  have hn0 := hn.1
  have hn1 := hn.2; rw [pw8] at hn1
  obtain ⟨N, hN⟩ : ∃ N, N = n.toNat := ⟨_, rfl⟩
  rw [← hN]
  have b0 : (n == 0) = false := by simpa using h0
  have hNn : (N : Int) = n := by omega
  have HN : Hid (N ≠ 0 ∧ N < 18446744073709551616) := by show _ ∧ _; omega
  have HFL : Hid (floatN N < 9218868437227405312) := floatN_lt HN.out.2
  have HS0 : Hid (StF N 0 n 1075 false false) := ⟨by simp [hNn], by simp, rfl, rfl, .inl rfl, by omega⟩
  clear hn hN h0 hNn
  go_enter Tryz.func134, Tryz.ntmps134
  go_wp2_with fail
  go_loopw [0, 5, 6, 7] (fun x p lo ha wr => ∃ (d : Nat) (X P : Int) (l h : Bool), x = .int .u64 X ∧ p = .int .i64 P ∧ lo = .bool l ∧ ha = .bool h ∧ Hid (StF N d X P l h) ∧ 0 ≤ X ∧ X < 18446744073709551616 ∧ w = wr) (fun x _ _ _ _ => (intOf x).toNat)
  case atStart => exact ⟨0, n, 1075, false, false, rfl, rfl, rfl, rfl, HS0, hn0, hn1, rfl⟩
  case round =>
    obtain ⟨d, X, P, l, h, rfl, rfl, rfl, rfl, HS, hX0, hX1, rfl⟩ := hrel
    have hP : 1075 ≤ P ∧ P ≤ 1139 := by have := HS.out.2.1; have := HS.out.2.2.2.2.2; omega
    by_cases hlt : 9007199254740992 ≤ X
    · have q1 : X.tmod 2 = X % 2 := Int.tmod_eq_emod_of_nonneg hX0
      have q2 : IntKind.u64.wrap (X.tdiv 2) = X / 2 := by rw [Int.tdiv_eq_ediv_of_nonneg hX0, IntKind.wrap_u64]; omega
      have q3 : wrap64 (P + 1) = P + 1 := by unfold wrap64; omega
      have hd64 : d + 1 ≤ 64 := by
        have h1 := HS.out.1; have h2 := HS.out.2.2.2.2.2
        by_cases hd : d = 64
        · subst hd
          have : N / 2 ^ 64 = 0 := Nat.div_eq_of_lt HN.out.2
          omega
        · omega
      have HS2 : Hid (StF N (d + 1) (X / 2) (P + 1) (l || h) (X % 2 == 1)) := by
        obtain ⟨s1, s2, s3, s4, s5, s6⟩ := HS.out
        refine ⟨?_, by omega, by rw [lB_succ, s3, s4], ?_, .inr (by omega), hd64⟩
        · rw [div_two_pow_succ, s1, Int.natCast_ediv]; rfl
        · rw [hB, s1, Bool.eq_iff_iff]; generalize N / 2 ^ d = Y; simp; omega
      cases l
      all_goals
        go_wp2_with fail
        go_roundw
        case rel => exact ⟨d + 1, X / 2, P + 1, _, _, rfl, rfl, rfl, rfl, HS2, by omega, by omega, by trivial⟩
        case measure => simp [intOf]; omega
    · have hXp : 0 < X := by
        obtain ⟨s1, s2, s3, s4, s5, s6⟩ := HS.out
        rcases s5 with rfl | s5
        · have := HN.out.1; simp at s1; omega
        · omega
      go_wp2_with fail
      go_loopw [0, 5] (fun x p wr => ∃ (j : Nat) (Y Q : Int), x = .int .u64 Y ∧ p = .int .i64 Q ∧ Hid (Y = X * 2 ^ j ∧ Q = P - (j : Int) ∧ j ≤ 52 ∧ (j = 0 ∨ d = 0)) ∧ 0 < Y ∧ Y < 9007199254740992 ∧ w = wr) (fun x _ _ => (9007199254740992 - intOf x).toNat)
      case atStart => exact ⟨0, X, P, rfl, rfl, hid ⟨by simp, by simp, by omega, .inl rfl⟩, hXp, hlt, rfl⟩
      case round =>
        obtain ⟨j, Y, Q, rfl, rfl, HJ, hY0, hY1, rfl⟩ := hrel
        have hQ : 1023 ≤ Q ∧ Q ≤ 1139 := by obtain ⟨j1, j2, j3, j4⟩ := HJ.out; omega
        by_cases hl2 : Y < 4503599627370496
        · have q1 : IntKind.u64.wrap (Y * 2) = Y * 2 := by rw [IntKind.wrap_u64]; omega
          have q3 : wrap64 (Q - 1) = Q - 1 := by unfold wrap64; omega
          have HJ2 : Hid (Y * 2 = X * 2 ^ (j + 1) ∧ Q - 1 = P - ((j + 1 : Nat) : Int) ∧ j + 1 ≤ 52 ∧ (j + 1 = 0 ∨ d = 0)) := by
            obtain ⟨j1, j2, j3, j4⟩ := HJ.out
            have hd : d = 0 := by
              rcases j4 with rfl | j4
              · obtain ⟨s1, s2, s3, s4, s5, s6⟩ := HS.out
                simp at j1
                omega
              · exact j4
            have e1 : Y * 2 = X * 2 ^ (j + 1) := by rw [j1, Int.pow_succ, Int.mul_assoc]
            refine ⟨e1, by omega, ?_, .inr hd⟩
            have h1 : (2 : Int) ^ j * 1 ≤ 2 ^ j * X := Int.mul_le_mul_of_nonneg_left (by omega) (Int.le_of_lt (Int.pow_pos (by decide)))
            have h2 : (2 : Int) ^ j < 2 ^ 52 := by rw [Int.mul_comm _ X, ← j1] at h1; simp at h1; show (2 : Int) ^ j < 4503599627370496; omega
            have h3 : 2 ^ j < 2 ^ 52 := by exact_mod_cast h2
            have h4 := (Nat.pow_lt_pow_iff_right (a := 2) (by decide)).1 h3
            omega
          go_wp2_with fail
          go_roundw
          case rel => exact ⟨j + 1, Y * 2, Q - 1, rfl, rfl, HJ2, by omega, by omega, by trivial⟩
          case measure => simp [intOf]; omega
        · have q1 : Y.tmod 2 = Y % 2 := Int.tmod_eq_emod_of_nonneg (by omega)
          have k1 : IntKind.u64.wrap Q = Q := by rw [IntKind.wrap_u64]; omega
          have k2 : IntKind.u64.wrap (Q * 4503599627370496) = Q * 4503599627370496 := by rw [IntKind.wrap_u64]; omega
          have k0 : IntKind.u64.wrap (Y + 1) = Y + 1 := by rw [IntKind.wrap_u64]; omega
          obtain ⟨Z, HZ⟩ : ∃ Z : Int, Hid (Z = (floatN N : Int)) := ⟨_, hid rfl⟩
          have hZr : 0 ≤ Z ∧ Z < 9218868437227405312 := by have := HFL.out; have := HZ.out; omega
          have k5 : IntKind.u64.wrap (Z + 9223372036854775808) = Z + 9223372036854775808 := by rw [IntKind.wrap_u64]; omega
          have hfin := float_fin HN.out.1 HS.out HJ.out.1 HJ.out.2.1 HJ.out.2.2.1 HJ.out.2.2.2 (by omega) hY1
          rw [← HZ.out] at hfin
          cases h
          · have hfin2 : Q * 4503599627370496 + Y - 4503599627370496 = Z := by simpa using hfin
            clear hfin
            have k3 : IntKind.u64.wrap (Q * 4503599627370496 + Y) = Q * 4503599627370496 + Y := by rw [IntKind.wrap_u64]; omega
            have k4 : IntKind.u64.wrap (Q * 4503599627370496 + Y - 4503599627370496) = Z := by rw [IntKind.wrap_u64]; omega
            cases minus
            · go_wp2_with fail
              go_ret
              exact ⟨ret_int (by rw [HZ.out]; rfl), rfl⟩
            · go_wp2_with fail
              go_ret
              exact ⟨ret_int (by rw [HZ.out]; show _ = ((9223372036854775808 + floatN N : Nat) : Int); omega), rfl⟩
          · cases l
            · by_cases ho : (Y % 2 == 1) = true
              · have hfin2 : Q * 4503599627370496 + (Y + 1) - 4503599627370496 = Z := by rw [ho] at hfin; simpa using hfin
                clear hfin
                have k3 : IntKind.u64.wrap (Q * 4503599627370496 + (Y + 1)) = Q * 4503599627370496 + (Y + 1) := by rw [IntKind.wrap_u64]; omega
                have k4 : IntKind.u64.wrap (Q * 4503599627370496 + (Y + 1) - 4503599627370496) = Z := by rw [IntKind.wrap_u64]; omega
                cases minus
                · go_wp2_with fail
                  go_ret
                  exact ⟨ret_int (by rw [HZ.out]; rfl), rfl⟩
                · go_wp2_with fail
                  go_ret
                  exact ⟨ret_int (by rw [HZ.out]; show _ = ((9223372036854775808 + floatN N : Nat) : Int); omega), rfl⟩
              · have ho : (Y % 2 == 1) = false := by simpa using ho
                have hfin2 : Q * 4503599627370496 + Y - 4503599627370496 = Z := by rw [ho] at hfin; simpa using hfin
                clear hfin
                have k3 : IntKind.u64.wrap (Q * 4503599627370496 + Y) = Q * 4503599627370496 + Y := by rw [IntKind.wrap_u64]; omega
                have k4 : IntKind.u64.wrap (Q * 4503599627370496 + Y - 4503599627370496) = Z := by rw [IntKind.wrap_u64]; omega
                cases minus
                · go_wp2_with fail
                  go_ret
                  exact ⟨ret_int (by rw [HZ.out]; rfl), rfl⟩
                · go_wp2_with fail
                  go_ret
                  exact ⟨ret_int (by rw [HZ.out]; show _ = ((9223372036854775808 + floatN N : Nat) : Int); omega), rfl⟩
            · have hfin2 : Q * 4503599627370496 + (Y + 1) - 4503599627370496 = Z := by simpa using hfin
              clear hfin
              have k3 : IntKind.u64.wrap (Q * 4503599627370496 + (Y + 1)) = Q * 4503599627370496 + (Y + 1) := by rw [IntKind.wrap_u64]; omega
              have k4 : IntKind.u64.wrap (Q * 4503599627370496 + (Y + 1) - 4503599627370496) = Z := by rw [IntKind.wrap_u64]; omega
              cases minus
              · go_wp2_with fail
                go_ret
                exact ⟨ret_int (by rw [HZ.out]; rfl), rfl⟩
              · go_wp2_with fail
                go_ret
                exact ⟨ret_int (by rw [HZ.out]; show _ = ((9223372036854775808 + floatN N : Nat) : Int); omega), rfl⟩
end Go.Proofs.YtaegencmnmjgbaaGreat
