/-
  Contracts of kind: among, Long, rightBits, Right.
  Contract of kind.Whole: float64 without what is behind the point.
-/
import Derived.Test.YtaegencmnmjgbaaGreatM4
import Derived.Test.YtaegencmnmjgbaaGreatM8
import Derived.Laws.Externs

namespace Go.Proofs.YtaegencmnmjgbaaGreat
open Go.RowKit
set_option linter.unusedVariables false
set_option linter.unusedSimpArgs false
def amB (a b x : Int) : Bool := decide (a ≤ x) && decide (x ≤ b)
theorem among_any (a b : Int) (w : World) :
    Calls Tryz.prog 162 #[.int .i64 a, .int .i64 b] w fun e w' => e = .returned (.func (.func 188) #[] #[.pointer (some ⟨w.heap.size, 0, none⟩), .pointer (some ⟨w.heap.size + 1, 0, none⟩)]) ∧ w' = (w.alloc (.cells #[.int .i64 a] 3)).alloc (.cells #[.int .i64 b] 3) := by
  go_enter Tryz.func162, Tryz.ntmps162
  go_wp2
  go_ret
  exact ⟨rfl, rfl⟩
theorem among1_any (x a b : Int) (p q : Nat) (w : World) (h0 : w.cell? ⟨p, 0, none⟩ = some (.int .i64 a)) (h1 : w.cell? ⟨q, 0, none⟩ = some (.int .i64 b)) :
    Calls Tryz.prog 188 #[.int .i64 x, .pointer (some ⟨p, 0, none⟩), .pointer (some ⟨q, 0, none⟩)] w fun e w' => e = .returned (.bool (amB a b x)) ∧ w = w' := by
  by_cases h : a ≤ x
  · have b1 : decide (a ≤ x) = true := by simpa using h
    go_enter Tryz.func188, Tryz.ntmps188
    go_wp2
    go_ret
    exact ⟨ret_bool (by simp [amB, h]), rfl⟩
  · have b1 : decide (a ≤ x) = false := by simpa using h
    go_enter Tryz.func188, Tryz.ntmps188
    go_wp2
    go_ret
    exact ⟨ret_bool (by simp [amB]; omega), rfl⟩
def Am (w : World) (p : Nat) (a b : Int) : Prop := w.heap[p]? = some (.cells #[.int .i64 a] 3 (0, 0)) ∧ w.heap[p + 1]? = some (.cells #[.int .i64 b] 3 (0, 0))
theorem Am.on {w w' : World} {p : Nat} {a b : Int} (h : Am w p a b) (hb : Below w.heap.size w w') : Am w' p a b :=
  ⟨(hb.block _ (row_lt h.1)).trans h.1, (hb.block _ (row_lt h.2)).trans h.2⟩
theorem Am.cells {w : World} {p : Nat} {a b : Int} (h : Am w p a b) : w.cell? ⟨p, 0, none⟩ = some (.int .i64 a) ∧ w.cell? ⟨p + 1, 0, none⟩ = some (.int .i64 b) := ⟨row_cell h.1 0, row_cell h.2 0⟩
theorem among_new (a b : Int) (w : World) :
    Calls Tryz.prog 162 #[.int .i64 a, .int .i64 b] w fun e w' => ∃ p, e = .returned (.func (.func 188) #[] #[.pointer (some ⟨p, 0, none⟩), .pointer (some ⟨p + 1, 0, none⟩)]) ∧ Am w' p a b ∧ Below w.heap.size w w' := by
  refine (among_any a b w).mono ?_
  rintro e w' ⟨rfl, rfl⟩
  refine ⟨w.heap.size, rfl, ⟨?_, ?_⟩, Ba (B1 _ _) _⟩
  · rw [(B1 (w.alloc (.cells #[.int .i64 a] 3)) (.cells #[.int .i64 b] 3)).block _ (by simp)]; exact heap_alloc_new w _
  · have := heap_alloc_new (w.alloc (.cells #[.int .i64 a] 3)) (.cells #[.int .i64 b] 3)
    rwa [World.size_alloc] at this
theorem among_ask (x : Int) {a b : Int} {p : Nat} {w : World} (h : Am w p a b) :
    Calls Tryz.prog 188 #[.int .i64 x, .pointer (some ⟨p, 0, none⟩), .pointer (some ⟨p + 1, 0, none⟩)] w fun e w' => e = .returned (.bool (amB a b x)) ∧ w = w' := among1_any x a b p (p + 1) w h.cells.1 h.cells.2
theorem longF_g {k g : Int} (h : k ≠ 12) (hg : g ≠ 0) : longF k g = 0 := by
  have : mayF k g = false := by simp [mayF, h, hg]
  simp [longF, this]
theorem longF_0 {k : Int} : longF k 0 = sizeOfKind k := by
  by_cases h : k = 12
  · subst h; decide
  · by_cases h1 : 0 < k ∧ k < 12
    · have : mayF k 0 = true := by simp [mayF, h, h1]
      simp [longF, this, h]
    · have e1 : mayF k 0 = false := by
        simp only [mayF, if_neg h]; simp; omega
      have e2 : sizeOfKind k = 0 := by unfold sizeOfKind; repeat (rw [if_neg (by omega)])
      simp [longF, e1, e2]
theorem longF_12 {g : Int} (h : 0 < g) (h2 : g ≤ 64) : longF 12 g = g := by simp [longF, mayF, h, h2]
theorem longF_12n {g : Int} (h : ¬ (0 < g ∧ g ≤ 64)) : longF 12 g = 0 := by
  have : mayF 12 g = false := by simp [mayF]; omega
  simp [longF, this]
set_option maxHeartbeats 1000000 in
theorem klong_any (nm : ByteArray) (k g : Int) (w : World) :
    Calls Tryz.prog 101 #[.agg #[.string nm, .int .i64 k, .int .i64 g]] w fun e w' => e = .returned (.int .i64 (longF k g)) ∧ Below w.heap.size w w' := by
  by_cases h12 : k = 12
  · subst h12
    by_cases h0 : 0 < g
    · have b0 : decide (0 < g) = true := by simpa using h0
      by_cases h1 : g ≤ 64
      · have b1 : decide (g ≤ 64) = true := by simpa using h1
        rw [longF_12 h0 h1]
        go_enter Tryz.func101, Tryz.ntmps101
        go_wp2_with fail
        go_ret
        exact ⟨rfl, B1 _ _⟩
      · have b1 : decide (g ≤ 64) = false := by simpa using h1
        have b2 : (g != 0) = true := by simp; omega
        rw [longF_12n (by omega)]
        go_enter Tryz.func101, Tryz.ntmps101
        go_wp2_with fail
        go_ret
        exact ⟨rfl, B1 _ _⟩
    · have b0 : decide (0 < g) = false := by simpa using h0
      rw [longF_12n (by omega)]
      by_cases hg : g = 0
      · subst hg
        go_enter Tryz.func101, Tryz.ntmps101
        go_wp2_with fail
        go_at_call 137
        refine (size_any _ _).mono ?_
        rintro e w1 ⟨rfl, rfl⟩
        go_wp2_with fail
        go_ret
        exact ⟨rfl, B1 _ _⟩
      · have b2 : (g != 0) = true := by simpa using hg
        go_enter Tryz.func101, Tryz.ntmps101
        go_wp2_with fail
        go_ret
        exact ⟨rfl, B1 _ _⟩
  · have b12 : (k == 12) = false := by simpa using h12
    by_cases hg : g = 0
    · subst hg
      rw [longF_0]
      go_enter Tryz.func101, Tryz.ntmps101
      go_wp2_with fail
      go_at_call 137
      refine (size_any _ _).mono ?_
      rintro e w1 ⟨rfl, rfl⟩
      go_wp2_with fail
      go_ret
      exact ⟨rfl, B1 _ _⟩
    · have b2 : (g != 0) = true := by simpa using hg
      rw [longF_g h12 hg]
      go_enter Tryz.func101, Tryz.ntmps101
      go_wp2_with fail
      go_ret
      exact ⟨rfl, B1 _ _⟩
def rbB (n k : Int) : Bool := if k = 9 then decide (n ≤ 1) else fits n (sizeOfKind k) (amB 5 8 k)
set_option maxHeartbeats 1000000 in
theorem rightBits_any (n k : Int) (w : World) (hn : U64 n) :
    Calls Tryz.prog 148 #[.int .u64 n, .int .i64 k] w fun e w' => e = .returned (.bool (rbB n k)) ∧ Below w.heap.size w w' := by
  by_cases h9 : k = 9
  · subst h9
    go_enter Tryz.func148, Tryz.ntmps148
    go_wp2_with fail
    go_ret
    exact ⟨ret_bool (by simp [rbB]), B0 _⟩
  · have b9 : (k == 9) = false := by simpa using h9
    go_enter Tryz.func148, Tryz.ntmps148
    go_wp2_with fail
    go_at_call 162
    refine (among_any _ _ _).mono ?_
    rintro e w1 ⟨rfl, rfl⟩
    go_wp2_with fail
    go_at_call 137
    refine (size_any _ _).mono ?_
    rintro e w1 ⟨rfl, rfl⟩
    go_wp2_with fail
    go_at_call 188
    refine (among1_any _ 5 8 _ _ _ (by simp) (by simp)).mono ?_
    rintro e w1 ⟨rfl, rfl⟩
    go_wp2_with fail
    go_at_call 119
    refine (fits_any _ _ _ _ hn).mono ?_
    rintro e w1 ⟨rfl, hb⟩
    go_wp2_with fail
    go_ret
    exact ⟨ret_bool (by simp [rbB, h9]), Bt (Ba (B1 _ _) _) hb⟩
theorem long_zero {k g : Int} (h : mayF k g = false) : longF k g = 0 := by simp [longF, h]
theorem long_may {k g : Int} (h : mayF k g = true) : longF k g ≠ 0 := by
  by_cases h12 : k = 12
  · subst h12; have := may12 h; simp [longF, h]; omega
  · have hk := (may_cases h h12).2
    rw [show longF k g = sizeOfKind k by simp [longF, h, h12]]
    rcases hk with rfl | rfl | rfl | rfl | rfl | rfl | rfl | rfl | rfl | rfl | rfl <;> decide
theorem rbB_right {n k g : Int} (hn : U64 n) (h : mayF k g = true) (h12 : k ≠ 12) : rightF k n 0 k g = rbB n k := by
  obtain ⟨rfl, hk⟩ := may_cases h h12
  have h8 := sgn8 n hn
  have hlt := hn.2
  rcases hk with rfl | rfl | rfl | rfl | rfl | rfl | rfl | rfl | rfl | rfl | rfl
  all_goals first
    | (rw [rightF_lo h (by decide), longF_0]; rfl)
    | (rw [rightF_9 h, Bool.eq_iff_iff]; simp [rbB]; omega)
    | (rw [rightF_hi h (by decide) (by decide)]; simp [rbB, fits, show sizeOfKind 10 = 8 by decide, show sizeOfKind 11 = 8 by decide, show isW 8 = true by decide, show amB 5 8 10 = false by decide, show amB 5 8 11 = false by decide]; exact hlt)
set_option maxHeartbeats 2000000 in
theorem kright_any (vk n : Int) (t nm : ByteArray) (k g : Int) (w : World) (hn : U64 n) :
    Calls Tryz.prog 122 #[.agg #[.int .i64 vk, .int .u64 n, .string t], .agg #[.string nm, .int .i64 k, .int .i64 g]] w fun e w' => e = .returned (.bool (rightF vk n t.size k g)) ∧ Below w.heap.size w w' := by
  by_cases hm : mayF k g = true
  · have hl0 := long_may hm
    obtain ⟨L, hL⟩ : ∃ L, L = longF k g := ⟨_, rfl⟩
    have bl : (L == 0) = false := by rw [hL]; simpa using hl0
    by_cases hk : vk = k
    · subst hk
      by_cases h12 : vk = 12
      · subst h12
        have hLg : L = g := by rw [hL]; simp [longF, hm]
        rw [rightF_12 hm]
        by_cases h0 : n = 0
        · subst h0
          go_enter Tryz.func122, Tryz.ntmps122
          go_wp2_with fail
          go_at_call 101
          refine (klong_any _ _ _ _).mono ?_
          rintro e w1 ⟨rfl, hb1⟩
          rw [← hL, hLg]
          rw [hLg] at bl
          clear hL hLg hl0
          obtain ⟨c0, c1, c2⟩ := ((fb_new2 w _ nm 12 g).on hb1).cells
          obtain ⟨d0, d1, d2⟩ := (((vb_new w 12 0 t).alloc _).on hb1).cells
          go_wp2_with fail
          go_ret
          exact ⟨ret_bool (by simp; rfl), Bt (Ba (B1 _ _) _) hb1⟩
        · have b0 : (n == 0) = false := by simpa using h0
          go_enter Tryz.func122, Tryz.ntmps122
          go_wp2_with fail
          go_at_call 101
          refine (klong_any _ _ _ _).mono ?_
          rintro e w1 ⟨rfl, hb1⟩
          rw [← hL, hLg]
          rw [hLg] at bl
          clear hL hLg hl0
          obtain ⟨c0, c1, c2⟩ := ((fb_new2 w _ nm 12 g).on hb1).cells
          obtain ⟨d0, d1, d2⟩ := (((vb_new w 12 n t).alloc _).on hb1).cells
          go_wp2_with fail
          go_ret
          exact ⟨ret_bool (by simp [h0]), Bt (Ba (B1 _ _) _) hb1⟩
      · have b12 : (vk == 12) = false := by simpa using h12
        by_cases ht : t.size = 0
        · have htl := str_none ht
          rw [ht, rbB_right hn hm h12]
          go_enter Tryz.func122, Tryz.ntmps122
          go_wp2_with fail
          go_at_call 101
          refine (klong_any _ _ _ _).mono ?_
          rintro e w1 ⟨rfl, hb1⟩
          rw [← hL]
          clear hL hl0
          obtain ⟨c0, c1, c2⟩ := ((fb_new2 w _ nm vk g).on hb1).cells
          obtain ⟨d0, d1, d2⟩ := (((vb_new w vk n t).alloc _).on hb1).cells
          go_wp2_with fail
          go_at_call 148
          refine (rightBits_any _ _ _ hn).mono ?_
          rintro e w2 ⟨rfl, hb2⟩
          go_wp2_with fail
          go_ret
          exact ⟨rfl, Bt (Bt (Ba (B1 _ _) _) hb1) hb2⟩
        · rw [rightF_no3 h12 ht]
          have htl := str_some ht
          go_enter Tryz.func122, Tryz.ntmps122
          go_wp2_with fail
          go_at_call 101
          refine (klong_any _ _ _ _).mono ?_
          rintro e w1 ⟨rfl, hb1⟩
          rw [← hL]
          clear hL hl0
          obtain ⟨c0, c1, c2⟩ := ((fb_new2 w _ nm vk g).on hb1).cells
          obtain ⟨d0, d1, d2⟩ := (((vb_new w vk n t).alloc _).on hb1).cells
          go_wp2_with fail
          go_ret
          exact ⟨rfl, Bt (Ba (B1 _ _) _) hb1⟩
    · rw [rightF_no2 hk]
      have bk : (vk != k) = true := by simpa using hk
      go_enter Tryz.func122, Tryz.ntmps122
      go_wp2_with fail
      go_at_call 101
      refine (klong_any _ _ _ _).mono ?_
      rintro e w1 ⟨rfl, hb1⟩
      rw [← hL]
      clear hL hl0
      obtain ⟨c0, c1, c2⟩ := ((fb_new2 w _ nm k g).on hb1).cells
      obtain ⟨d0, d1, d2⟩ := (((vb_new w vk n t).alloc _).on hb1).cells
      go_wp2_with fail
      go_ret
      exact ⟨rfl, Bt (Ba (B1 _ _) _) hb1⟩
  · have hm : mayF k g = false := by simpa using hm
    rw [rightF_no1 hm]
    go_enter Tryz.func122, Tryz.ntmps122
    go_wp2_with fail
    go_at_call 101
    refine (klong_any _ _ _ _).mono ?_
    rintro e w1 ⟨rfl, hb1⟩
    rw [long_zero hm]
    go_wp2_with fail
    go_ret
    exact ⟨rfl, Bt (Ba (B1 _ _) _) hb1⟩
end Go.Proofs.YtaegencmnmjgbaaGreat

namespace Go.Proofs.YtaegencmnmjgbaaGreat
open Go.RowKit
set_option linter.unusedVariables false
set_option linter.unusedSimpArgs false
def truncB (b : Nat) : Nat := FloatKind.f64.encode ((FloatKind.f64.decode b).integral .zero)
theorem integral_num (s : Bool) (m : Nat) (i : Int) : (Ieee.Datum.number s m i).integral .zero = .number s (m * 2 ^ i.toNat / 2 ^ (-i).toNat) 0 := by
  unfold Ieee.Datum.integral
  simp only [cut_zero, Nat.shiftLeft_eq]
theorem enc_num (s : Bool) (m : Nat) : FloatKind.f64.encode (.number s m 0) = Ieee.double.nearest s m 0 := rfl
theorem near_any (s : Bool) {m : Nat} (hm : m < 18446744073709551616) : Ieee.double.nearest s m 0 = floatW m s := by
  by_cases h0 : m = 0
  · subst h0; cases s <;> decide
  · exact near_eq s hm (fun h => absurd h h0)
theorem whole_w (s : Bool) {m : Nat} (hm : m ≤ 9007199254740992) : wholeN (floatW m s) = if s then -(m : Int) else (m : Int) := by
  by_cases h0 : m = 0
  · subst h0; cases s <;> decide
  · exact whole_float hm s (fun h => absurd h h0)
theorem fE_w (s : Bool) {m : Nat} (hm : m ≤ 9007199254740992) : fE (floatW m s) < 1086 := by
  by_cases h0 : m = 0
  · subst h0; cases s <;> decide
  by_cases h53 : m = 9007199254740992
  · subst h53; cases s <;> decide
  have hl : m.log2 < 53 := log2_lt h0 (show m < 2 ^ 53 by omega)
  have hb := low_bounds h0 (by omega)
  have hf := floatN_fields h0 (by omega)
  unfold fE floatW; split <;> omega
theorem trunc_small {s : Bool} {m : Nat} {w : Int} (hm : m ≤ 9007199254740992) (hw : w = if s then -(m : Int) else (m : Int)) : (FloatKind.f64.decode (Ieee.double.nearest s m 0)).toInt .zero = some w := by
  rw [near_any s (by omega), toInt_whole (floatW_lt (by omega) s) (fE_w s hm), whole_w s hm, hw]
theorem trunc_great {b : Nat} (hb : b < 18446744073709551616) (h : 1075 ≤ fE b) (h2 : fE b < 1086) : Ieee.double.nearest (fS b) ((4503599627370496 + fF b) * 2 ^ (fE b - 1075)) 0 = b := by
  have hf := fF_lt b
  obtain ⟨k, hk⟩ : ∃ k, k = fE b - 1075 := ⟨_, rfl⟩
  obtain ⟨m, hm⟩ : ∃ m, m = 4503599627370496 + fF b := ⟨_, rfl⟩
  rw [← hk, ← hm]
  have hk10 : k ≤ 10 := by omega
  have hp : 0 < 2 ^ k := Nat.two_pow_pos _
  have hp2 : 2 ^ k ≤ 2 ^ 10 := Nat.pow_le_pow_right (by decide) hk10
  have hM : m * 2 ^ k ≤ m * 2 ^ 10 := Nat.mul_le_mul_left _ hp2
  have e10 : (2 : Nat) ^ 10 = 1024 := by decide
  have hMlt : m * 2 ^ k < 18446744073709551616 := by rw [e10] at hM; omega
  have hM0 : m * 2 ^ k ≠ 0 := Nat.mul_ne_zero (by omega) (by omega)
  have hlog : (m * 2 ^ k).log2 = 52 + k := by
    refine log2_of ?_ ?_
    · rw [Nat.pow_add]; exact Nat.mul_le_mul_right _ (by omega)
    · rw [show 52 + k + 1 = 53 + k by omega, Nat.pow_add]; exact Nat.mul_lt_mul_of_pos_right (by omega) hp
  have hN : floatN (m * 2 ^ k) = (1022 + (52 + k)) * 4503599627370496 + m := by
    unfold floatN
    rw [if_neg hM0, hlog]
    by_cases hk0 : k = 0
    · subst hk0; rw [if_pos (by omega)]; simp
    · rw [if_neg (by omega), show 52 + k - 52 = k by omega, Nat.mul_div_cancel _ hp, Nat.mul_mod_left]
      simp
  rw [near_any _ hMlt]
  unfold floatW
  rw [hN]
  have e := rung_eq b hb
  have hs : fS b = decide (9223372036854775808 ≤ b) := rfl
  rw [hs]
  by_cases c : 9223372036854775808 ≤ b
  · rw [if_pos (by simpa using c)]; omega
  · rw [if_neg (by simpa using c)]; omega
theorem dec_eq (b : Nat) : FloatKind.f64.decode b = Ieee.double.read b := rfl
theorem trunc_whole {b : Nat} (hb : b < 18446744073709551616) (h : fE b < 1086) : (FloatKind.f64.decode (truncB b)).toInt .zero = some (wholeN b) := by
  have hf := fF_lt b
  unfold truncB
  rw [dec_eq b]
  by_cases h0 : fE b = 0
  · rw [read_sub hb h0, integral_num, enc_num]
    have e : fF b * 2 ^ (-1074 : Int).toNat / 2 ^ (-(-1074) : Int).toNat = 0 := by
      have key : ∀ d : Nat, 53 ≤ d → fF b / 2 ^ d = 0 := fun d hd => Nat.div_eq_of_lt (Nat.lt_of_lt_of_le (show fF b < 2 ^ 53 by omega) (Nat.pow_le_pow_right (by decide) hd))
      rw [show (-1074 : Int).toNat = 0 from rfl, Nat.pow_zero, Nat.mul_one]
      exact key _ (by omega)
    rw [e]
    exact trunc_small (by decide) (by rw [wholeN_low (by omega)]; cases fS b <;> rfl)
  · rw [read_norm hb (by omega) (by omega), integral_num, enc_num]
    by_cases h1 : fE b < 1023
    · have e : (4503599627370496 + fF b) * 2 ^ ((fE b : Int) - 1075).toNat / 2 ^ (-((fE b : Int) - 1075)).toNat = 0 := by
        rw [show ((fE b : Int) - 1075).toNat = 0 by omega, show (-((fE b : Int) - 1075)).toNat = 1075 - fE b by omega, Nat.pow_zero, Nat.mul_one]
        exact Nat.div_eq_of_lt (Nat.lt_of_lt_of_le (show 4503599627370496 + fF b < 2 ^ 53 by omega) (Nat.pow_le_pow_right (by decide) (by omega)))
      rw [e]
      exact trunc_small (by decide) (by rw [wholeN_low h1]; cases fS b <;> rfl)
    · by_cases h2 : 1075 ≤ fE b
      · rw [show ((fE b : Int) - 1075).toNat = fE b - 1075 by omega, show (-((fE b : Int) - 1075)).toNat = 0 by omega, Nat.pow_zero, Nat.div_one, trunc_great hb h2 h]
        exact toInt_whole hb h
      · have e : (4503599627370496 + fF b) * 2 ^ ((fE b : Int) - 1075).toNat / 2 ^ (-((fE b : Int) - 1075)).toNat = fM b := by
          unfold fM
          rw [if_neg h2, show ((fE b : Int) - 1075).toNat = 0 by omega, show (-((fE b : Int) - 1075)).toNat = 1075 - fE b by omega, Nat.pow_zero, Nat.mul_one]
        rw [e]
        refine trunc_small ?_ (wholeN_mid h1 h)
        unfold fM; rw [if_neg h2]
        have := Nat.div_le_self (4503599627370496 + fF b) (2 ^ (1075 - fE b))
        omega
theorem trunc_least : truncB 14114281232179134464 = 14114281232179134464 ∧ (FloatKind.f64.decode 14114281232179134464).toInt .zero = some (-9223372036854775808) := by decide
theorem run_trunc {b : Nat} (hb : b < 18446744073709551616) (h : ¬ (fE b = 2047 ∧ fF b ≠ 0)) (w : World) : (callFunc 196 #[.float .f64 b]).run Tryz.prog w = .ok (.value (.float .f64 (truncB b))) w := by
  rw [run_callFunc_extern Tryz.func196 (e := Extern.MathFloor.toIntegral "math.archTrunc" .zero) (by kernel_rfl) (by kernel_rfl) (by kernel_rfl) (by kernel_rfl)]
  have hlt := fE_lt b
  have hd : ∀ s t, FloatKind.f64.decode b ≠ .nan s t := by
    intro s t
    rw [dec_eq]
    by_cases h0 : fE b = 0
    · rw [read_sub hb h0]; simp
    by_cases h1 : fE b < 2047
    · rw [read_norm hb (by omega) h1]; simp
    · rw [read_inf hb (by omega) (by omega)]; simp
  have e : ∃ X : Bool → Nat → Sem Value, Extern.MathFloor.toIntegral "math.archTrunc" .zero #[.float .f64 b] = (match FloatKind.f64.decode b with | .nan s t => X s t | d => pure (.float .f64 (FloatKind.f64.encode (d.integral .zero)))) := ⟨_, rfl⟩
  obtain ⟨X, e⟩ := e
  rw [e]
  unfold truncB
  cases hx : FloatKind.f64.decode b with
  | nan s t => exact absurd hx (hd s t)
  | infinity s => rfl
  | number s m i => rfl
theorem run_frombits (n : Int) (w : World) : (callFunc 189 #[.int .u64 n]).run Tryz.prog w = .ok (.value (.float .f64 n.toNat)) w := by
  rw [run_callFunc_extern Tryz.func189 (e := Extern.MathFloatBits.float64frombits) (by kernel_rfl) (by kernel_rfl) (by kernel_rfl) (by kernel_rfl)]
  rfl
theorem fneq (b : Nat) (hb : b < 18446744073709551616) : (FloatKind.f64.format.order b b != some Ordering.eq) = decide (fE b = 2047 ∧ fF b ≠ 0) := by
  have h := order_self hb
  by_cases c : fE b = 2047 ∧ fF b ≠ 0
  · rw [if_pos c] at h; rw [h]; simp [c]
  · rw [if_neg c] at h; rw [h]; simp [c]
theorem fge (b : Nat) (hb : b < 18446744073709551616) (hn : ¬ (fE b = 2047 ∧ fF b ≠ 0)) : (FloatKind.f64.format.order b 4890909195324358656 == some Ordering.gt || FloatKind.f64.format.order b 4890909195324358656 == some Ordering.eq) = (!fS b && decide (1086 ≤ fE b)) := by
  rw [ord_hi hb hn]
  cases hs : fS b
  · simp only [Bool.false_eq_true, if_false]
    by_cases h1 : fE b < 1086
    · have h1' : ¬ 1086 ≤ fE b := by omega
      simp [h1, h1']
    · by_cases h2 : fE b = 1086 ∧ fF b = 0
      · simp [h1, h2]
      · have h1' : 1086 ≤ fE b := by omega
        simp [h1, h1', h2]
  · simp
theorem flt (b : Nat) (hb : b < 18446744073709551616) (hn : ¬ (fE b = 2047 ∧ fF b ≠ 0)) : (FloatKind.f64.format.order b 14114281232179134464 == some Ordering.lt) = (fS b && decide (1086 ≤ fE b) && !decide (fE b = 1086 ∧ fF b = 0)) := by
  rw [ord_lo hb hn]
  cases hs : fS b
  · simp
  · simp only [if_true]
    by_cases h1 : fE b < 1086
    · have h1' : ¬ 1086 ≤ fE b := by omega
      simp [h1, h1']
    · by_cases h2 : fE b = 1086 ∧ fF b = 0
      · simp [h1, h2]
      · have h1' : 1086 ≤ fE b := by omega
        simp [h1, h1', h2]
theorem run_toint {b : Nat} {n : Int} (h : (FloatKind.f64.decode b).toInt .zero = some n) (h1 : -9223372036854775808 ≤ n) (h2 : n ≤ 9223372036854775807) (w : World) : (convert 238 2 (.float .f64 b)).run Tryz.prog w = .ok (.int .i64 n) w := by
  have e1 : IntKind.i64.min ≤ n ∧ n ≤ IntKind.i64.max := ⟨h1, h2⟩
  simp [convert, run_underlying Tryz.underlying238, run_underlying Tryz.underlying2, go_sem, Conv.floatToInt, h, e1]
  intro hc; omega
theorem isNaN_any (b : Nat) (w : World) (hb : b < 18446744073709551616) :
    Calls Tryz.prog 190 #[.float .f64 b] w fun e w' => e = .returned (.bool (decide (fE b = 2047 ∧ fF b ≠ 0))) ∧ w = w' := by
  have h := fneq b hb
  obtain ⟨c, hc⟩ : ∃ c : Bool, decide (fE b = 2047 ∧ fF b ≠ 0) = c := ⟨_, rfl⟩
  rw [hc] at h ⊢
  clear hc
  go_enter Tryz.func190, Tryz.ntmps190
  go_wp2_with fail
  go_ret
  exact ⟨rfl, rfl⟩
theorem trunc_any (b : Nat) (w : World) (hb : b < 18446744073709551616) (hn : ¬ (fE b = 2047 ∧ fF b ≠ 0)) :
    Calls Tryz.prog 191 #[.float .f64 b] w fun e w' => e = .returned (.float .f64 (truncB b)) ∧ w = w' := by
  have h := run_trunc hb hn
  obtain ⟨c, hc⟩ : ∃ c, truncB b = c := ⟨_, rfl⟩
  rw [hc] at h ⊢
  clear hc hn
  go_enter Tryz.func191, Tryz.ntmps191
  go_wp2_with fail
  go_ret
  exact ⟨rfl, rfl⟩
set_option maxHeartbeats 1000000 in
theorem kwhole_any (n : Int) (w : World) (hn : U64 n) :
    Calls Tryz.prog 168 #[.int .u64 n] w fun e w' => e = .returned (.int .i64 (wholeN n.toNat)) ∧ Below w.heap.size w w' := by
  have hfb := run_frombits n
  have hb : n.toNat < 18446744073709551616 := by have := hn.1; have h2 := hn.2; rw [pw8] at h2; omega
  obtain ⟨b, hbb⟩ : ∃ b, b = n.toNat := ⟨_, rfl⟩
  rw [← hbb] at hfb hb ⊢
  clear hbb
  have HB : Hid (b < 18446744073709551616) := hb
  by_cases hnan : fE b = 2047 ∧ fF b ≠ 0
  · have hw : Hid (wholeN b = 0) := wholeN_nan hnan.1 hnan.2
    have hd : Hid (decide (fE b = 2047 ∧ fF b ≠ 0) = true) := by show _ = _; simpa using hnan
    clear hnan hb
    go_enter Tryz.func168, Tryz.ntmps168
    go_wp2_with fail
    go_at_call 190
    refine (isNaN_any _ _ HB.out).mono ?_
    rintro e w1 ⟨rfl, rfl⟩
    rw [hd.out]
    go_wp2_with fail
    go_ret
    exact ⟨by rw [hw.out]; rfl, B0 _⟩
  have HN : Hid (¬ (fE b = 2047 ∧ fF b ≠ 0)) := hnan
  have hd : Hid (decide (fE b = 2047 ∧ fF b ≠ 0) = false) := by show _ = _; simpa using hnan
  have hge := fge b hb hnan
  have hlt := flt b hb hnan
  by_cases h1 : 1086 ≤ fE b
  · have hw := wholeN_big h1 hnan
    have e1 : decide (1086 ≤ fE b) = true := by simpa using h1
    cases hs : fS b with
    | false =>
      rw [hs, e1] at hge
      simp only [Bool.not_false, Bool.and_true] at hge
      rw [hs] at hw
      have HW : Hid (wholeN b = 9223372036854775807) := hw
      clear hw hs e1 h1 hlt hnan hb
      go_enter Tryz.func168, Tryz.ntmps168
      go_wp2_with fail
      go_at_call 190
      refine (isNaN_any _ _ HB.out).mono ?_
      rintro e w1 ⟨rfl, rfl⟩
      rw [hd.out]
      go_wp2_with fail
      go_ret
      exact ⟨by rw [HW.out]; rfl, B0 _⟩
    | true =>
      rw [hs, e1] at hge hlt
      simp only [Bool.not_true, Bool.false_and] at hge
      rw [hs] at hw
      have HW : Hid (wholeN b = -9223372036854775808) := hw
      by_cases h2 : fE b = 1086 ∧ fF b = 0
      · have hbe : b = 14114281232179134464 := by
          have e := rung_eq b hb
          have c : 9223372036854775808 ≤ b := by simpa [fS] using hs
          omega
        have e2 : decide (fE b = 1086 ∧ fF b = 0) = true := by simpa using h2
        rw [e2] at hlt
        simp only [Bool.not_true, Bool.and_false, Bool.not_false, Bool.and_true] at hlt
        have hci := run_toint (b := truncB b) (n := -9223372036854775808) (by rw [hbe, trunc_least.1]; exact trunc_least.2) (by decide) (by decide)
        obtain ⟨t, ht⟩ : ∃ t, truncB b = t := ⟨_, rfl⟩
        rw [ht] at hci
        have HT := hid ht
        clear hw hs e1 e2 h1 h2 hnan hb hbe ht
        go_enter Tryz.func168, Tryz.ntmps168
        go_wp2_with fail
        go_at_call 190
        refine (isNaN_any _ _ HB.out).mono ?_
        rintro e w1 ⟨rfl, rfl⟩
        rw [hd.out]
        go_wp2_with fail
        go_at_call 191
        refine (trunc_any _ _ HB.out HN.out).mono ?_
        rintro e w1 ⟨rfl, rfl⟩
        rw [HT.out]
        go_wp2_with fail
        go_ret
        exact ⟨by rw [HW.out]; rfl, B0 _⟩
      · have e2 : decide (fE b = 1086 ∧ fF b = 0) = false := by simpa using h2
        rw [e2] at hlt
        simp only [Bool.not_true, Bool.and_false, Bool.not_false, Bool.and_true] at hlt
        clear hw hs e1 e2 h1 h2 hnan hb
        go_enter Tryz.func168, Tryz.ntmps168
        go_wp2_with fail
        go_at_call 190
        refine (isNaN_any _ _ HB.out).mono ?_
        rintro e w1 ⟨rfl, rfl⟩
        rw [hd.out]
        go_wp2_with fail
        go_ret
        exact ⟨by rw [HW.out]; rfl, B0 _⟩
  · have e1 : decide (1086 ≤ fE b) = false := by simpa using h1
    rw [e1] at hge hlt
    simp only [Bool.and_false, Bool.false_and] at hge hlt
    have hi := wholeN_i64 b
    have hci := run_toint (b := truncB b) (trunc_whole hb (by omega)) hi.1 hi.2
    obtain ⟨t, ht⟩ : ∃ t, truncB b = t := ⟨_, rfl⟩
    rw [ht] at hci
    have HT := hid ht
    clear hi e1 h1 hnan hb ht
    go_enter Tryz.func168, Tryz.ntmps168
    go_wp2_with fail
    go_at_call 190
    refine (isNaN_any _ _ HB.out).mono ?_
    rintro e w1 ⟨rfl, rfl⟩
    rw [hd.out]
    go_wp2_with fail
    go_at_call 191
    refine (trunc_any _ _ HB.out HN.out).mono ?_
    rintro e w1 ⟨rfl, rfl⟩
    rw [HT.out]
    go_wp2_with fail
    go_ret
    exact ⟨rfl, B0 _⟩
end Go.Proofs.YtaegencmnmjgbaaGreat
