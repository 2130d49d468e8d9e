/-
  Contracts of the document's own answers for layer 2: xor, Low, More, Seal, Open.
-/
import Derived.Test.YtpgidhofgccdgaaCrcB
import Derived.Test.YtpgidhofgccdgaaRefB
namespace Go.Proofs.Ytpgidhofgccdgaa
open Go.RowKit
set_option linter.unusedVariables false

/-- The k lowest bits of two numbers, combined. -/
theorem xor_mod_succ (a b k : Nat) : (a ^^^ b) % 2 ^ (k + 1) = (a ^^^ b) % 2 ^ k + 2 ^ k * ((a / 2 ^ k + b / 2 ^ k) % 2) := by
  have h1 : (a ^^^ b) / 2 ^ k % 2 = (a / 2 ^ k + b / 2 ^ k) % 2 := by
    have h2 : ((a ^^^ b) / 2 ^ k) = (a / 2 ^ k) ^^^ (b / 2 ^ k) := by
      have := Nat.shiftRight_xor_distrib (a := a) (b := b) (i := k)
      simpa [Nat.shiftRight_eq_div_pow] using this
    rw [h2]
    generalize a / 2 ^ k = x
    generalize b / 2 ^ k = y
    have := Nat.xor_mod_two_pow (a := x) (b := y) (n := 1)
    simp only [Nat.pow_one] at this
    rw [this]
    have hx : x % 2 = 0 ∨ x % 2 = 1 := by omega
    have hy : y % 2 = 0 ∨ y % 2 = 1 := by omega
    rcases hx with hx | hx <;> rcases hy with hy | hy <;> rw [hx, hy] <;> simp <;> omega
  rw [Nat.pow_succ, Nat.mod_mul, h1]

set_option maxHeartbeats 1000000 in
theorem rxor_any (a b : Nat) (w : World) (ha : a < 65536) (hb : b < 65536) :
    Calls Try.prog 20 #[.int .i64 a, .int .i64 b] w fun e w' => e = .returned (.int .i64 ((a ^^^ b : Nat) : Int)) ∧ w = w' := by
  go_enter Try.func20, Try.ntmps20
  go_wp2
  go_loop [0, 1, 5, 6, 7] (fun va vb out bit i => ∃ k p q x y : Nat, k ≤ 16 ∧ i = .int .i64 k ∧ Hid (p = a / 2 ^ k) ∧ Hid (q = b / 2 ^ k) ∧ Hid (x = (a ^^^ b) % 2 ^ k) ∧ Hid (y = 2 ^ k) ∧ va = .int .i64 p ∧ vb = .int .i64 q ∧ out = .int .i64 x ∧ bit = .int .i64 y) (fun _ _ _ _ i => 16 - (intOf i).toNat)
  case atStart => exact ⟨0, a, b, 0, 1, by omega, rfl, show _ = _ by simp, show _ = _ by simp, show _ = _ by simp [Nat.mod_one], show _ = _ by simp, rfl, rfl, rfl, rfl⟩
  case round =>
    obtain ⟨k, p, q, x, y, hk, rfl, HP, HQ, HX, HY, rfl, rfl, rfl, rfl⟩ := hrel
    have hp : p < 65536 := by have := HP.out; have := Nat.div_le_self a (2 ^ k); omega
    have hq : q < 65536 := by have := HQ.out; have := Nat.div_le_self b (2 ^ k); omega
    have hy : y ≤ 65536 := by
      have := HY.out; have h2 := Nat.pow_le_pow_right (show 0 < 2 by omega) hk; omega
    have hx : x < 65536 := by
      have h1 := HX.out; have h2 := Nat.mod_le (a ^^^ b) (2 ^ k)
      have h3 : a ^^^ b < 2 ^ 16 := Nat.xor_lt_two_pow (by omega) (by omega)
      omega
    by_cases hlt : k < 16
    · have HP1 : Hid (p / 2 = a / 2 ^ (k + 1)) := show _ = _ by rw [HP.out, Nat.pow_succ, Nat.div_div_eq_div_mul]
      have HQ1 : Hid (q / 2 = b / 2 ^ (k + 1)) := show _ = _ by rw [HQ.out, Nat.pow_succ, Nat.div_div_eq_div_mul]
      have HY1 : Hid (y * 2 = 2 ^ (k + 1)) := show _ = _ by rw [HY.out, Nat.pow_succ]
      have HX1 : Hid ((a ^^^ b) % 2 ^ (k + 1) = x + y * ((p + q) % 2)) := show _ = _ by rw [xor_mod_succ, ← HX.out, ← HP.out, ← HQ.out, ← HY.out]
      by_cases hpq : p % 2 = q % 2
      · have h1 : ((p : Int) % 2 != (q : Int) % 2) = false := by simp; omega
        have HZ : Hid (x = (a ^^^ b) % 2 ^ (k + 1)) := show _ = _ by rw [HX1.out, show (p + q) % 2 = 0 by omega]; simp
        have HPQ := hid hpq; clear hpq
        go_wp2
        go_round
        case rel => exact ⟨k + 1, p / 2, q / 2, x, y * 2, by omega, by go_num, HP1, HQ1, HZ, HY1, by go_num, by go_num, rfl, by go_num⟩
        case measure => simp [intOf]; omega
      · have h1 : ((p : Int) % 2 != (q : Int) % 2) = true := by simp; omega
        have HZ : Hid (x + y = (a ^^^ b) % 2 ^ (k + 1)) := show _ = _ by rw [HX1.out, show (p + q) % 2 = 1 by omega]; simp
        have HPQ := hid hpq; clear hpq
        go_wp2
        go_round
        case rel => exact ⟨k + 1, p / 2, q / 2, x + y, y * 2, by omega, by go_num, HP1, HQ1, HZ, HY1, by go_num, by go_num, by go_num, by go_num⟩
        case measure => simp [intOf]; omega
    · obtain rfl : k = 16 := by omega
      have HZ : Hid (x = a ^^^ b) := show _ = _ by
        rw [HX.out]; exact Nat.mod_eq_of_lt (Nat.xor_lt_two_pow (by omega) (by omega))
      go_wp2
      go_ret
      exact ⟨by rw [← HZ.out]; rfl, rfl⟩

theorem rxor_int (a b : Int) (w : World) (ha0 : 0 ≤ a) (ha : a < 65536) (hb0 : 0 ≤ b) (hb : b < 65536) :
    Calls Try.prog 20 #[.int .i64 a, .int .i64 b] w fun e w' => e = .returned (.int .i64 ((a.toNat ^^^ b.toNat : Nat) : Int)) ∧ w = w' := by
  obtain ⟨a, rfl⟩ := Int.eq_ofNat_of_zero_le ha0
  obtain ⟨b, rfl⟩ := Int.eq_ofNat_of_zero_le hb0
  exact rxor_any a b w (by omega) (by omega)

set_option maxHeartbeats 1000000 in
theorem rlow_any (n : Int) (w : World) :
    Calls Try.prog 19 #[.int .i64 n] w fun e w' => e = .returned (.int .i64 (lowB n).toNat) ∧ w = w' := by
  have H := hid (lowB_toNat n)
  by_cases h0 : 0 ≤ n
  · go_enter Try.func19, Try.ntmps19
    go_wp2
    go_ret
    exact ⟨ret_int H.out.symm, rfl⟩
  · obtain ⟨r, hr⟩ : ∃ r, n.tmod 65536 = r := ⟨_, rfl⟩
    have hr2 : r = -((-n) % 65536) := by
      rw [← hr, ← Int.tmod_eq_emod_of_nonneg (by omega : 0 ≤ -n), Int.neg_tmod, Int.neg_neg]
    have h1 : -65536 < r := by omega
    have h2 : r ≤ 0 := by omega
    by_cases hz : r = 0
    · have HE : Hid (((lowB n).toNat : Int) = 0) := show _ = _ by rw [H.out]; omega
      rw [hz] at hr
      clear hz hr2 h1 h2
      go_enter Try.func19, Try.ntmps19
      go_wp2
      go_ret
      exact ⟨ret_int HE.out.symm, rfl⟩
    · have HE : Hid (((lowB n).toNat : Int) = r + 65536) := show _ = _ by rw [H.out]; omega
      have h3 : r < 0 := by omega
      clear hz hr2 h2
      go_enter Try.func19, Try.ntmps19
      go_wp2
      go_ret
      exact ⟨ret_int HE.out.symm, rfl⟩

theorem sh_hi' (x : BitVec 16) (h : 32768 ≤ x.toNat) : ((x.toNat * 2 - 65536) ^^^ 4129) = (shB x).toNat := by
  have hx := x.isLt
  have e : x.toNat * 2 - 65536 = x.toNat * 2 % 65536 := by omega
  rw [e]
  unfold shB
  rw [msb_lt]
  simp [h, Nat.shiftLeft_eq]

set_option maxHeartbeats 1000000 in
theorem rmore_any (s : ByteArray) (l : List UInt8) (n : Int) (w : World) (hs : s = ⟨l.toArray⟩) (hm : l.length ≤ 1000000) :
    Calls Try.prog 12 #[.int .i64 n, .string s] w fun e w' => e = .returned (.int .i64 (crcB (lowB n) l).toNat) ∧ w = w' := by
  subst hs
  go_enter Try.func12, Try.ntmps12
  go_wp2_with fail
  refine (rlow_any n _).mono ?_
  rintro e w1 ⟨rfl, rfl⟩
  obtain ⟨x, hx⟩ : ∃ x, x = lowB n := ⟨_, rfl⟩
  rw [← hx]
  have HXN := hid hx
  clear hx
  obtain ⟨x0, HX0⟩ : ∃ x0 : Int, Hid (x0 = x.toNat) := ⟨_, rfl⟩
  rw [← HX0.out]
  go_wp2_with fail
  go_loop [5, 6] (fun v i => ∃ (k : Nat) (m : Int), k ≤ l.length ∧ 0 ≤ m ∧ m < 65536 ∧ i = .int .i64 k ∧ Hid (m = (crcB x (l.take k)).toNat) ∧ v = .int .i64 m) (fun _ i => l.length - (intOf i).toNat)
  case atStart => exact ⟨0, x0, by omega, by have := HX0.out; omega, by have := HX0.out; have := x.isLt; omega, rfl, HX0, rfl⟩
  case round =>
    obtain ⟨k, m, hk, hm1, hm0, rfl, HM, rfl⟩ := hrel
    by_cases hlt : k < l.length
    · have HST : Hid (crcB x (l.take (k + 1)) = shN 8 (crcB x (l.take k) ^^^ byB l[k])) := by
        show _ = _
        rw [List.take_succ_eq_append_getElem (by omega), crcB_snoc]; rfl
      obtain ⟨c, hc⟩ : ∃ c, l[k] = c := ⟨_, rfl⟩
      rw [hc] at HST
      have hc0 := c.toNat_lt
      have HXB : Hid (m.toNat ^^^ ((c.toNat : Int) * 256).toNat = (crcB x (l.take k) ^^^ byB c).toNat) := show _ = _ by
        rw [BitVec.toNat_xor, byB_toNat, HM.out, Int.toNat_natCast, show ((c.toNat : Int) * 256).toNat = c.toNat * 256 by omega]
      have hck : ∀ h, (ByteArray.mk l.toArray)[k]'h = c := fun h => hc
      have HC := hid hc
      clear hc
      go_wp2_with fail
      refine (rxor_int _ _ _ hm1 hm0 (by omega) (by omega)).mono ?_
      rintro e w2 ⟨rfl, rfl⟩
      rw [HXB.out]
      obtain ⟨z, HZ⟩ : ∃ z, Hid (z = crcB x (l.take k) ^^^ byB c) := ⟨_, rfl⟩
      rw [← HZ.out] at HST ⊢
      obtain ⟨z0, HZ0⟩ : ∃ z0 : Int, Hid (z0 = z.toNat) := ⟨_, rfl⟩
      rw [← HZ0.out]
      clear hck
      go_wp2_with fail
      go_loop [5, 7] (fun v i => ∃ (j : Nat) (p : Int), j ≤ 8 ∧ 0 ≤ p ∧ p < 65536 ∧ i = .int .i64 j ∧ Hid (p = (shN j z).toNat) ∧ v = .int .i64 p) (fun _ i => 8 - (intOf i).toNat)
      case atStart => exact ⟨0, z0, by omega, by have := HZ0.out; omega, by have := HZ0.out; have := z.isLt; omega, rfl, HZ0, rfl⟩
      case round =>
        obtain ⟨j, p, hj, hp1, hp0, rfl, HP, rfl⟩ := hrel
        by_cases hj8 : j < 8
        · have HN : Hid (shN (j + 1) z = shB (shN j z)) := rfl
          by_cases hhi : 32768 ≤ p
          · have HS : Hid ((p * 2 - 65536).toNat ^^^ (4129 : Int).toNat = (shN (j + 1) z).toNat) := show _ = _ by
              have h1 := HP.out
              rw [HN.out, ← sh_hi' (shN j z) (by omega), show (p * 2 - 65536).toNat = (shN j z).toNat * 2 - 65536 by omega]; rfl
            go_wp2_with fail
            refine (rxor_int _ _ _ (by omega) (by omega) (by omega) (by omega)).mono ?_
            rintro e w2 ⟨rfl, rfl⟩
            rw [HS.out]
            obtain ⟨r, HR⟩ : ∃ r : Int, Hid (r = (shN (j + 1) z).toNat) := ⟨_, rfl⟩
            rw [← HR.out]
            go_wp2_with fail
            go_round
            case rel => exact ⟨j + 1, r, by omega, by have := HR.out; omega, by have := HR.out; have := (shN (j + 1) z).isLt; omega, by go_num, HR, rfl⟩
            case measure => simp [intOf]; omega
          · have HS : Hid (p * 2 = (shN (j + 1) z).toNat) := show _ = _ by
              have h1 := HP.out
              have := sh_lo (shN j z) (by omega)
              rw [HN.out]; omega
            go_wp2_with fail
            go_round
            case rel => exact ⟨j + 1, p * 2, by omega, by omega, by omega, by go_num, HS, rfl⟩
            case measure => simp [intOf]; omega
        · obtain rfl : j = 8 := by omega
          rw [← HST.out] at HP
          go_wp2_with fail
          go_round
          case rel => exact ⟨k + 1, p, by omega, hp1, hp0, by go_num, HP, rfl⟩
          case measure => simp [intOf]; omega
    · obtain rfl : k = l.length := by omega
      have HT : Hid (l.take l.length = l) := show _ = _ from List.take_length
      rw [HT.out] at HM
      go_wp2_with fail
      go_ret
      exact ⟨by rw [← HXN.out, ← HM.out]; rfl, rfl⟩

/-- What the document's Seal answers. -/
theorem rput_sum (l : List UInt8) : rputL ((crcB 0#16 l).toNat : Int) 2 = sumL l := by
  unfold rputL sumL; rw [sum_fits]; rfl

set_option maxHeartbeats 1000000 in
theorem rseal_any (l : List UInt8) (w : World) (hm : l.length ≤ 1000000) :
    Calls Try.prog 15 #[.string ⟨l.toArray⟩] w fun e w' => e = .returned (.string ⟨(l ++ sumL l).toArray⟩) ∧ Below w.heap.size w w' := by
  have h0 : lowB 0 = 0#16 := by decide
  have H0 := hid h0; clear h0
  have hx : (crcB 0#16 l).toNat < 65536 := (crcB 0#16 l).isLt
  have HP := hid (rput_sum l)
  have hsl := sumL_length l
  have HSL := hid hsl; clear hsl
  go_enter Try.func15, Try.ntmps15
  go_wp2_with fail
  refine (rmore_any _ l 0 _ rfl hm).mono ?_
  rintro e w1 ⟨rfl, rfl⟩
  rw [H0.out]
  go_wp2_with fail
  refine (rput_any 2 _ _ (sum_U64 _)).mono ?_
  rintro e w2 ⟨rfl, hb⟩
  rw [HP.out]
  have hsl : (sumL l).length ≤ 2 := by have := HSL.out; omega
  obtain ⟨m, hm2⟩ : ∃ m, m = sumL l := ⟨_, rfl⟩
  rw [← hm2] at hsl ⊢
  have HM2 := hid hm2
  clear hm2
  go_wp2_with fail
  go_ret
  exact ⟨by rw [← HM2.out]; simp [ByteArray.mk_append_mk], hb⟩

set_option maxHeartbeats 1000000 in
theorem ropen_any (l : List UInt8) (w : World) (hm : l.length ≤ 1000000) :
    Calls Try.prog 10 #[.string ⟨l.toArray⟩] w fun e w' => e = .returned (.tuple #[.string ⟨(openL l).toArray⟩, .bool (openB l)]) ∧ Below w.heap.size w w' := by
  by_cases h2 : l.length < 2
  · have HO := hid (openB_short h2)
    have h2' : decide (l.length < 2) = true := by simpa using h2
    go_enter Try.func10, Try.ntmps10
    go_wp2_with fail
    go_ret2
    refine ⟨?_, B0 _⟩
    rw [openL, HO.out]; rfl
  · have h2' : decide ((l.length : Int) < 2) = false := by simp; omega
    have h2n : 2 ≤ l.length := by omega
    have HTK : Hid ((ByteArray.mk l.toArray).extract 0 (l.length - 2) = ⟨(l.take (l.length - 2)).toArray⟩) := show _ = _ by
      apply ByteArray.ext; simp
    have HOB : Hid (openB l = decide (l = l.take (l.length - 2) ++ sumL (l.take (l.length - 2)))) := show _ = _ by
      unfold openB; simp [h2n]
    obtain ⟨t, HT⟩ : ∃ t, Hid (t = l.take (l.length - 2)) := ⟨_, rfl⟩
    rw [← HT.out] at HTK HOB
    have htl : t.length ≤ 1000000 := by have := HT.out; rw [this]; simp; omega
    clear h2
    go_enter Try.func10, Try.ntmps10
    go_wp2_with fail
    rw [HTK.out]
    refine (rseal_any t _ htl).mono ?_
    rintro e w1 ⟨rfl, hb1⟩
    by_cases hq : l = t ++ sumL t
    · have HO : Hid (openB l = true) := show _ = _ by rw [HOB.out]; simpa using hq
      rw [← hq]
      have HQ := hid hq
      clear hq
      go_wp2_with fail
      go_ret2
      refine ⟨?_, hb1⟩
      rw [show openL l = t by unfold openL; rw [HO.out, if_pos rfl, ← HT.out], HO.out, ← HTK.out]; rfl
    · have HO : Hid (openB l = false) := show _ = _ by rw [HOB.out]; simpa using hq
      obtain ⟨s, HS⟩ : ∃ s, Hid (s = t ++ sumL t) := ⟨_, rfl⟩
      rw [← HS.out] at hq ⊢
      have hq2 : (s == l) = false := by simp; exact fun e => hq e.symm
      have hq3 : (s != l) = true := by simp; exact fun e => hq e.symm
      have HQ := hid hq
      clear hq
      go_wp2_with fail
      go_ret2
      refine ⟨?_, hb1⟩
      rw [show openL l = [] by unfold openL; rw [HO.out]; rfl, HO.out]; rfl
end Go.Proofs.Ytpgidhofgccdgaa
