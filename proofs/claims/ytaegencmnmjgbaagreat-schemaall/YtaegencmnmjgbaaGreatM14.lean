/-
  Contract of kind.Decode.
-/
import Derived.Test.YtaegencmnmjgbaaGreatM12
import Derived.Test.YtaegencmnmjgbaaGreatM5

namespace Go.Proofs.YtaegencmnmjgbaaGreat
open Go.RowKit
set_option linter.unusedVariables false
set_option linter.unusedSimpArgs false
theorem le_takeK (nn : Int) (a b : Nat) (h : a ≤ b) : (le nn b).take a = le nn a := by
  induction b with
  | zero => have : a = 0 := by omega
            subst this; rfl
  | succ b ih =>
    by_cases e : a = b + 1
    · subst e; rw [List.take_of_length_le (by rw [le_length]; omega)]
    · rw [le, List.take_append_of_le_length (by rw [le_length]; omega), ih (by omega)]
theorem emod_mulK (nn : Int) (h0 : 0 ≤ nn) (k : Nat) : nn % (pw k * 256) = nn % pw k + pw k * (nn / pw k % 256) := by
  obtain ⟨m, rfl⟩ := Int.eq_ofNat_of_zero_le h0
  obtain ⟨q, hq⟩ := Int.eq_ofNat_of_zero_le (Int.le_of_lt (pw_pos k))
  rw [hq]
  have h := Nat.mod_mul (x := m) (a := q) (b := 256)
  have h2 := congrArg (fun z : Nat => (z : Int)) h
  simp only [Int.natCast_add, Int.natCast_mul, Int.natCast_emod, Int.natCast_ediv] at h2
  exact h2
theorem num_leK (nn : Int) (h0 : 0 ≤ nn) (k : Nat) : num (le nn k) = nn % pw k := by
  induction k with
  | zero => simp [le, num, pw]
  | succ k ih =>
    rw [le, num_append, ih, le_length]
    have hp := pw_pos k
    have h1 : ((byteAt nn k).toNat : Int) = nn / pw k % 256 := by
      have h1 : 0 ≤ nn / pw k % 256 := Int.emod_nonneg _ (by decide)
      have h2 : nn / pw k % 256 < 256 := Int.emod_lt_of_pos _ (by decide)
      unfold byteAt; rw [UInt8.toNat_ofNat']; omega
    rw [show num [byteAt nn k] = ((byteAt nn k).toNat : Int) by simp [num], h1, pw_succ, emod_mulK nn h0 k]
theorem num_injK : ∀ (a b : List UInt8), a.length = b.length → num a = num b → a = b
  | [], [], _, _ => rfl
  | x :: a, y :: b, hl, h => by
    simp only [num] at h
    have hx := x.toNat_lt; have hy := y.toNat_lt
    have h1 : x.toNat = y.toNat := by omega
    have h2 : num a = num b := by omega
    rw [num_injK a b (by simpa using hl) h2, UInt8.toNat_inj.1 h1]
  | [], _ :: _, hl, _ => by simp at hl
  | _ :: _, [], hl, _ => by simp at hl
theorem le_numK {l : List UInt8} {n : Int} (h0 : 0 ≤ n) (k : Nat) (h : l.length = k) (hn : n % pw k = num l) : le n k = l :=
  num_injK _ _ (by rw [le_length, h]) (by rw [num_leK n h0, hn])
theorem sgn_mod {n x : Int} (h : isW x = true) (hn : U64 n) : sgn n x % pw x = n % pw x := by
  unfold U64 at hn; rw [pw8] at hn
  unfold sgn; rw [if_pos h]
  rcases isW_cases h with rfl | rfl | rfl | rfl <;> simp only [pw1, pw2, pw4, pw8] <;> split <;> omega
theorem size_isW {k : Int} (h : k = 1 ∨ k = 2 ∨ k = 3 ∨ k = 4 ∨ k = 5 ∨ k = 6 ∨ k = 7 ∨ k = 8 ∨ k = 9 ∨ k = 10 ∨ k = 11) : isW (sizeOfKind k) = true := by
  rcases h with rfl | rfl | rfl | rfl | rfl | rfl | rfl | rfl | rfl | rfl | rfl <;> decide
theorem decB_12 (l : List UInt8) (g : Int) : decB l 12 g = (mayF 12 g && decide ((l.length : Int) = longF 12 g)) := by
  by_cases hm : mayF 12 g = true
  · have hl : longF 12 g = g := by simp [longF, hm]
    have hT : decT 12 l = ⟨l.toArray⟩ := by simp [decT]
    have hN : decN 12 l = 0 := by simp [decN]
    unfold decB
    rw [hT, hN, hl, hm, rightF_12 hm, Bool.true_and]
    by_cases c : (l.length : Int) = g
    · have hr : rightF 12 0 (ByteArray.size ⟨l.toArray⟩) 12 g = true := by rw [rightF_12 hm]; simp [ByteArray.size, c]
      have he : encT 12 0 ⟨l.toArray⟩ 12 g = ⟨l.toArray⟩ := by simp [encT, hr, encL]
      rw [he, ByteArray.toList_eq]; simp [ByteArray.size, c]
    · simp [ByteArray.size, c]
  · have hm : mayF 12 g = false := by simpa using hm
    simp [decB, rightF_no1 hm, hm]
theorem decB_ne {l : List UInt8} {k g : Int} (h12 : k ≠ 12) : decB l k g = (mayF k g && decide ((l.length : Int) = longF k g) && rightF k (decN k l) 0 k g) := by
  by_cases hm : mayF k g = true
  · obtain ⟨rfl, hk⟩ := may_cases hm h12
    have hw := size_isW hk
    have hl : longF k 0 = sizeOfKind k := longF_0
    have hT : decT k l = ⟨#[]⟩ := by simp [decT, h12]
    have hU := decN_U64 k l
    unfold decB
    rw [hT, hm, hl, Bool.true_and]
    show (rightF k (decN k l) 0 k 0 && _) = _
    rw [Bool.and_comm]
    cases hr : rightF k (decN k l) 0 k 0 with
    | false => simp
    | true =>
      rw [Bool.and_true, Bool.and_true]
      have hr' : rightF k (decN k l) (ByteArray.size ⟨#[]⟩) k 0 = true := hr
      have he : encT k (decN k l) ⟨#[]⟩ k 0 = ⟨((le (decN k l) 8).take (sizeOfKind k).toNat).toArray⟩ := by simp [encT, hr', encL, h12, hl]
      rw [he, ByteArray.toList_eq]
      obtain ⟨m, hm2⟩ : ∃ m : Nat, sizeOfKind k = m := ⟨(sizeOfKind k).toNat, by have := isW_cases hw; omega⟩
      rw [hm2] at hw
      have hmw := isW_cases hw
      rw [hm2, Int.toNat_natCast]
      show decide ((le (decN k l) 8).take m = l) = _
      rw [le_takeK _ _ _ (by omega)]
      by_cases c : (l.length : Int) = m
      · have hc : l.length = m := by omega
        have hb := num_bounds l
        have hg : getN l 0 l.length = num l := by
          have : holdsB l.length 0 l.length = true := by
            rw [hc]; simp [holdsB, hw]
          simp [getN, this]
        have hp : pw (l.length : Int) ≤ pw 8 := by rw [c]; rcases hmw with e | e | e | e <;> rw [e] <;> decide
        have hnu : U64 (num l) := ⟨hb.1, by omega⟩
        have e : le (decN k l) m = l := by
          refine le_numK hU.1 m hc ?_
          have hmod : num l % pw m = num l := Int.emod_eq_of_lt hb.1 (by rw [← c]; exact hb.2)
          unfold decN
          rw [if_neg h12, hg]
          split
          · rw [c, sgn_mod hw hnu, hmod]
          · exact hmod
        rw [decide_eq_true e, decide_eq_true c]
      · have e : le (decN k l) m ≠ l := by
          intro h
          have := congrArg List.length h
          rw [le_length] at this; omega
        rw [decide_eq_false e, decide_eq_false c]
  · have hm : mayF k g = false := by simpa using hm
    simp [decB, rightF_no1 hm, hm]
set_option maxHeartbeats 2000000 in
theorem kdecode_z {w : World} {A : Option Addr} {m c : Nat} {l : List UInt8} (nm : ByteArray) (k g L : Int) (H : Hid (Rd w w.heap.size A m c l)) (HL : Hid (longF k g = L)) (hz : (L == 0) = true) :
    Calls Tryz.prog 129 #[.slice A m c, .agg #[.string nm, .int .i64 k, .int .i64 g]] w fun e w' => e = .returned (.tuple #[.agg #[.int .i64 0, .int .u64 0, .string ⟨#[]⟩], .int .i64 50]) ∧ Below w.heap.size w w' := by
  go_enter Tryz.func129, Tryz.ntmps129
  go_wp2_with fail
  go_at_call 101
  refine (klong_any _ _ _ _).mono ?_
  rintro e w1 ⟨rfl, hb1⟩
  rw [HL.out]
  have hF := ((fb_new w nm k g).alloc (.cells #[.int .i64 0, .int .u64 0, .string ⟨#[]⟩] 71)).on hb1
  have hR := (vb_new2 w (.cells #[.string nm, .int .i64 k, .int .i64 g] 68) 0 0 ⟨#[]⟩).on hb1
  have hbw : Below w.heap.size w w1 := Bt (Ba (B1 _ _) _) hb1
  have H1 := hid (H.out.on (Bt (Ba (B1 _ _) _) hb1))
  clear hb1
  obtain ⟨c0, c1, c2⟩ := hF.cells
  obtain ⟨r0, r1, r2⟩ := hR.cells
  have g0 := hR.frozen 0
  have g1 := hR.frozen 1
  have g2 := hR.frozen 2
  go_wp2_with fail
  refine ret_VBe (by rfl) (by rfl) (((hR.setKind 0).setBits 0).setText ⟨#[]⟩) (by rfl) (by rfl) ⟨rfl, ?_⟩
  exact ((hbw.setCell (by simp) _).setCell (by simp) _).setCell (by simp) _
set_option maxHeartbeats 2000000 in
theorem kdecode_l {w : World} {A : Option Addr} {m c : Nat} {l : List UInt8} (nm : ByteArray) (k g L : Int) (H : Hid (Rd w w.heap.size A m c l)) (HL : Hid (longF k g = L)) (hz : (L == 0) = false) (hl : ((m : Int) != L) = true) :
    Calls Tryz.prog 129 #[.slice A m c, .agg #[.string nm, .int .i64 k, .int .i64 g]] w fun e w' => e = .returned (.tuple #[.agg #[.int .i64 0, .int .u64 0, .string ⟨#[]⟩], .int .i64 50]) ∧ Below w.heap.size w w' := by
  go_enter Tryz.func129, Tryz.ntmps129
  go_wp2_with fail
  go_at_call 101
  refine (klong_any _ _ _ _).mono ?_
  rintro e w1 ⟨rfl, hb1⟩
  rw [HL.out]
  have hF := ((fb_new w nm k g).alloc (.cells #[.int .i64 0, .int .u64 0, .string ⟨#[]⟩] 71)).on hb1
  have hR := (vb_new2 w (.cells #[.string nm, .int .i64 k, .int .i64 g] 68) 0 0 ⟨#[]⟩).on hb1
  have hbw : Below w.heap.size w w1 := Bt (Ba (B1 _ _) _) hb1
  have H1 := hid (H.out.on (Bt (Ba (B1 _ _) _) hb1))
  clear hb1
  obtain ⟨c0, c1, c2⟩ := hF.cells
  obtain ⟨r0, r1, r2⟩ := hR.cells
  have g0 := hR.frozen 0
  have g1 := hR.frozen 1
  have g2 := hR.frozen 2
  go_wp2_with fail
  refine ret_VBe (by rfl) (by rfl) (((hR.setKind 0).setBits 0).setText ⟨#[]⟩) (by rfl) (by rfl) ⟨rfl, ?_⟩
  exact ((hbw.setCell (by simp) _).setCell (by simp) _).setCell (by simp) _
set_option maxHeartbeats 2000000 in
theorem kdecode_t {w : World} {A : Option Addr} {m c : Nat} {l : List UInt8} (nm : ByteArray) (k g L : Int) (H : Hid (Rd w w.heap.size A m c l)) (HL : Hid (longF k g = L)) (hz : (L == 0) = false) (hl : ((m : Int) != L) = false) (h12 : k = 12) :
    Calls Tryz.prog 129 #[.slice A m c, .agg #[.string nm, .int .i64 k, .int .i64 g]] w fun e w' => e = .returned (.tuple #[.agg #[.int .i64 12, .int .u64 0, .string ⟨l.toArray⟩], .int .i64 0]) ∧ Below w.heap.size w w' := by
  subst h12
  go_enter Tryz.func129, Tryz.ntmps129
  go_wp2_with fail
  go_at_call 101
  refine (klong_any _ _ _ _).mono ?_
  rintro e w1 ⟨rfl, hb1⟩
  rw [HL.out]
  have hF := ((fb_new w nm 12 g).alloc (.cells #[.int .i64 0, .int .u64 0, .string ⟨#[]⟩] 71)).on hb1
  have hR := (vb_new2 w (.cells #[.string nm, .int .i64 12, .int .i64 g] 68) 0 0 ⟨#[]⟩).on hb1
  have hbw : Below w.heap.size w w1 := Bt (Ba (B1 _ _) _) hb1
  have H1 := hid (H.out.on (Bt (Ba (B1 _ _) _) hb1))
  clear hb1
  obtain ⟨c0, c1, c2⟩ := hF.cells
  obtain ⟨r0, r1, r2⟩ := hR.cells
  have g0 := hR.frozen 0
  have g1 := hR.frozen 1
  have g2 := hR.frozen 2
  have hcv := H1.out.conv
  go_wp2_with fail
  refine ret_VBe (by rfl) (by rfl) (((hR.setKind 12).setBits 0).setText ⟨l.toArray⟩) (by rfl) (by rfl) ⟨rfl, ?_⟩
  exact ((hbw.setCell (by simp) _).setCell (by simp) _).setCell (by simp) _
set_option maxHeartbeats 2000000 in
theorem kdecode_s1 {w : World} {A : Option Addr} {m c : Nat} {l : List UInt8} (nm : ByteArray) (k g L : Int) (H : Hid (Rd w w.heap.size A m c l)) (HL : Hid (longF k g = L)) (hz : (L == 0) = false) (hl : ((m : Int) != L) = false) (h12 : (k == 12) = false) (G N : Int) (HG : Hid (getN l 0 L = G)) (HN : Hid (U64 N)) (HA : Hid (amB 5 8 k = true)) (HU : Hid (U64 G)) (HS : Hid (sgn G L = N)) (HR : Hid (rightF k N (ByteArray.size ⟨#[]⟩) k g = true)) :
    Calls Tryz.prog 129 #[.slice A m c, .agg #[.string nm, .int .i64 k, .int .i64 g]] w fun e w' => e = .returned (.tuple #[.agg #[.int .i64 k, .int .u64 N, .string ⟨#[]⟩], .int .i64 0]) ∧ Below w.heap.size w w' := by
  go_enter Tryz.func129, Tryz.ntmps129
  go_wp2_with fail
  go_at_call 101
  refine (klong_any _ _ _ _).mono ?_
  rintro e w1 ⟨rfl, hb1⟩
  rw [HL.out]
  have hF := ((fb_new w nm k g).alloc (.cells #[.int .i64 0, .int .u64 0, .string ⟨#[]⟩] 71)).on hb1
  have hR := (vb_new2 w (.cells #[.string nm, .int .i64 k, .int .i64 g] 68) 0 0 ⟨#[]⟩).on hb1
  have hbw : Below w.heap.size w w1 := Bt (Ba (B1 _ _) _) hb1
  have H1 := hid (H.out.on (Bt (Ba (B1 _ _) _) hb1))
  clear hb1
  obtain ⟨c0, c1, c2⟩ := hF.cells
  obtain ⟨r0, r1, r2⟩ := hR.cells
  have g0 := hR.frozen 0
  have g1 := hR.frozen 1
  have g2 := hR.frozen 2
  go_wp2_with fail
  go_at_call 70
  refine (get_any A m c l 0 L _ H1.out).mono ?_
  rintro e w2 ⟨rfl, hb2⟩
  rw [HG.out]
  have hF2 := hF.on hb2
  have hR2 := hR.on hb2
  have hbw2 := Bt hbw hb2
  clear c0 c1 c2 r0 r1 r2 g0 g1 g2
  obtain ⟨c0, c1, c2⟩ := hF2.cells
  go_wp2_with fail
  go_at_call 162
  refine (among_new _ _ _).mono ?_
  rintro e w3 ⟨p, rfl, ham, hb3⟩
  have hF3 := hF2.on hb3
  have hR3 := hR2.on hb3
  have hbw3 := Bt hbw2 hb3
  clear c0 c1 c2
  obtain ⟨c0, c1, c2⟩ := hF3.cells
  go_wp2_with fail
  go_at_call 188
  refine (among_ask _ ham).mono ?_
  rintro e wq ⟨rfl, rfl⟩
  rw [HA.out]
  go_wp2_with fail
  go_at_call 147
  refine (sign_any _ _ _ HU.out).mono ?_
  rintro e w4 ⟨rfl, hb4⟩
  rw [HS.out]
  have hF4 := hF3.on hb4
  have hR4 := hR3.on hb4
  have hbw4 := Bt hbw3 hb4
  clear c0 c1 c2
  obtain ⟨c0, c1, c2⟩ := hF4.cells
  have l4 := hF4.lt
  go_wp2_with fail
  go_at_call 122
  refine (kright_any _ _ _ _ _ _ _ HN.out).mono ?_
  rintro e w5 ⟨rfl, hb5⟩
  rw [HR.out]
  have hR5 := (hR4.alloc (.cells #[.int .i64 k, .int .u64 N, .string ⟨#[]⟩] 71)).on hb5
  have hV5 := (vb_new _ k N ⟨#[]⟩).on hb5
  have hbw5 := Bt (Ba hbw4 (.cells #[.int .i64 k, .int .u64 N, .string ⟨#[]⟩] 71)) hb5
  clear c0 c1 c2
  obtain ⟨r0, r1, r2⟩ := hR5.cells
  obtain ⟨v0, v1, v2⟩ := hV5.cells
  have g0 := hR5.frozen 0
  have g1 := hR5.frozen 1
  have g2 := hR5.frozen 2
  go_wp2_with fail
  refine ret_VBe (by rfl) (by rfl) (((hR5.setKind k).setBits N).setText ⟨#[]⟩) (by rfl) (by rfl) ⟨rfl, ?_⟩
  exact ((hbw5.setCell (by simp) _).setCell (by simp) _).setCell (by simp) _
set_option maxHeartbeats 2000000 in
theorem kdecode_s0 {w : World} {A : Option Addr} {m c : Nat} {l : List UInt8} (nm : ByteArray) (k g L : Int) (H : Hid (Rd w w.heap.size A m c l)) (HL : Hid (longF k g = L)) (hz : (L == 0) = false) (hl : ((m : Int) != L) = false) (h12 : (k == 12) = false) (G N : Int) (HG : Hid (getN l 0 L = G)) (HN : Hid (U64 N)) (HA : Hid (amB 5 8 k = true)) (HU : Hid (U64 G)) (HS : Hid (sgn G L = N)) (HR : Hid (rightF k N (ByteArray.size ⟨#[]⟩) k g = false)) :
    Calls Tryz.prog 129 #[.slice A m c, .agg #[.string nm, .int .i64 k, .int .i64 g]] w fun e w' => e = .returned (.tuple #[.agg #[.int .i64 0, .int .u64 0, .string ⟨#[]⟩], .int .i64 50]) ∧ Below w.heap.size w w' := by
  go_enter Tryz.func129, Tryz.ntmps129
  go_wp2_with fail
  go_at_call 101
  refine (klong_any _ _ _ _).mono ?_
  rintro e w1 ⟨rfl, hb1⟩
  rw [HL.out]
  have hF := ((fb_new w nm k g).alloc (.cells #[.int .i64 0, .int .u64 0, .string ⟨#[]⟩] 71)).on hb1
  have hR := (vb_new2 w (.cells #[.string nm, .int .i64 k, .int .i64 g] 68) 0 0 ⟨#[]⟩).on hb1
  have hbw : Below w.heap.size w w1 := Bt (Ba (B1 _ _) _) hb1
  have H1 := hid (H.out.on (Bt (Ba (B1 _ _) _) hb1))
  clear hb1
  obtain ⟨c0, c1, c2⟩ := hF.cells
  obtain ⟨r0, r1, r2⟩ := hR.cells
  have g0 := hR.frozen 0
  have g1 := hR.frozen 1
  have g2 := hR.frozen 2
  go_wp2_with fail
  go_at_call 70
  refine (get_any A m c l 0 L _ H1.out).mono ?_
  rintro e w2 ⟨rfl, hb2⟩
  rw [HG.out]
  have hF2 := hF.on hb2
  have hR2 := hR.on hb2
  have hbw2 := Bt hbw hb2
  clear c0 c1 c2 r0 r1 r2 g0 g1 g2
  obtain ⟨c0, c1, c2⟩ := hF2.cells
  go_wp2_with fail
  go_at_call 162
  refine (among_new _ _ _).mono ?_
  rintro e w3 ⟨p, rfl, ham, hb3⟩
  have hF3 := hF2.on hb3
  have hR3 := hR2.on hb3
  have hbw3 := Bt hbw2 hb3
  clear c0 c1 c2
  obtain ⟨c0, c1, c2⟩ := hF3.cells
  go_wp2_with fail
  go_at_call 188
  refine (among_ask _ ham).mono ?_
  rintro e wq ⟨rfl, rfl⟩
  rw [HA.out]
  go_wp2_with fail
  go_at_call 147
  refine (sign_any _ _ _ HU.out).mono ?_
  rintro e w4 ⟨rfl, hb4⟩
  rw [HS.out]
  have hF4 := hF3.on hb4
  have hR4 := hR3.on hb4
  have hbw4 := Bt hbw3 hb4
  clear c0 c1 c2
  obtain ⟨c0, c1, c2⟩ := hF4.cells
  have l4 := hF4.lt
  go_wp2_with fail
  go_at_call 122
  refine (kright_any _ _ _ _ _ _ _ HN.out).mono ?_
  rintro e w5 ⟨rfl, hb5⟩
  rw [HR.out]
  have hR5 := (hR4.alloc (.cells #[.int .i64 k, .int .u64 N, .string ⟨#[]⟩] 71)).on hb5
  have hV5 := (vb_new _ k N ⟨#[]⟩).on hb5
  have hbw5 := Bt (Ba hbw4 (.cells #[.int .i64 k, .int .u64 N, .string ⟨#[]⟩] 71)) hb5
  clear c0 c1 c2
  obtain ⟨r0, r1, r2⟩ := hR5.cells
  obtain ⟨v0, v1, v2⟩ := hV5.cells
  have g0 := hR5.frozen 0
  have g1 := hR5.frozen 1
  have g2 := hR5.frozen 2
  go_wp2_with fail
  refine ret_VBe (by rfl) (by rfl) (((hR5.setKind 0).setBits 0).setText ⟨#[]⟩) (by rfl) (by rfl) ⟨rfl, ?_⟩
  exact ((hbw5.setCell (by simp) _).setCell (by simp) _).setCell (by simp) _
set_option maxHeartbeats 2000000 in
theorem kdecode_u1 {w : World} {A : Option Addr} {m c : Nat} {l : List UInt8} (nm : ByteArray) (k g L : Int) (H : Hid (Rd w w.heap.size A m c l)) (HL : Hid (longF k g = L)) (hz : (L == 0) = false) (hl : ((m : Int) != L) = false) (h12 : (k == 12) = false) (N : Int) (HG : Hid (getN l 0 L = N)) (HN : Hid (U64 N)) (HA : Hid (amB 5 8 k = false)) (HR : Hid (rightF k N (ByteArray.size ⟨#[]⟩) k g = true)) :
    Calls Tryz.prog 129 #[.slice A m c, .agg #[.string nm, .int .i64 k, .int .i64 g]] w fun e w' => e = .returned (.tuple #[.agg #[.int .i64 k, .int .u64 N, .string ⟨#[]⟩], .int .i64 0]) ∧ Below w.heap.size w w' := by
  go_enter Tryz.func129, Tryz.ntmps129
  go_wp2_with fail
  go_at_call 101
  refine (klong_any _ _ _ _).mono ?_
  rintro e w1 ⟨rfl, hb1⟩
  rw [HL.out]
  have hF := ((fb_new w nm k g).alloc (.cells #[.int .i64 0, .int .u64 0, .string ⟨#[]⟩] 71)).on hb1
  have hR := (vb_new2 w (.cells #[.string nm, .int .i64 k, .int .i64 g] 68) 0 0 ⟨#[]⟩).on hb1
  have hbw : Below w.heap.size w w1 := Bt (Ba (B1 _ _) _) hb1
  have H1 := hid (H.out.on (Bt (Ba (B1 _ _) _) hb1))
  clear hb1
  obtain ⟨c0, c1, c2⟩ := hF.cells
  obtain ⟨r0, r1, r2⟩ := hR.cells
  have g0 := hR.frozen 0
  have g1 := hR.frozen 1
  have g2 := hR.frozen 2
  go_wp2_with fail
  go_at_call 70
  refine (get_any A m c l 0 L _ H1.out).mono ?_
  rintro e w2 ⟨rfl, hb2⟩
  rw [HG.out]
  have hF2 := hF.on hb2
  have hR2 := hR.on hb2
  have hbw2 := Bt hbw hb2
  clear c0 c1 c2 r0 r1 r2 g0 g1 g2
  obtain ⟨c0, c1, c2⟩ := hF2.cells
  go_wp2_with fail
  go_at_call 162
  refine (among_new _ _ _).mono ?_
  rintro e w3 ⟨p, rfl, ham, hb3⟩
  have hF3 := hF2.on hb3
  have hR3 := hR2.on hb3
  have hbw3 := Bt hbw2 hb3
  clear c0 c1 c2
  obtain ⟨c0, c1, c2⟩ := hF3.cells
  go_wp2_with fail
  go_at_call 188
  refine (among_ask _ ham).mono ?_
  rintro e wq ⟨rfl, rfl⟩
  rw [HA.out]
  have hF4 := hF3
  have hR4 := hR3
  have hbw4 := hbw3
  have l4 := hF4.lt
  go_wp2_with fail
  go_at_call 122
  refine (kright_any _ _ _ _ _ _ _ HN.out).mono ?_
  rintro e w5 ⟨rfl, hb5⟩
  rw [HR.out]
  have hR5 := (hR4.alloc (.cells #[.int .i64 k, .int .u64 N, .string ⟨#[]⟩] 71)).on hb5
  have hV5 := (vb_new _ k N ⟨#[]⟩).on hb5
  have hbw5 := Bt (Ba hbw4 (.cells #[.int .i64 k, .int .u64 N, .string ⟨#[]⟩] 71)) hb5
  clear c0 c1 c2
  obtain ⟨r0, r1, r2⟩ := hR5.cells
  obtain ⟨v0, v1, v2⟩ := hV5.cells
  have g0 := hR5.frozen 0
  have g1 := hR5.frozen 1
  have g2 := hR5.frozen 2
  go_wp2_with fail
  refine ret_VBe (by rfl) (by rfl) (((hR5.setKind k).setBits N).setText ⟨#[]⟩) (by rfl) (by rfl) ⟨rfl, ?_⟩
  exact ((hbw5.setCell (by simp) _).setCell (by simp) _).setCell (by simp) _
set_option maxHeartbeats 2000000 in
theorem kdecode_u0 {w : World} {A : Option Addr} {m c : Nat} {l : List UInt8} (nm : ByteArray) (k g L : Int) (H : Hid (Rd w w.heap.size A m c l)) (HL : Hid (longF k g = L)) (hz : (L == 0) = false) (hl : ((m : Int) != L) = false) (h12 : (k == 12) = false) (N : Int) (HG : Hid (getN l 0 L = N)) (HN : Hid (U64 N)) (HA : Hid (amB 5 8 k = false)) (HR : Hid (rightF k N (ByteArray.size ⟨#[]⟩) k g = false)) :
    Calls Tryz.prog 129 #[.slice A m c, .agg #[.string nm, .int .i64 k, .int .i64 g]] w fun e w' => e = .returned (.tuple #[.agg #[.int .i64 0, .int .u64 0, .string ⟨#[]⟩], .int .i64 50]) ∧ Below w.heap.size w w' := by
  go_enter Tryz.func129, Tryz.ntmps129
  go_wp2_with fail
  go_at_call 101
  refine (klong_any _ _ _ _).mono ?_
  rintro e w1 ⟨rfl, hb1⟩
  rw [HL.out]
  have hF := ((fb_new w nm k g).alloc (.cells #[.int .i64 0, .int .u64 0, .string ⟨#[]⟩] 71)).on hb1
  have hR := (vb_new2 w (.cells #[.string nm, .int .i64 k, .int .i64 g] 68) 0 0 ⟨#[]⟩).on hb1
  have hbw : Below w.heap.size w w1 := Bt (Ba (B1 _ _) _) hb1
  have H1 := hid (H.out.on (Bt (Ba (B1 _ _) _) hb1))
  clear hb1
  obtain ⟨c0, c1, c2⟩ := hF.cells
  obtain ⟨r0, r1, r2⟩ := hR.cells
  have g0 := hR.frozen 0
  have g1 := hR.frozen 1
  have g2 := hR.frozen 2
  go_wp2_with fail
  go_at_call 70
  refine (get_any A m c l 0 L _ H1.out).mono ?_
  rintro e w2 ⟨rfl, hb2⟩
  rw [HG.out]
  have hF2 := hF.on hb2
  have hR2 := hR.on hb2
  have hbw2 := Bt hbw hb2
  clear c0 c1 c2 r0 r1 r2 g0 g1 g2
  obtain ⟨c0, c1, c2⟩ := hF2.cells
  go_wp2_with fail
  go_at_call 162
  refine (among_new _ _ _).mono ?_
  rintro e w3 ⟨p, rfl, ham, hb3⟩
  have hF3 := hF2.on hb3
  have hR3 := hR2.on hb3
  have hbw3 := Bt hbw2 hb3
  clear c0 c1 c2
  obtain ⟨c0, c1, c2⟩ := hF3.cells
  go_wp2_with fail
  go_at_call 188
  refine (among_ask _ ham).mono ?_
  rintro e wq ⟨rfl, rfl⟩
  rw [HA.out]
  have hF4 := hF3
  have hR4 := hR3
  have hbw4 := hbw3
  have l4 := hF4.lt
  go_wp2_with fail
  go_at_call 122
  refine (kright_any _ _ _ _ _ _ _ HN.out).mono ?_
  rintro e w5 ⟨rfl, hb5⟩
  rw [HR.out]
  have hR5 := (hR4.alloc (.cells #[.int .i64 k, .int .u64 N, .string ⟨#[]⟩] 71)).on hb5
  have hV5 := (vb_new _ k N ⟨#[]⟩).on hb5
  have hbw5 := Bt (Ba hbw4 (.cells #[.int .i64 k, .int .u64 N, .string ⟨#[]⟩] 71)) hb5
  clear c0 c1 c2
  obtain ⟨r0, r1, r2⟩ := hR5.cells
  obtain ⟨v0, v1, v2⟩ := hV5.cells
  have g0 := hR5.frozen 0
  have g1 := hR5.frozen 1
  have g2 := hR5.frozen 2
  go_wp2_with fail
  refine ret_VBe (by rfl) (by rfl) (((hR5.setKind 0).setBits 0).setText ⟨#[]⟩) (by rfl) (by rfl) ⟨rfl, ?_⟩
  exact ((hbw5.setCell (by simp) _).setCell (by simp) _).setCell (by simp) _
theorem kdecode_any {w : World} {A : Option Addr} {m c : Nat} {l : List UInt8} (nm : ByteArray) (k g : Int) (h : Rd w w.heap.size A m c l) :
    Calls Tryz.prog 129 #[.slice A m c, .agg #[.string nm, .int .i64 k, .int .i64 g]] w fun e w' => e = .returned (decR l k g) ∧ Below w.heap.size w w' := by
  have hlm := h.1
  by_cases hm : mayF k g = true
  · have hl0 := long_may hm
    have hz : (longF k g == 0) = false := by simpa using hl0
    by_cases hl : (l.length : Int) = longF k g
    · have hl' : ((m : Int) != longF k g) = false := by simp; omega
      by_cases h12 : k = 12
      · subst h12
        have hd : decB l 12 g = true := by rw [decB_12]; simp [hm, hl]
        rw [decR_ok hd, show decN 12 l = 0 by simp [decN], show decT 12 l = ⟨l.toArray⟩ by simp [decT]]
        exact kdecode_t nm 12 g _ h rfl hz hl' rfl
      · have b12 : (k == 12) = false := by simpa using h12
        have hG : getN l 0 (longF k g) = getN l 0 l.length := by rw [hl]
        have hT : decT k l = ⟨#[]⟩ := by simp [decT, h12]
        have hdB : decB l k g = rightF k (decN k l) 0 k g := by rw [decB_ne h12]; simp [hm, hl]
        by_cases ha : amB 5 8 k = true
        · have ha' : 4 < k ∧ k < 9 := by simp [amB] at ha; omega
          have hN : sgn (getN l 0 l.length) (longF k g) = decN k l := by rw [← hl]; simp [decN, h12, ha']
          cases hr : rightF k (decN k l) 0 k g with
          | true =>
            rw [decR_ok (hdB.trans hr), hT]
            exact kdecode_s1 nm k g _ h rfl hz hl' b12 _ _ hG (decN_U64 k l) ha (getN_U64 _ _ _) hN hr
          | false =>
            rw [decR_no (hdB.trans hr)]
            exact kdecode_s0 nm k g _ h rfl hz hl' b12 _ _ hG (decN_U64 k l) ha (getN_U64 _ _ _) hN hr
        · have ha : amB 5 8 k = false := by simpa using ha
          have ha' : ¬ (4 < k ∧ k < 9) := by simp [amB] at ha; omega
          have hN : getN l 0 l.length = decN k l := by simp [decN, h12, ha']
          cases hr : rightF k (decN k l) 0 k g with
          | true =>
            rw [decR_ok (hdB.trans hr), hT]
            exact kdecode_u1 nm k g _ h rfl hz hl' b12 _ (hG.trans hN) (decN_U64 k l) ha hr
          | false =>
            rw [decR_no (hdB.trans hr)]
            exact kdecode_u0 nm k g _ h rfl hz hl' b12 _ (hG.trans hN) (decN_U64 k l) ha hr
    · have hl' : ((m : Int) != longF k g) = true := by simp; omega
      have hd : decB l k g = false := by
        by_cases h12 : k = 12
        · subst h12; rw [decB_12]; simp [hl]
        · rw [decB_ne h12]; simp [hl]
      rw [decR_no hd]
      exact kdecode_l nm k g _ h rfl hz hl'
  · have hm : mayF k g = false := by simpa using hm
    have hd : decB l k g = false := by simp [decB, rightF_no1 hm]
    rw [decR_no hd]
    exact kdecode_z nm k g _ h rfl (by rw [long_zero hm]; rfl)
end Go.Proofs.YtaegencmnmjgbaaGreat
