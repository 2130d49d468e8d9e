/-
  Contract of kind.Decode.
-/
import Derived.Test.YtjodbopnibdolaaM7
import Derived.Test.YtjodbopnibdolaaM3

namespace Go.Proofs.Ytjodbopnibdolaa
open Go.RowKit
set_option linter.unusedVariables false
set_option linter.unusedSimpArgs false

theorem le_takeK (nn : Int) (a b : Nat) (h : a ≤ b) : (le nn b).take a = le nn a := by
  induction b with
  | zero => have : a = 0 := by omega
            subst this; rfl
  | succ b ih =>
    by_cases e : a = b + 1
    · subst e; rw [List.take_of_length_le (by rw [le_length]; omega)]
    · rw [le, List.take_append_of_le_length (by rw [le_length]; omega), ih (by omega)]
theorem emod_mulK (nn : Int) (h0 : 0 ≤ nn) (k : Nat) : nn % (pw k * 256) = nn % pw k + pw k * (nn / pw k % 256) := by
  obtain ⟨m, rfl⟩ := Int.eq_ofNat_of_zero_le h0
  obtain ⟨q, hq⟩ := Int.eq_ofNat_of_zero_le (Int.le_of_lt (pw_pos k))
  rw [hq]
  have h := Nat.mod_mul (x := m) (a := q) (b := 256)
  have h2 := congrArg (fun z : Nat => (z : Int)) h
  simp only [Int.natCast_add, Int.natCast_mul, Int.natCast_emod, Int.natCast_ediv] at h2
  exact h2
theorem num_leK (nn : Int) (h0 : 0 ≤ nn) (k : Nat) : num (le nn k) = nn % pw k := by
  induction k with
  | zero => simp [le, num, pw]
  | succ k ih =>
    rw [le, num_append, ih, le_length]
    have hp := pw_pos k
    have h1 : ((byteAt nn k).toNat : Int) = nn / pw k % 256 := by
      have h1 : 0 ≤ nn / pw k % 256 := Int.emod_nonneg _ (by decide)
      have h2 : nn / pw k % 256 < 256 := Int.emod_lt_of_pos _ (by decide)
      unfold byteAt; rw [UInt8.toNat_ofNat']; omega
    rw [show num [byteAt nn k] = ((byteAt nn k).toNat : Int) by simp [num], h1, pw_succ, emod_mulK nn h0 k]
/-- Bytes are told by their number. -/
theorem num_injK : ∀ (a b : List UInt8), a.length = b.length → num a = num b → a = b
  | [], [], _, _ => rfl
  | x :: a, y :: b, hl, h => by
    simp only [num] at h
    have hx := x.toNat_lt; have hy := y.toNat_lt
    have h1 : x.toNat = y.toNat := by omega
    have h2 : num a = num b := by omega
    rw [num_injK a b (by simpa using hl) h2, UInt8.toNat_inj.1 h1]
  | [], _ :: _, hl, _ => by simp at hl
  | _ :: _, [], hl, _ => by simp at hl
theorem le_numK {l : List UInt8} {n : Int} (h0 : 0 ≤ n) (k : Nat) (h : l.length = k) (hn : n % pw k = num l) : le n k = l :=
  num_injK _ _ (by rw [le_length, h]) (by rw [num_leK n h0, hn])
theorem sgn_mod {n x : Int} (h : isW x = true) (hn : U64 n) : sgn n x % pw x = n % pw x := by
  unfold U64 at hn; rw [pw8] at hn
  unfold sgn; rw [if_pos h]
  rcases isW_cases h with rfl | rfl | rfl | rfl <;> simp only [pw1, pw2, pw4, pw8] <;> split <;> omega
theorem size_isW {k : Int} (h : k = 1 ∨ k = 2 ∨ k = 3 ∨ k = 4 ∨ k = 5 ∨ k = 6 ∨ k = 7 ∨ k = 8 ∨ k = 9 ∨ k = 10 ∨ k = 11) : isW (sizeOfKind k) = true := by
  rcases h with rfl | rfl | rfl | rfl | rfl | rfl | rfl | rfl | rfl | rfl | rfl <;> decide
/-- What Decode asks. -/
theorem decB_12 (l : List UInt8) (g : Int) : decB l 12 g = (mayF 12 g && decide ((l.length : Int) = longF 12 g)) := by
  by_cases hm : mayF 12 g = true
  · have hl : longF 12 g = g := by simp [longF, hm]
    have hT : decT 12 l = ⟨l.toArray⟩ := by simp [decT]
    have hN : decN 12 l = 0 := by simp [decN]
    unfold decB
    rw [hT, hN, hl, hm, rightF_12 hm, Bool.true_and]
    by_cases c : (l.length : Int) = g
    · have hr : rightF 12 0 (ByteArray.size ⟨l.toArray⟩) 12 g = true := by rw [rightF_12 hm]; simp [ByteArray.size, c]
      have he : encT 12 0 ⟨l.toArray⟩ 12 g = ⟨l.toArray⟩ := by simp [encT, hr, encL]
      rw [he, ByteArray.toList_eq]; simp [ByteArray.size, c]
    · simp [ByteArray.size, c]
  · have hm : mayF 12 g = false := by simpa using hm
    simp [decB, rightF_no1 hm, hm]
theorem decB_ne {l : List UInt8} {k g : Int} (h12 : k ≠ 12) : decB l k g = (mayF k g && decide ((l.length : Int) = longF k g) && rightF k (decN k l) 0 k g) := by
  by_cases hm : mayF k g = true
  · obtain ⟨rfl, hk⟩ := may_cases hm h12
    have hw := size_isW hk
    have hl : longF k 0 = sizeOfKind k := longF_0
    have hT : decT k l = ⟨#[]⟩ := by simp [decT, h12]
    have hU := decN_U64 k l
    unfold decB
    rw [hT, hm, hl, Bool.true_and]
    show (rightF k (decN k l) 0 k 0 && _) = _
    rw [Bool.and_comm]
    cases hr : rightF k (decN k l) 0 k 0 with
    | false => simp
    | true =>
      rw [Bool.and_true, Bool.and_true]
      have hr' : rightF k (decN k l) (ByteArray.size ⟨#[]⟩) k 0 = true := hr
      have he : encT k (decN k l) ⟨#[]⟩ k 0 = ⟨((le (decN k l) 8).take (sizeOfKind k).toNat).toArray⟩ := by simp [encT, hr', encL, h12, hl]
      rw [he, ByteArray.toList_eq]
      obtain ⟨m, hm2⟩ : ∃ m : Nat, sizeOfKind k = m := ⟨(sizeOfKind k).toNat, by have := isW_cases hw; omega⟩
      rw [hm2] at hw
      have hmw := isW_cases hw
      rw [hm2, Int.toNat_natCast]
      show decide ((le (decN k l) 8).take m = l) = _
      rw [le_takeK _ _ _ (by omega)]
      by_cases c : (l.length : Int) = m
      · have hc : l.length = m := by omega
        have hb := num_bounds l
        have hg : getN l 0 l.length = num l := by
          have : holdsB l.length 0 l.length = true := by
            rw [hc]; simp [holdsB, hw]
          simp [getN, this]
        have hp : pw (l.length : Int) ≤ pw 8 := by rw [c]; rcases hmw with e | e | e | e <;> rw [e] <;> decide
        have hnu : U64 (num l) := ⟨hb.1, by omega⟩
        have e : le (decN k l) m = l := by
          refine le_numK hU.1 m hc ?_
          have hmod : num l % pw m = num l := Int.emod_eq_of_lt hb.1 (by rw [← c]; exact hb.2)
          unfold decN
          rw [if_neg h12, hg]
          split
          · rw [c, sgn_mod hw hnu, hmod]
          · exact hmod
        rw [decide_eq_true e, decide_eq_true c]
      · have e : le (decN k l) m ≠ l := by
          intro h
          have := congrArg List.length h
          rw [le_length] at this; omega
        rw [decide_eq_false e, decide_eq_false c]
  · have hm : mayF k g = false := by simpa using hm
    simp [decB, rightF_no1 hm, hm]
end Go.Proofs.Ytjodbopnibdolaa
