/-
  Casts are right; Decode of Encode.
-/
import Derived.Test.YtacakogncjhlfaaKindL
namespace Go.Proofs.Ytacakogncjhlfaa
open Go.RowKit
set_option linter.unusedVariables false
set_option linter.unusedSimpArgs false


/-- Which numbers a kind has. -/
def rbP (n k : Int) : Prop :=
  if k = 1 then n < 256 else if k = 2 then n < 65536 else if k = 3 then n < 4294967296 else if k = 5 then n < 128 ∨ 18446744073709551488 ≤ n else if k = 6 then n < 32768 ∨ 18446744073709518848 ≤ n else if k = 7 then n < 2147483648 ∨ 18446744071562067968 ≤ n else if k = 9 then n < 2 else True
theorem rb_iff {n k : Int} (hn : U64 n) (hk : k = 1 ∨ k = 2 ∨ k = 3 ∨ k = 4 ∨ k = 5 ∨ k = 6 ∨ k = 7 ∨ k = 8 ∨ k = 9 ∨ k = 10 ∨ k = 11) : rbB n k = true ↔ rbP n k := by
  have h1 := hn.1
  have h2 := hn.2
  rw [pw8] at h2
  rcases hk with rfl | rfl | rfl | rfl | rfl | rfl | rfl | rfl | rfl | rfl | rfl
  · simp [rbB, rbP, fits, isW, show sizeOfKind 1 = 1 by decide, show amB 5 8 1 = false by decide, pw1]
  · simp [rbB, rbP, fits, isW, show sizeOfKind 2 = 2 by decide, show amB 5 8 2 = false by decide, pw2]
  · simp [rbB, rbP, fits, isW, show sizeOfKind 3 = 4 by decide, show amB 5 8 3 = false by decide, pw4]
  · simp [rbB, rbP, fits, isW, show sizeOfKind 4 = 8 by decide, show amB 5 8 4 = false by decide, pw8]; omega
  · simp only [rbB, rbP, fits, sgn, show sizeOfKind 5 = 1 by decide, show amB 5 8 5 = true by decide, show isW 1 = true by decide, pw1, pw8]; simp; split <;> omega
  · simp only [rbB, rbP, fits, sgn, show sizeOfKind 6 = 2 by decide, show amB 5 8 6 = true by decide, show isW 2 = true by decide, pw2, pw8]; simp; split <;> omega
  · simp only [rbB, rbP, fits, sgn, show sizeOfKind 7 = 4 by decide, show amB 5 8 7 = true by decide, show isW 4 = true by decide, pw4, pw8]; simp; split <;> omega
  · have := sgn8 n hn
    simp [rbB, rbP, fits, isW, show sizeOfKind 8 = 8 by decide, show amB 5 8 8 = true by decide, this]
  · simp [rbB, rbP]; omega
  · simp [rbB, rbP, fits, isW, show sizeOfKind 10 = 8 by decide, show amB 5 8 10 = false by decide, pw8]; omega
  · simp [rbB, rbP, fits, isW, show sizeOfKind 11 = 8 by decide, show amB 5 8 11 = false by decide, pw8]; omega
theorem castN_U64 {n k k' : Int} (hn : U64 n) : U64 (castN n k k') := by
  have h1 := hn.1
  have h2 := hn.2
  rw [pw8] at h2
  have fl : ∀ (m : Nat) (s : Bool), m < 18446744073709551616 → U64 ((floatW m s : Nat) : Int) := fun m s hm => ⟨by omega, by have := floatW_lt hm s; rw [pw8]; omega⟩
  unfold castN
  split
  · split
    · exact fl _ _ (by omega)
    · split
      · split
        · exact fl _ _ (by omega)
        · exact fl _ _ (by omega)
      · exact hn
  · split
    · rw [IntKind.wrap_u64]; exact ⟨by omega, by rw [pw8]; omega⟩
    · exact hn
theorem cutT_size (t : ByteArray) (m : Nat) : (cutT t m).size = m := by
  show (cutL t.data.toList m).toArray.size = m
  rw [List.size_toArray, cutL_length]
theorem size_nil (t : ByteArray) (h : t.size = 0) : t = ⟨#[]⟩ := by
  obtain ⟨a⟩ := t
  have h2 : a.size = 0 := h
  rw [Array.eq_empty_of_size_eq_zero h2]
/-- What is cast is right. -/
theorem cast_right {vk n : Int} {t : ByteArray} {k g k' g' : Int} (hn : U64 n) (hr : rightF vk n t.size k g = true) (hc : castsF k g k' g' = true) :
    rightF k' (castN n k k') (castT t k' g').size k' g' = true ∧ ((castT t k' g').size : Int) = g' := by
  obtain ⟨hvk, hm⟩ := right_kind hr
  have hm' : mayF k' g' = true := by unfold castsF at hc; simp at hc; exact hc.1.2
  have hg : 0 ≤ g' := by
    by_cases h : k' = 12
    · subst h; have := may12 hm'; omega
    · have := (may_cases hm' h).1; omega
  have hs : ((castT t k' g').size : Int) = g' := by rw [castT_cut hm', cutT_size]; omega
  refine ⟨?_, hs⟩
  rw [castsP_eq hm hm'] at hc
  subst hvk
  by_cases h12' : k' = 12
  · subst h12'
    have h12 : vk = 12 := by
      by_cases h12 : vk = 12
      · exact h12
      · obtain ⟨rfl, hk⟩ := may_cases hm h12
        rcases hk with rfl | rfl | rfl | rfl | rfl | rfl | rfl | rfl | rfl | rfl | rfl <;> simp [castsP, amB] at hc
    subst h12
    rw [rightF_12 hm] at hr
    rw [rightF_12 hm']
    simp at hr
    have e : castN n 12 12 = n := by simp [castN]
    rw [e]
    simp [hr.1, hs]
  · obtain ⟨rfl, hk'⟩ := may_cases hm' h12'
    have hs0 : (castT t k' 0).size = 0 := by omega
    rw [hs0, rbB_right (castN_U64 hn) hm' h12', rb_iff (castN_U64 hn) hk']
    have h12 : vk ≠ 12 := by
      intro h; subst h
      rcases hk' with rfl | rfl | rfl | rfl | rfl | rfl | rfl | rfl | rfl | rfl | rfl <;> simp [castsP, amB] at hc
    obtain ⟨rfl, hk⟩ := may_cases hm h12
    have ht : t.size = 0 := by
      unfold rightF at hr; simp [h12] at hr; rw [hr.2.1]; rfl
    rw [ht, rbB_right hn hm h12, rb_iff hn hk] at hr
    have h1 := hn.1
    rw [longF_0, longF_0] at hc
    rcases hk with rfl | rfl | rfl | rfl | rfl | rfl | rfl | rfl | rfl | rfl | rfl <;> rcases hk' with rfl | rfl | rfl | rfl | rfl | rfl | rfl | rfl | rfl | rfl | rfl <;>
      first
      | exact absurd hc (by decide)
      | (simp [rbP]; done)
      | (simp [rbP, castN] at hr ⊢; omega)
/-- What was encoded is decoded as it was. -/
theorem dec_enc {vk n : Int} {t : ByteArray} {k g : Int} (hn : U64 n) (hr : rightF vk n t.size k g = true) :
    decR (encT vk n t k g).toList k g = .tuple #[.agg #[.int .i64 vk, .int .u64 n, .string t], .int .i64 0] ∧ ((encT vk n t k g).toList.length : Int) = longF k g := by
  obtain ⟨hvk, hm⟩ := right_kind hr
  subst hvk
  have he : encT vk n t vk g = encL n t vk g := by simp [encT, hr]
  rw [he]
  by_cases h12 : vk = 12
  · subst h12
    have hr2 := hr
    rw [rightF_12 hm] at hr2
    simp at hr2
    have e1 : encL n t 12 g = t := by simp [encL]
    have e2 : (⟨t.toList.toArray⟩ : ByteArray) = t := by rw [ByteArray.toList_eq]
    have e3 : t.toList.length = t.size := by rw [ByteArray.toList_eq, Array.length_toList]; rfl
    have hl : longF 12 g = g := by simp [longF, hm]
    rw [e1]
    have hd : decB t.toList 12 g = true := by rw [decB_12, hm, hl, e3]; simp [hr2.2]
    rw [decR_ok hd, show decN 12 t.toList = 0 by simp [decN], show decT 12 t.toList = t by simp [decT, e2], hr2.1, e3, hl]
    exact ⟨rfl, hr2.2⟩
  · obtain ⟨rfl, hk⟩ := may_cases hm h12
    have ht : t.size = 0 := by
      unfold rightF at hr; simp [h12] at hr; rw [hr.2.1]; rfl
    have htn := size_nil t ht
    rw [ht] at hr
    have hb := hr
    rw [rbB_right hn hm h12] at hb
    have hw := size_isW hk
    have hl : longF vk 0 = sizeOfKind vk := longF_0
    obtain ⟨m, hm2⟩ : ∃ m : Nat, sizeOfKind vk = m := ⟨(sizeOfKind vk).toNat, by have := isW_cases hw; omega⟩
    rw [hm2] at hw
    have hmw := isW_cases hw
    have eL : (encL n t vk 0).toList = le n m := by
      have : encL n t vk 0 = ⟨((le n 8).take (longF vk 0).toNat).toArray⟩ := by simp [encL, h12]
      rw [this, hl, hm2, Int.toNat_natCast, ByteArray.toList_eq]
      show (le n 8).take m = le n m
      exact le_takeK _ _ _ (by omega)
    rw [eL, hl, hm2]
    have hlen : ((le n m).length : Int) = m := by rw [le_length]
    have hN : decN vk (le n m) = n := by
      have hg : getN (le n m) 0 (le n m).length = n % pw m := by
        have : holdsB (le n m).length 0 (le n m).length = true := by rw [le_length]; simp [holdsB, hw]
        simp only [getN, this, if_true]
        rw [Int.toNat_zero, List.drop_zero, Int.toNat_natCast, List.take_length, num_leK n hn.1]
      unfold decN
      rw [if_neg h12, hg, hlen]
      have h1 := hn.1
      have h2 := hn.2
      rw [pw8] at h2
      by_cases hs : 4 < vk ∧ vk < 9
      · rw [if_pos hs]
        have ha : amB 5 8 vk = true := by simp [amB]; omega
        have hf : sgn n m = n := by
          unfold rbB at hb
          rw [if_neg (by omega), ha, hm2] at hb
          simp [fits] at hb; exact hb.2
        have hU : U64 (n % pw m) := ⟨Int.emod_nonneg _ (by have := pw_pos m; omega), by
          have := Int.emod_lt_of_pos n (pw_pos m)
          have hp : pw m ≤ pw 8 := by rcases hmw with e | e | e | e <;> rw [e] <;> decide
          omega⟩
        have : sgn (n % pw m) m = sgn n m := by
          unfold sgn; rw [if_pos hw, if_pos hw, Int.emod_emod_of_dvd n (Int.dvd_refl _)]
        rw [this, hf]
      · rw [if_neg hs]
        refine Int.emod_eq_of_lt h1 ?_
        by_cases h9 : vk = 9
        · unfold rbB at hb
          rw [if_pos h9] at hb
          have := pw_pos m
          have h3 : (256 : Int) ≤ pw m := by rcases hmw with e | e | e | e <;> rw [e] <;> decide
          simp at hb; omega
        · unfold rbB at hb
          have ha : amB 5 8 vk = false := by simp [amB]; omega
          rw [if_neg h9, ha, hm2] at hb
          simp [fits] at hb; exact hb.2
    have hd : decB (le n m) vk 0 = true := by
      rw [decB_ne h12, hm, hl, hm2, hN, hr]; simp [hlen]
    rw [decR_ok hd, hN, htn, show decT vk (le n m) = ⟨#[]⟩ by simp [decT, h12]]
    exact ⟨rfl, hlen⟩
end Go.Proofs.Ytacakogncjhlfaa
