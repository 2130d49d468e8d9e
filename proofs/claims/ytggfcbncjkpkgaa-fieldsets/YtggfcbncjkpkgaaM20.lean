/-
  Casts are right; Decode of Encode.
  What was set is got, no other field is another one; a new object has zero values: mathematics.
  The program's Decode of layer 6.
-/
import Derived.Test.YtggfcbncjkpkgaaM19
import Derived.Test.YtggfcbncjkpkgaaM18

namespace Go.Proofs.Ytggfcbncjkpkgaa
open Go.RowKit
set_option linter.unusedVariables false
set_option linter.unusedSimpArgs false


/-- Which numbers a kind has. -/
def rbP (n k : Int) : Prop :=
  if k = 1 then n < 256 else if k = 2 then n < 65536 else if k = 3 then n < 4294967296 else if k = 5 then n < 128 ∨ 18446744073709551488 ≤ n else if k = 6 then n < 32768 ∨ 18446744073709518848 ≤ n else if k = 7 then n < 2147483648 ∨ 18446744071562067968 ≤ n else if k = 9 then n < 2 else True
theorem rb_iff {n k : Int} (hn : U64 n) (hk : k = 1 ∨ k = 2 ∨ k = 3 ∨ k = 4 ∨ k = 5 ∨ k = 6 ∨ k = 7 ∨ k = 8 ∨ k = 9 ∨ k = 10 ∨ k = 11) : rbB n k = true ↔ rbP n k := by
  have h1 := hn.1
  have h2 := hn.2
  rw [pw8] at h2
  rcases hk with rfl | rfl | rfl | rfl | rfl | rfl | rfl | rfl | rfl | rfl | rfl
  · simp [rbB, rbP, fits, isW, show sizeOfKind 1 = 1 by decide, show amB 5 8 1 = false by decide, pw1]
  · simp [rbB, rbP, fits, isW, show sizeOfKind 2 = 2 by decide, show amB 5 8 2 = false by decide, pw2]
  · simp [rbB, rbP, fits, isW, show sizeOfKind 3 = 4 by decide, show amB 5 8 3 = false by decide, pw4]
  · simp [rbB, rbP, fits, isW, show sizeOfKind 4 = 8 by decide, show amB 5 8 4 = false by decide, pw8]; omega
  · simp only [rbB, rbP, fits, sgn, show sizeOfKind 5 = 1 by decide, show amB 5 8 5 = true by decide, show isW 1 = true by decide, pw1, pw8]; simp; split <;> omega
  · simp only [rbB, rbP, fits, sgn, show sizeOfKind 6 = 2 by decide, show amB 5 8 6 = true by decide, show isW 2 = true by decide, pw2, pw8]; simp; split <;> omega
  · simp only [rbB, rbP, fits, sgn, show sizeOfKind 7 = 4 by decide, show amB 5 8 7 = true by decide, show isW 4 = true by decide, pw4, pw8]; simp; split <;> omega
  · have := sgn8 n hn
    simp [rbB, rbP, fits, isW, show sizeOfKind 8 = 8 by decide, show amB 5 8 8 = true by decide, this]
  · simp [rbB, rbP]; omega
  · simp [rbB, rbP, fits, isW, show sizeOfKind 10 = 8 by decide, show amB 5 8 10 = false by decide, pw8]; omega
  · simp [rbB, rbP, fits, isW, show sizeOfKind 11 = 8 by decide, show amB 5 8 11 = false by decide, pw8]; omega
theorem castN_U64 {n k k' : Int} (hn : U64 n) : U64 (castN n k k') := by
  have h1 := hn.1
  have h2 := hn.2
  rw [pw8] at h2
  have fl : ∀ (m : Nat) (s : Bool), m < 18446744073709551616 → U64 ((floatW m s : Nat) : Int) := fun m s hm => ⟨by omega, by have := floatW_lt hm s; rw [pw8]; omega⟩
  unfold castN
  split
  · split
    · exact fl _ _ (by omega)
    · split
      · split
        · exact fl _ _ (by omega)
        · exact fl _ _ (by omega)
      · exact hn
  · split
    · rw [IntKind.wrap_u64]; exact ⟨by omega, by rw [pw8]; omega⟩
    · exact hn
theorem cutT_size (t : ByteArray) (m : Nat) : (cutT t m).size = m := by
  show (cutL t.data.toList m).toArray.size = m
  rw [List.size_toArray, cutL_length]
theorem size_nil (t : ByteArray) (h : t.size = 0) : t = ⟨#[]⟩ := by
  obtain ⟨a⟩ := t
  have h2 : a.size = 0 := h
  rw [Array.eq_empty_of_size_eq_zero h2]
/-- What is cast is right. -/
theorem cast_right {vk n : Int} {t : ByteArray} {k g k' g' : Int} (hn : U64 n) (hr : rightF vk n t.size k g = true) (hc : castsF k g k' g' = true) :
    rightF k' (castN n k k') (castT t k' g').size k' g' = true ∧ ((castT t k' g').size : Int) = g' := by
  obtain ⟨hvk, hm⟩ := right_kind hr
  have hm' : mayF k' g' = true := by unfold castsF at hc; simp at hc; exact hc.1.2
  have hg : 0 ≤ g' := by
    by_cases h : k' = 12
    · subst h; have := may12 hm'; omega
    · have := (may_cases hm' h).1; omega
  have hs : ((castT t k' g').size : Int) = g' := by rw [castT_cut hm', cutT_size]; omega
  refine ⟨?_, hs⟩
  rw [castsP_eq hm hm'] at hc
  subst hvk
  by_cases h12' : k' = 12
  · subst h12'
    have h12 : vk = 12 := by
      by_cases h12 : vk = 12
      · exact h12
      · obtain ⟨rfl, hk⟩ := may_cases hm h12
        rcases hk with rfl | rfl | rfl | rfl | rfl | rfl | rfl | rfl | rfl | rfl | rfl <;> simp [castsP, amB] at hc
    subst h12
    rw [rightF_12 hm] at hr
    rw [rightF_12 hm']
    simp at hr
    have e : castN n 12 12 = n := by simp [castN]
    rw [e]
    simp [hr.1, hs]
  · obtain ⟨rfl, hk'⟩ := may_cases hm' h12'
    have hs0 : (castT t k' 0).size = 0 := by omega
    rw [hs0, rbB_right (castN_U64 hn) hm' h12', rb_iff (castN_U64 hn) hk']
    have h12 : vk ≠ 12 := by
      intro h; subst h
      rcases hk' with rfl | rfl | rfl | rfl | rfl | rfl | rfl | rfl | rfl | rfl | rfl <;> simp [castsP, amB] at hc
    obtain ⟨rfl, hk⟩ := may_cases hm h12
    have ht : t.size = 0 := by
      unfold rightF at hr; simp [h12] at hr; rw [hr.2.1]; rfl
    rw [ht, rbB_right hn hm h12, rb_iff hn hk] at hr
    have h1 := hn.1
    rw [longF_0, longF_0] at hc
    rcases hk with rfl | rfl | rfl | rfl | rfl | rfl | rfl | rfl | rfl | rfl | rfl <;> rcases hk' with rfl | rfl | rfl | rfl | rfl | rfl | rfl | rfl | rfl | rfl | rfl <;>
      first
      | exact absurd hc (by decide)
      | (simp [rbP]; done)
      | (simp [rbP, castN] at hr ⊢; omega)
/-- What was encoded is decoded as it was. -/
theorem dec_enc {vk n : Int} {t : ByteArray} {k g : Int} (hn : U64 n) (hr : rightF vk n t.size k g = true) :
    decR (encT vk n t k g).toList k g = .tuple #[.agg #[.int .i64 vk, .int .u64 n, .string t], .int .i64 0] ∧ ((encT vk n t k g).toList.length : Int) = longF k g := by
  obtain ⟨hvk, hm⟩ := right_kind hr
  subst hvk
  have he : encT vk n t vk g = encL n t vk g := by simp [encT, hr]
  rw [he]
  by_cases h12 : vk = 12
  · subst h12
    have hr2 := hr
    rw [rightF_12 hm] at hr2
    simp at hr2
    have e1 : encL n t 12 g = t := by simp [encL]
    have e2 : (⟨t.toList.toArray⟩ : ByteArray) = t := by rw [ByteArray.toList_eq]
    have e3 : t.toList.length = t.size := by rw [ByteArray.toList_eq, Array.length_toList]; rfl
    have hl : longF 12 g = g := by simp [longF, hm]
    rw [e1]
    have hd : decB t.toList 12 g = true := by rw [decB_12, hm, hl, e3]; simp [hr2.2]
    rw [decR_ok hd, show decN 12 t.toList = 0 by simp [decN], show decT 12 t.toList = t by simp [decT, e2], hr2.1, e3, hl]
    exact ⟨rfl, hr2.2⟩
  · obtain ⟨rfl, hk⟩ := may_cases hm h12
    have ht : t.size = 0 := by
      unfold rightF at hr; simp [h12] at hr; rw [hr.2.1]; rfl
    have htn := size_nil t ht
    rw [ht] at hr
    have hb := hr
    rw [rbB_right hn hm h12] at hb
    have hw := size_isW hk
    have hl : longF vk 0 = sizeOfKind vk := longF_0
    obtain ⟨m, hm2⟩ : ∃ m : Nat, sizeOfKind vk = m := ⟨(sizeOfKind vk).toNat, by have := isW_cases hw; omega⟩
    rw [hm2] at hw
    have hmw := isW_cases hw
    have eL : (encL n t vk 0).toList = le n m := by
      have : encL n t vk 0 = ⟨((le n 8).take (longF vk 0).toNat).toArray⟩ := by simp [encL, h12]
      rw [this, hl, hm2, Int.toNat_natCast, ByteArray.toList_eq]
      show (le n 8).take m = le n m
      exact le_takeK _ _ _ (by omega)
    rw [eL, hl, hm2]
    have hlen : ((le n m).length : Int) = m := by rw [le_length]
    have hN : decN vk (le n m) = n := by
      have hg : getN (le n m) 0 (le n m).length = n % pw m := by
        have : holdsB (le n m).length 0 (le n m).length = true := by rw [le_length]; simp [holdsB, hw]
        simp only [getN, this, if_true]
        rw [Int.toNat_zero, List.drop_zero, Int.toNat_natCast, List.take_length, num_leK n hn.1]
      unfold decN
      rw [if_neg h12, hg, hlen]
      have h1 := hn.1
      have h2 := hn.2
      rw [pw8] at h2
      by_cases hs : 4 < vk ∧ vk < 9
      · rw [if_pos hs]
        have ha : amB 5 8 vk = true := by simp [amB]; omega
        have hf : sgn n m = n := by
          unfold rbB at hb
          rw [if_neg (by omega), ha, hm2] at hb
          simp [fits] at hb; exact hb.2
        have hU : U64 (n % pw m) := ⟨Int.emod_nonneg _ (by have := pw_pos m; omega), by
          have := Int.emod_lt_of_pos n (pw_pos m)
          have hp : pw m ≤ pw 8 := by rcases hmw with e | e | e | e <;> rw [e] <;> decide
          omega⟩
        have : sgn (n % pw m) m = sgn n m := by
          unfold sgn; rw [if_pos hw, if_pos hw, Int.emod_emod_of_dvd n (Int.dvd_refl _)]
        rw [this, hf]
      · rw [if_neg hs]
        refine Int.emod_eq_of_lt h1 ?_
        by_cases h9 : vk = 9
        · unfold rbB at hb
          rw [if_pos h9] at hb
          have := pw_pos m
          have h3 : (256 : Int) ≤ pw m := by rcases hmw with e | e | e | e <;> rw [e] <;> decide
          simp at hb; omega
        · unfold rbB at hb
          have ha : amB 5 8 vk = false := by simp [amB]; omega
          rw [if_neg h9, ha, hm2] at hb
          simp [fits] at hb; exact hb.2
    have hd : decB (le n m) vk 0 = true := by
      rw [decB_ne h12, hm, hl, hm2, hN, hr]; simp [hlen]
    rw [decR_ok hd, hN, htn, show decT vk (le n m) = ⟨#[]⟩ by simp [decT, h12]]
    exact ⟨rfl, hlen⟩
end Go.Proofs.Ytggfcbncjkpkgaa

namespace Go.Proofs.Ytggfcbncjkpkgaa
open Go.RowKit
set_option linter.unusedVariables false

theorem decR_encB {vk n : Int} {t : ByteArray} {k g : Int} (hn : U64 n) (hr : rightF vk n t.size k g = true) : decR (encB vk n t k g) k g = .tuple #[.agg #[.int .i64 vk, .int .u64 n, .string t], .int .i64 0] := by
  have h := (dec_enc hn hr).1
  rw [ByteArray.toList_eq] at h
  exact h
theorem part_same {s E : List UInt8} {a : Nat} (h : a + E.length ≤ s.length) : ((setL s a E).drop a).take E.length = E := by
  unfold setL splice
  have e : (s.take a).length = a := by rw [List.length_take]; omega
  rw [List.drop_append_of_le_length (by omega), List.drop_of_length_le (by omega), List.nil_append, List.take_left']
  rfl
theorem part_get {s E : List UInt8} {a : Nat} (h : a + E.length ≤ s.length) {i : Nat} (hi : i < a ∨ a + E.length ≤ i) : (setL s a E)[i]? = s[i]? := by
  unfold setL splice
  have e : (s.take a).length = a := by rw [List.length_take]; omega
  rcases hi with hi | hi
  · rw [List.getElem?_append_left (by omega), List.getElem?_take_of_lt hi]
  · rw [List.getElem?_append_right (by omega), e, List.getElem?_append_right (by omega), List.getElem?_drop]
    congr 1; omega
theorem part_other {s E : List UInt8} {a b m : Nat} (h : a + E.length ≤ s.length) (hd : b + m ≤ a ∨ a + E.length ≤ b) : ((setL s a E).drop b).take m = (s.drop b).take m := by
  refine List.ext_getElem? fun i => ?_
  by_cases hi : i < m
  · rw [List.getElem?_take_of_lt hi, List.getElem?_take_of_lt hi, List.getElem?_drop, List.getElem?_drop]
    exact part_get h (by omega)
  · rw [List.getElem?_eq_none (by rw [List.length_take]; omega), List.getElem?_eq_none (by rw [List.length_take]; omega)]
section
variable {s : List UInt8} {l : List Fd} {i j : Nat} {f f' : Fd} {p q : Int} {vk n : Int} {t : ByteArray}
theorem set_fits (hr : rightL l = true) (hs : (s.length : Int) = layN l) (hi : l[i]? = some f) (hp : (layP 0 l)[i]? = some p) (hv : rightF vk n t.size f.k f.g = true) : p.toNat + (encB vk n t f.k f.g).length ≤ s.length := by
  have h1 := lay_in hr hi hp
  have h2 := encB_length hv
  have h3 : f.long = longF f.k f.g := rfl
  omega
theorem set_length (hr : rightL l = true) (hs : (s.length : Int) = layN l) (hi : l[i]? = some f) (hp : (layP 0 l)[i]? = some p) (hv : rightF vk n t.size f.k f.g = true) : (setL s p.toNat (encB vk n t f.k f.g)).length = s.length := setL_length _ _ _ (set_fits hr hs hi hp hv)
theorem get_set_same (hr : rightL l = true) (hs : (s.length : Int) = layN l) (hi : l[i]? = some f) (hp : (layP 0 l)[i]? = some p) (hn : U64 n) (hv : rightF vk n t.size f.k f.g = true) :
    getR (setL s p.toNat (encB vk n t f.k f.g)) l f.nm = .tuple #[.agg #[.int .i64 vk, .int .u64 n, .string t], .int .i64 0] := by
  have hf := ((rightL_iff.1 hr).2 i f hi).2.2
  rw [getR_some ⟨hr, by rw [set_length hr hs hi hp hv]; exact hs⟩ hf hi hp]
  have h2 := encB_length hv
  have h3 : f.long.toNat = (encB vk n t f.k f.g).length := by show (longF f.k f.g).toNat = _; omega
  rw [h3, part_same (set_fits hr hs hi hp hv)]
  exact decR_encB hn hv
theorem get_set_other (hr : rightL l = true) (hs : (s.length : Int) = layN l) (hi : l[i]? = some f) (hp : (layP 0 l)[i]? = some p) (hv : rightF vk n t.size f.k f.g = true) (hj : l[j]? = some f') (hij : j ≠ i) :
    getR (setL s p.toNat (encB vk n t f.k f.g)) l f'.nm = getR s l f'.nm := by
  have hf := ((rightL_iff.1 hr).2 j f' hj).2.2
  obtain ⟨q, hq⟩ : ∃ q, (layP 0 l)[j]? = some q := ⟨_, layP_get hj 0⟩
  rw [getR_some ⟨hr, by rw [set_length hr hs hi hp hv]; exact hs⟩ hf hj hq, getR_some ⟨hr, hs⟩ hf hj hq]
  have h2 := encB_length hv
  have h3 : f.long = longF f.k f.g := rfl
  have a1 := lay_in hr hi hp
  have a2 := lay_in hr hj hq
  have a3 := long_pos (right_may hr f' (List.mem_of_getElem? hj))
  rw [part_other (set_fits hr hs hi hp hv)]
  rcases Nat.lt_or_ge j i with c | c
  · have := lay_apart hr hj hi c hq hp
    exact .inl (by omega)
  · have := lay_apart hr hi hj (by omega) hp hq
    exact .inr (by omega)
end
theorem zeroR6 {k g : Int} (h : mayF k g = true) : rightF k 0 (zs g.toNat).size k g = true := by
  rw [zs_size]
  by_cases h12 : k = 12
  · subst h12; have := may12 h; rw [rightF_12 h]; simp; omega
  · obtain ⟨rfl, hk⟩ := may_cases h h12
    rcases hk with rfl | rfl | rfl | rfl | rfl | rfl | rfl | rfl | rfl | rfl | rfl <;> decide
theorem zeroE6 {k g : Int} (h : mayF k g = true) : encB k 0 (zs g.toNat) k g = List.replicate (longF k g).toNat (0 : UInt8) := by
  unfold encB
  rw [show encT k 0 (zs g.toNat) k g = encL 0 (zs g.toNat) k g by simp [encT, zeroR6 h]]
  by_cases h12 : k = 12
  · subst h12
    rw [show longF 12 g = g by simp [longF, h], show encL 0 (zs g.toNat) 12 g = zs g.toNat by simp [encL]]
    simp [zs]
  · obtain ⟨rfl, hk⟩ := may_cases h h12
    rw [show encL 0 (zs (0 : Int).toNat) k 0 = ⟨((le 0 8).take (longF k 0).toNat).toArray⟩ by simp [encL, h12]]
    rcases hk with rfl | rfl | rfl | rfl | rfl | rfl | rfl | rfl | rfl | rfl | rfl <;> decide
/-- What is got of a new object. -/
theorem get_zero {l : List Fd} (hr : rightL l = true) {i : Nat} {f : Fd} (hi : l[i]? = some f) :
    getR (List.replicate (layN l).toNat 0) l f.nm = .tuple #[.agg #[.int .i64 (zeroK f.k f.g), .int .u64 0, .string (zeroT f.k f.g)], .int .i64 0] := by
  have hb := layN_bounds hr
  have hf := ((rightL_iff.1 hr).2 i f hi).2.2
  have hm : mayF f.k f.g = true := right_may hr f (List.mem_of_getElem? hi)
  obtain ⟨p, hp⟩ : ∃ p, (layP 0 l)[i]? = some p := ⟨_, layP_get hi 0⟩
  have a1 := lay_in hr hi hp
  have a3 : 1 ≤ f.long := (long_pos (right_may hr f (List.mem_of_getElem? hi))).1
  rw [getR_some ⟨hr, by rw [List.length_replicate]; omega⟩ hf hi hp, List.drop_replicate, List.take_replicate, Nat.min_eq_left (by omega), show f.long = longF f.k f.g from rfl, ← zeroE6 hm, decR_encB ⟨by omega, by rw [pw8]; omega⟩ (zeroR6 hm)]
  simp [zeroK, zeroT, hm]
end Go.Proofs.Ytggfcbncjkpkgaa

namespace Go.Proofs.Ytggfcbncjkpkgaa
open Go.RowKit
set_option linter.unusedVariables false

theorem byteAt_toNat (c : UInt8) : byteAt (c.toNat : Int) 0 = c := by
  have h1 : pw ((0 : Nat) : Int) = 1 := rfl
  have h2 := c.toNat_lt
  apply UInt8.toNat_inj.1
  unfold byteAt
  rw [h1, UInt8.toNat_ofNat']
  omega
/-- The bytes ahead of a place are those of the fields. -/
def ahead (s : List UInt8) (ls : List Fd) (Z : Nat) : Prop := Z ≤ s.length ∧ s.take Z = [s.getD 0 0] ++ encP ls
theorem ahead_start {s : List UInt8} (h : 0 < s.length) : ahead s [] 1 := by
  refine ⟨h, ?_⟩
  cases s with
  | nil => simp at h
  | cons x s => simp [encP]
theorem ahead_next {s : List UInt8} {ls : List Fd} {Z : Nat} (h : ahead s ls Z) (hz : fstN (s.drop Z) + 3 ≤ (s.drop Z).length) : ahead s (ls ++ [fstF (s.drop Z)]) (Z + (fstN (s.drop Z) + 3)) := by
  have hl : (s.drop Z).length = s.length - Z := List.length_drop
  refine ⟨by have := h.1; omega, ?_⟩
  have e1 : encP (ls ++ [fstF (s.drop Z)]) = encP ls ++ encF (fstF (s.drop Z)) := by simp [encP]
  rw [List.take_add, h.2, e1, ← List.append_assoc]
  congr 1
  generalize s.drop Z = b at hz hl ⊢
  clear hl e1 h
  obtain ⟨N, hN⟩ : ∃ N, N = fstN b := ⟨_, rfl⟩
  unfold fstF encF
  rw [← hN] at hz ⊢
  have hnl : ((b.drop 1).take N).length = N := by rw [List.length_take, List.length_drop]; omega
  rw [hnl, le1, le1, le1, byteAt_toNat, byteAt_toNat]
  have e0 : byteAt (N : Int) 0 = b.getD 0 0 := by rw [hN]; exact byteAt_toNat _
  rw [e0]
  cases b with
  | nil => simp at hz
  | cons x b =>
    simp only [List.getD_cons_zero, List.drop_succ_cons, List.drop_zero, List.getD_cons_succ]
    have h3 : N + 2 ≤ b.length := by simp at hz; omega
    rw [show N + 3 = (N + 2) + 1 by omega, List.take_succ_cons, List.take_add, List.append_assoc, List.append_assoc, List.singleton_append]
    congr 2
    have g1 : b.drop N = b.getD N 0 :: b.drop (N + 1) := by
      rw [List.drop_eq_getElem_cons (by omega), List.getD_eq_getElem?_getD, List.getElem?_eq_getElem (by omega)]; rfl
    have g2 : b.drop (N + 1) = b.getD (N + 1) 0 :: b.drop (N + 2) := by
      rw [List.drop_eq_getElem_cons (by omega), List.getD_eq_getElem?_getD, List.getElem?_eq_getElem (by omega)]; rfl
    rw [g1, g2]; rfl
theorem ahead_end {s : List UInt8} {ls : List Fd} {Z : Nat} (h : ahead s ls Z) (hz : Z = s.length) (hc : ls.length = (s.getD 0 0).toNat) : encA ls = s := by
  have h1 := h.2
  rw [hz, List.take_length] at h1
  unfold encA
  rw [le1, hc, byteAt_toNat]
  exact h1.symm
theorem enc_head {l0 : List Fd} (h : rightL l0 = true) {s : List UInt8} (hs : encA l0 = s) : (s.getD 0 0).toNat = l0.length ∧ 0 < s.length := by
  rw [← hs]
  unfold encA
  rw [le1]
  have := byteAt0 (x := l0.length) (by omega) (by have := right_len h; omega)
  refine ⟨?_, by simp⟩
  simp only [List.singleton_append, List.getD_cons_zero]; omega
theorem fst_at {s : List UInt8} {Z : Nat} (h : Z < s.length) : fstN (s.drop Z) = s[Z].toNat ∧ fstF (s.drop Z) = ⟨(s.drop (Z + 1)).take s[Z].toNat, ((s.drop Z).getD (s[Z].toNat + 1) 0).toNat, ((s.drop Z).getD (s[Z].toNat + 2) 0).toNat⟩ := by
  have e : fstN (s.drop Z) = s[Z].toNat := by
    unfold fstN
    rw [List.drop_eq_getElem_cons h, List.getD_cons_zero]
  refine ⟨e, ?_⟩
  unfold fstF
  rw [e, List.drop_drop]
theorem goesOn_next {s : List UInt8} {ls : List Fd} {Z : Nat} (h : goesOn s ls Z) (hz : fstN (s.drop Z) + 3 ≤ (s.drop Z).length) : goesOn s (ls ++ [fstF (s.drop Z)]) (Z + (fstN (s.drop Z) + 3)) := by
  have hl : (s.drop Z).length = s.length - Z := List.length_drop
  have hzs : Z < s.length := by omega
  obtain ⟨e1, e2⟩ := fst_at hzs
  have hb : Z + s[Z].toNat + 2 < s.length := by rw [← e1]; omega
  have h1 := goes_next h hzs rfl hb
  rw [e2, e1]
  have g : ∀ i, (hi : Z + i < s.length) → (s.drop Z).getD i 0 = s[Z + i] := fun i hi => by
    rw [List.getD_eq_getElem?_getD, List.getElem?_drop, List.getElem?_eq_getElem hi]; rfl
  rw [g _ (by omega), g _ (by omega)]
  have k1 : ∀ i j (hi : i < s.length) (hj : j < s.length), i = j → s[i] = s[j] := fun i j hi hj e => by subst e; rfl
  rw [k1 (Z + (s[Z].toNat + 1)) (Z + 1 + s[Z].toNat) (by omega) (by omega) (by omega), k1 (Z + (s[Z].toNat + 2)) (Z + 2 + s[Z].toNat) (by omega) (by omega) (by omega), show Z + (s[Z].toNat + 3) = Z + 3 + s[Z].toNat by omega]
  exact h1
/-- Bytes in which a field is missing are none. -/
theorem goesOn_bad {s : List UInt8} {ls : List Fd} {Z : Nat} (h : goesOn s ls Z) (hZ : Z ≤ s.length) (hc : ls.length < (s.getD 0 0).toNat) (hz : (s.drop Z).length < fstN (s.drop Z) + 3) : ∀ l, rightL l = true → encA l ≠ s := by
  have hl : (s.drop Z).length = s.length - Z := List.length_drop
  by_cases c : Z < s.length
  · obtain ⟨e1, _⟩ := fst_at c
    exact goes_bad h c (by rw [← e1]; omega)
  · intro l0 h1 h2
    have := goes_end h (by omega) h1 h2
    have := (enc_head h1 h2).1
    subst ls
    omega
/-- Bytes behind the last field: none. -/
theorem goesOn_more {s : List UInt8} {ls : List Fd} {Z : Nat} (h : goesOn s ls Z) (hc : ls.length = (s.getD 0 0).toNat) (hz : Z < s.length) : ∀ l, rightL l = true → encA l ≠ s := by
  intro l0 h1 h2
  obtain ⟨j, hj, hls, e⟩ := h l0 h1 h2
  have h3 := (enc_head h1 h2).1
  have h4 : j = l0.length := by
    rw [hls, List.length_take] at hc; omega
  subst h4
  rw [List.take_length] at e
  have : s.length = 1 + (encP l0).length := by rw [← h2]; unfold encA; rw [List.length_append, le_length]
  omega
theorem fst_small (b : List UInt8) : 0 ≤ (fstF b).k ∧ (fstF b).k < 256 ∧ 0 ≤ (fstF b).g ∧ (fstF b).g < 256 ∧ (fstF b).nm.length < 256 := by
  have h1 := u8_lt b (fstN b + 1); have h2 := u8_lt b (fstN b + 2); have h3 := u8_lt b 0
  unfold fstF
  refine ⟨by show (0 : Int) ≤ ((_ : Nat) : Int); omega, by show ((_ : Nat) : Int) < 256; omega, by show (0 : Int) ≤ ((_ : Nat) : Int); omega, by show ((_ : Nat) : Int) < 256; omega, ?_⟩
  show ((b.drop 1).take (fstN b)).length < 256
  rw [List.length_take]; unfold fstN; omega
theorem OwF.shape {w : World} {base : Nat} {v : Value} {l : List Fd} (h : OwF w base v l) : ∃ A n c, v = .slice A n c := by
  rcases h.2 with ⟨e, _⟩ | ⟨g, cap, cur, hv, _⟩
  · exact ⟨_, _, _, e⟩
  · exact ⟨_, _, _, hv⟩
theorem fst_any_small {ls : List Fd} (h : small ls) (b : List UInt8) : small (ls ++ [fstF b]) := fun f hf => by
  rcases List.mem_append.1 hf with h1 | h1
  · exact h f h1
  · rw [List.mem_singleton] at h1; subst h1; exact fst_small b

set_option maxRecDepth 20000 in
set_option maxHeartbeats 4000000 in
theorem p6decode_any {w : World} {A2 : Option Addr} {n2 c2 : Nat} {s : List UInt8} (h2 : Rd w w.heap.size A2 n2 c2 s) (hsl : n2 ≤ 100000) : Calls Try.prog 31 #[.slice A2 n2 c2] w (DecQ w s) := by
  have HL := hid h2.1
  obtain ⟨C, hC⟩ : ∃ C, C = (s.getD 0 0).toNat := ⟨_, rfl⟩
  have hC2 : C < 256 := by rw [hC]; exact u8_lt s 0
  have HG0 : Hid (Calls Try.prog 48 #[.slice A2 n2 c2, .int .i64 0, .int .i64 1] w fun e w2 => e = .returned (.tuple #[.int .u64 C, .bool (decide (0 < n2))]) ∧ Below w.heap.size w w2) := by
    have := get_any A2 n2 c2 s 0 1 w h2
    rw [show getN s 0 1 = (C : Int) by rw [hC]; exact getN1 s 0, show holdsB n2 0 1 = decide (0 < n2) from holds1 n2 0] at this
    exact this
  have H := hid h2; have HCC := hid hC
  clear h2 hC
  go_enter Try.func31, Try.ntmps31
  go_wp2_with fail
  refine HG0.out.mono ?_
  rintro e w1 ⟨rfl, hb1⟩
  have HB1 := hid hb1
  clear hb1
  by_cases h0 : 0 < n2
  · rw [show decide (0 < n2) = true from decide_eq_true h0]
    obtain ⟨b0, off, rfl, hb0, hcc⟩ := H.out.2.2.2.2 h0
    have hnc := H.out.2.1
    obtain ⟨R1, hR1⟩ : ∃ R1, R1 = (if c2 = 1 then some (⟨b0, off, none⟩ : Addr) else some ⟨b0, off + 1, none⟩) := ⟨_, rfl⟩
    have hrd : Rd w w.heap.size R1 (n2 - 1) (c2 - 1) (s.drop 1) := by
      have := H.out.drop (k := 1) (by omega)
      rw [hR1]; simpa [add_plain] using this
    have s1 : (1 : Int) ≤ (n2 : Int) := by omega
    have s2 : 1 ≤ n2 := h0
    have s3 : 1 ≤ c2 := by omega
    have HRD := hid hrd
    clear hcc hb0 hrd hnc
    have HR1 := hid hR1
    clear hR1
    have HST : Hid (goesOn s [] 1 ∧ ahead s [] 1) := ⟨goes_start s, ahead_start (by have := HL.out; omega)⟩
    go_wp2_with fail
    all_goals have hR2 := HR1.out
    all_goals first | rw [if_pos (show c2 = 1 by assumption)] at hR2 | rw [if_neg (show ¬ c2 = 1 by assumption)] at hR2
    all_goals have HR2 := hid hR2
    all_goals clear hR2
    all_goals
      go_loopw [6, 7, 21] (fun v r i wr => ∃ (j Z : Nat) (ls : List Fd) (A : Option Addr) (c : Nat), j ≤ C ∧ i = .int .u64 j ∧ r = .slice A (n2 - Z) c ∧ Hid (Rd wr w.heap.size A (n2 - Z) c (s.drop Z)) ∧ Hid (OwF wr w.heap.size v ls) ∧ Hid (small ls) ∧ Hid (ls.length = j) ∧ Hid (goesOn s ls Z) ∧ Hid (ahead s ls Z) ∧ Hid (Below w.heap.size w wr)) (fun _ _ i _ => C - (intOf i).toNat)
      case atStart =>
        exact ⟨0, 1, [], R1, c2 - 1, by omega, rfl, by rw [HR2.out]; first | done | (congr 1; omega), hid (HRD.out.below HB1.out), hid (OwF.nil _ _), hid (fun f hf => by cases hf), hid rfl, hid HST.out.1, hid HST.out.2, HB1⟩
      case round =>
        obtain ⟨j, Z, ls, A, c, hj, rfl, rfl, HRX, HO, HSM, HLS, HG, HAH, HB⟩ := hrel
        obtain ⟨A9, n9, c9, rfl⟩ := HO.out.shape
        have hdl : (s.drop Z).length = n2 - Z := by rw [List.length_drop, HL.out]
        by_cases hlt : j < C
        · have hji : (j : Int) < C := by omega
          have hjw : IntKind.u64.wrap ((j : Int) + 1) = ((j + 1 : Nat) : Int) := by rw [u64_id (by omega) (by omega)]; simp
          obtain ⟨f, hf⟩ : ∃ f, f = fstF (s.drop Z) := ⟨_, rfl⟩
          obtain ⟨Z', hZ'⟩ : ∃ Z', Z' = Z + (fstN (s.drop Z) + 3) := ⟨_, rfl⟩
          have hml : (s.drop Z).length - (fstN (s.drop Z) + 3) = n2 - Z' := by rw [hdl]; omega
          have HF := hid hf; have HZ := hid hZ'; have HML := hid hml; have HDL := hid hdl
          clear hf hZ' hml hdl
          go_wp2_with fail
          refine (first_any HRX.out HB.out.size (by omega)).mono ?_
          rintro e w3 ⟨hb3, (⟨hok, A3, c3, rfl, hr3⟩ | ⟨hno, rfl⟩)⟩
          · rw [← HF.out, HML.out]
            rw [HML.out] at hr3
            have hr4 : Rd w3 w.heap.size A3 (n2 - Z') c3 (s.drop Z') := by rw [List.drop_drop, ← HZ.out] at hr3; exact hr3
            have HB3 := hid (Bt HB.out hb3)
            have HO3 := hid (HO.out.on hb3)
            have HG3 : Hid (goesOn s (ls ++ [f]) Z') := by rw [HF.out, HZ.out]; exact goesOn_next HG.out hok
            have HA3 : Hid (ahead s (ls ++ [f]) Z') := by rw [HF.out, HZ.out]; exact ahead_next HAH.out hok
            have HS3 : Hid (small (ls ++ [f])) := by rw [HF.out]; exact fst_any_small HSM.out _
            obtain ⟨w4, hw4⟩ : ∃ w4, w4 = w3.alloc (.cells #[.string (bs f.nm), .int .i64 f.k, .int .i64 f.g] 40) := ⟨_, rfl⟩
            have hb4 : Below w3.heap.size w3 w4 := by rw [hw4]; exact B1 _ _
            have hb4w : Below w.heap.size w3 w4 := hb4.mono HB3.out.size
            have HB4 := hid (Bt HB3.out hb4)
            obtain ⟨v5, w5, hrun, hown, hbw⟩ := run_appFd (HO3.out.on hb4) f (by have := HLS.out; omega) HB4.out.size 22
            have HB5 : Hid (Below w.heap.size w w5) := HB4.out.trans (((Below.refl _ _).alloc HB4.out.size _).trans hbw)
            have HR5 : Hid (Rd w5 w.heap.size A3 (n2 - Z') c3 (s.drop Z')) := hr4.below (hb4w.trans (((Below.refl _ _).alloc HB4.out.size _).trans hbw))
            rw [hw4] at hrun
            simp only [World.size_alloc] at hrun
            have HRUN := hid hrun; have HOW := hid hown
            have HLS5 : Hid ((ls ++ [f]).length = j + 1) := by show _ = _; rw [List.length_append, HLS.out]; rfl
            clear hb3 hr3 hok hr4 hw4 hb4 hb4w hrun hown hbw
            dsimp only [fv]
            go_wp2_with (at_builtin; refine wpList_appG rfl _ _ rfl rfl rfl HRUN.out ?_)
            go_roundw
            case rel => exact ⟨j + 1, Z', ls ++ [f], A3, c3, by omega, by simp, rfl, HR5, HOW, HS3, HLS5, HG3, HA3, HB5⟩
            case measure => simp [intOf]; omega
          · have HBAD : Hid (∀ l, rightL l = true → encA l ≠ s) := goesOn_bad HG.out HAH.out.1 (by rw [HLS.out, ← HCC.out]; exact hlt) hno
            have HB3 := hid (Bt HB.out hb3)
            clear hb3 hno
            dsimp only [fv]
            go_wp2_with fail
            go_ret2
            exact ⟨Ba HB3.out _, .inr ⟨HBAD.out, rfl⟩⟩
        · obtain rfl : j = C := by omega
          have HLC : Hid (ls.length = (s.getD 0 0).toNat) := by show _ = _; rw [HLS.out, ← HCC.out]
          by_cases hmore : Z < n2
          · have d1 : decide (0 < n2 - Z) = true := decide_eq_true (by omega)
            have d2 : 0 < n2 - Z := by omega
            have HBAD : Hid (∀ l, rightL l = true → encA l ≠ s) := goesOn_more HG.out HLC.out (by rw [HL.out]; exact hmore)
            clear hmore hdl
            go_wp2_with fail
            go_ret2
            exact ⟨HB.out, .inr ⟨HBAD.out, rfl⟩⟩
          · have HZE : Hid (Z = s.length) := by show _ = _; have := HAH.out.1; have := HL.out; omega
            have hz0 : n2 - Z = 0 := by omega
            obtain ⟨A1, c1, e1, hrd⟩ := HO.out.rd (fun f hf => by
              have := HSM.out f hf
              exact ⟨i64_iff.2 (by omega), i64_iff.2 (by omega), by unfold nmMax; omega⟩)
            cases e1
            have HRL := hid hrd
            have HSH : Hid (short ls) := fun f hf => by have := HSM.out f hf; omega
            rw [hz0]
            clear hmore hdl hz0 hrd
            go_wp2_with fail
            refine (p6right_any (HRL.out.more (Nat.le_refl _)) HSH.out).mono ?_
            rintro e w3 ⟨rfl, hb3⟩
            have HB3 := hid (Bt HB.out hb3); have HO3 := hid (HO.out.on hb3)
            clear hb3
            cases hr : rightL ls with
            | false =>
              have HBAD : Hid (∀ l, rightL l = true → encA l ≠ s) := fun l h1 h2 => by
                rw [goes_end HG.out (by rw [HZE.out]; exact Nat.le_refl _) h1 h2, h1] at hr; cases hr
              clear hr
              go_wp2_with fail
              go_ret2
              exact ⟨HB3.out, .inr ⟨HBAD.out, rfl⟩⟩
            | true =>
              have HR := hid hr
              have HEN : Hid (encA ls = s) := ahead_end HAH.out HZE.out HLC.out
              clear hr
              go_wp2_with fail
              go_ret2
              exact ⟨HB3.out, .inl ⟨ls, _, HR.out, HEN.out, rfl, HO3.out⟩⟩
  · rw [show decide (0 < n2) = false from decide_eq_false h0]
    have HBAD : Hid (∀ l, rightL l = true → encA l ≠ s) := fun l h1 h2 => by
      have h3 := (enc_head h1 h2).2; have h4 := HL.out
      omega
    clear h0
    go_wp2_with fail
    go_ret2
    exact ⟨HB1.out, .inr ⟨HBAD.out, rfl⟩⟩
end Go.Proofs.Ytggfcbncjkpkgaa
