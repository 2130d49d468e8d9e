/-
  The document's words of a device, and what calls make of them: mathematics.
  pmem.Of; a call on a device, and on the document's words.
  A device and the document's words are the same; a device behind a script.
-/
import Derived.Test.YteggkojlpgkhbaaGreatM12

namespace Go.Proofs.YteggkojlpgkhbaaGreat
open Go.RowKit Go.Maps Go.Shelf
set_option linter.unusedVariables false

def wdOf (D : DS) (i : Nat) : Wd := ⟨wordOf D.S i, (D.L i).getD (wordOf D.S i), (D.L i).isSome, D.F i⟩
/-- A device's words, as the document has them. -/
def wordsOf (D : DS) : List Wd := (List.range (D.S.length / 8)).map (wdOf D)
theorem wordsOf_length (D : DS) : (wordsOf D).length = D.S.length / 8 := by simp [wordsOf]
theorem wordsOf_get (D : DS) {i : Nat} (h : i < D.S.length / 8) : (wordsOf D)[i]'(by rw [wordsOf_length]; exact h) = wdOf D i := by simp [wordsOf]
theorem wordsOf_get? (D : DS) {i : Nat} (h : i < D.S.length / 8) : (wordsOf D)[i]? = some (wdOf D i) := by
  rw [List.getElem?_eq_getElem (by rw [wordsOf_length]; exact h), wordsOf_get D h]
theorem words_ext {D : DS} {l : List Wd} (hl : l.length = D.S.length / 8) (h : ∀ (i : Nat) (hi : i < l.length), l[i] = wdOf D i) : l = wordsOf D := by
  refine List.ext_getElem (by rw [wordsOf_length, hl]) fun i h1 h2 => ?_
  rw [h i h1, wordsOf_get D (by omega)]
theorem word8 {S : List UInt8} {i : Nat} (h : i < S.length / 8) : (wordOf S i).length = 8 := wordOf_length (by omega) (by omega)
theorem words_ok (D : DS) : ok8 (wordsOf D) := by
  intro x hx
  obtain ⟨i, hi, rfl⟩ := List.mem_map.1 hx
  rw [List.mem_range] at hi
  exact word8 hi
theorem seen_words (D : DS) (h8 : D.S.length % 8 = 0) : seenL (wordsOf D) = D.S := by
  have key : ∀ k, k ≤ D.S.length / 8 → seenL ((wordsOf D).take k) = D.S.take (k * 8) := by
    intro k
    induction k with
    | zero => intro _; simp [seenL]
    | succ k ih =>
      intro hk
      rw [seenL_take (wordsOf_get? D (by omega)), ih (by omega)]
      show D.S.take (k * 8) ++ wordOf D.S k = _
      unfold wordOf
      rw [show ((k : Int) * 8).toNat = k * 8 by omega, show (k + 1) * 8 = k * 8 + 8 by omega, List.take_add]
  have := key (D.S.length / 8) (Nat.le_refl _)
  rw [List.take_of_length_le (by rw [wordsOf_length]; exact Nat.le_refl _), List.take_of_length_le (by omega)] at this
  exact this
theorem new_words (b : List UInt8) {n : Nat} (hb : b.length = n * 8) : newW b n = wordsOf (cl b) := by
  refine words_ext (by rw [newW_length]; show n = b.length / 8; omega) fun i hi => ?_
  rw [newW_length] at hi
  have e : ((i : Int) * 8).toNat = i * 8 := by omega
  simp [newW, wdOf, cl, wordOf, e]

theorem mapIdx_words {D D' : DS} {f : Nat → Wd → Wd} (hl : D'.S.length = D.S.length) (h : ∀ i : Nat, i < D.S.length / 8 → f i (wdOf D i) = wdOf D' i) : (wordsOf D).mapIdx f = wordsOf D' := by
  refine words_ext (by simp [wordsOf_length, hl]) fun i hi => ?_
  have hi' : i < D.S.length / 8 := by simpa [wordsOf_length] using hi
  rw [List.getElem_mapIdx, wordsOf_get D hi', h i hi']

theorem fence_words (D : DS) : (wordsOf D).mapIdx feW = wordsOf ⟨D.S, feL D.L D.F, fun _ => false⟩ := by
  refine mapIdx_words rfl fun i hi => ?_
  unfold feW wdOf feL
  cases h : D.F i <;> simp [h]
theorem flush_words (D : DS) {at_ long : Int} (h0 : 0 ≤ at_) (h1 : 0 ≤ long) : (wordsOf D).mapIdx (flW at_ long) = wordsOf ⟨D.S, D.L, flF D.F D.L (spA at_ long) (spB at_ long)⟩ := by
  refine mapIdx_words rfl fun i hi => ?_
  have e : (0 < long ∧ 8 * (i : Int) < at_ + long ∧ at_ < 8 * (i : Int) + 8) ↔ (spA at_ long ≤ (i : Int) ∧ (i : Int) < spB at_ long) := by
    unfold spA spB
    by_cases c : long = 0
    · rw [if_pos c, if_pos c]; omega
    · rw [if_neg c, if_neg c]; omega
  by_cases c : 0 < long ∧ 8 * (i : Int) < at_ + long ∧ at_ < 8 * (i : Int) + 8
  · cases hl : (D.L i).isSome with
    | true =>
      unfold flW
      rw [if_pos (show _ ∧ (wdOf D i).loose = true from ⟨c, hl⟩)]
      simp only [wdOf, flF, hl, decide_eq_true (e.1 c)]; simp
    | false =>
      unfold flW
      rw [if_neg (show ¬ (_ ∧ (wdOf D i).loose = true) from fun h => by have h2 : (D.L i).isSome = true := h.2; rw [hl] at h2; cases h2)]
      simp only [wdOf, flF, hl]; simp
  · unfold flW
    rw [if_neg (fun h => c h.1)]
    have : decide (spA at_ long ≤ (i : Int) ∧ (i : Int) < spB at_ long) = false := by rw [decide_eq_false_iff_not]; exact fun h => c (e.2 h)
    simp only [wdOf, flF, this]; simp

theorem wordOf_get {S : List UInt8} {i : Nat} (j : Nat) (hj : j < 8) : (wordOf S i)[j]? = S[i * 8 + j]? := by
  unfold wordOf
  rw [List.getElem?_take_of_lt hj, List.getElem?_drop, show ((i : Int) * 8).toNat = i * 8 by omega]
theorem word_eq {S : List UInt8} {i : Nat} {l : List UInt8} (hi : i < S.length / 8) (hl : l.length = 8) (h : ∀ j, j < 8 → S[i * 8 + j]? = l[j]?) : wordOf S i = l := by
  refine List.ext_getElem? fun j => ?_
  by_cases hj : j < 8
  · rw [wordOf_get j hj, h j hj]
  · rw [List.getElem?_eq_none (by rw [word8 hi]; omega), List.getElem?_eq_none (by omega)]
theorem crash_words (D : DS) (hk : ∀ k x, D.L k = some x → x.length = 8) (ks : List Int) : (wordsOf D).mapIdx (crW ks) = wordsOf (cl (crS D.S D.L (fun k => !decide (k ∈ ks)))) := by
  refine mapIdx_words (show (crS D.S D.L (fun k => !decide (k ∈ ks))).length = D.S.length from crS_length _ _ _) fun i hi => ?_
  have hg : ∀ j, j < 8 → (crS D.S D.L (fun k => !decide (k ∈ ks)))[i * 8 + j]? = some (match D.L i with
      | some x => if (!decide ((i : Int) ∈ ks)) = true then x.getD j 0 else D.S.getD (i * 8 + j) 0
      | none => D.S.getD (i * 8 + j) 0) := fun j hj => by
    rw [crS_get (by omega), show (i * 8 + j) / 8 = i by omega, show (i * 8 + j) % 8 = j by omega]
    cases D.L i <;> rfl
  have hlen : i < (crS D.S D.L (fun k => !decide (k ∈ ks))).length / 8 := by rw [crS_length]; exact hi
  have hsame : (∀ x, D.L i = some x → (i : Int) ∈ ks) → wordOf (crS D.S D.L (fun k => !decide (k ∈ ks))) i = wordOf D.S i := fun hc => by
    refine word_eq hlen (word8 hi) fun j hj => ?_
    rw [hg j hj, wordOf_get j hj, List.getElem?_eq_getElem (by omega)]
    cases hl : D.L i with
    | none => simp [List.getD, List.getElem?_eq_getElem (show i * 8 + j < D.S.length by omega)]
    | some x => simp [hc x hl, List.getD, List.getElem?_eq_getElem (show i * 8 + j < D.S.length by omega)]
  have hw : wdOf (cl (crS D.S D.L (fun k => !decide (k ∈ ks)))) i = ⟨wordOf (crS D.S D.L (fun k => !decide (k ∈ ks))) i, wordOf (crS D.S D.L (fun k => !decide (k ∈ ks))) i, false, false⟩ := rfl
  rw [hw]
  unfold crW
  by_cases c : (wdOf D i).loose = true ∧ (i : Int) ∉ ks
  · rw [if_pos c]
    obtain ⟨x, hx⟩ := Option.isSome_iff_exists.1 (show (D.L i).isSome = true from c.1)
    have : wordOf (crS D.S D.L (fun k => !decide (k ∈ ks))) i = x := by
      refine word_eq hlen (hk _ _ hx) fun j hj => ?_
      have h8 := hk _ _ hx
      rw [hg j hj, hx]
      simp [c.2, List.getD, List.getElem?_eq_getElem (show j < x.length by omega)]
    rw [this]
    simp [wdOf, hx]
  · rw [if_neg c, hsame (fun x hx => by
      by_cases hm : (i : Int) ∈ ks
      · exact hm
      · exact absurd ⟨show (D.L i).isSome = true by rw [hx]; rfl, hm⟩ c)]
    rfl
theorem loose_words (D : DS) : looseW (wordsOf D) = looseL (D.S.length / 8) D.L := by
  unfold looseW looseK looseL
  rw [wordsOf_length]
  refine List.filter_congr fun k hk => ?_
  obtain ⟨i, hi, rfl⟩ := List.mem_map.1 hk
  rw [List.mem_range] at hi
  simp only [Int.ofNat_eq_natCast, Int.toNat_natCast, wordsOf_get? D hi, Option.map_some, Option.getD_some]
  rfl

/-! ### write -/
def DS.w1 (D : DS) (a : Nat) (b : UInt8) : DS := ⟨D.S.set a b, fun k => if k = ((a / 8 : Nat) : Int) then some ((D.L k).getD (wordOf D.S k)) else D.L k, fun k => D.F k && !decide (k = ((a / 8 : Nat) : Int))⟩
theorem word_set (S : List UInt8) (a : Nat) (b : UInt8) (i : Nat) (h : i < S.length / 8) : wordOf (S.set a b) i = if i = a / 8 then (wordOf S i).set (a % 8) b else wordOf S i := by
  refine word_eq (by simpa using h) (by split <;> simp [word8 h]) fun j hj => ?_
  rw [List.getElem?_set]
  by_cases c : i = a / 8
  · rw [if_pos c, List.getElem?_set, wordOf_get j hj, word8 h]
    by_cases e : a = i * 8 + j
    · rw [if_pos e, if_pos (by omega), if_pos (by omega), if_pos (by omega)]
    · rw [if_neg e, if_neg (by omega)]
  · rw [if_neg c, if_neg (by omega), wordOf_get j hj]
theorem wrA_words (D : DS) {a : Nat} {b : UInt8} (ha : a < D.S.length) (h8 : D.S.length % 8 = 0) : wrA (wordsOf D) a b = wordsOf (D.w1 a b) := by
  have hlt : a / 8 < D.S.length / 8 := by omega
  have e : wrA (wordsOf D) a b = (wordsOf D).set (a / 8) (wrB (wdOf D (a / 8)) (a % 8) b) := by unfold wrA; rw [wordsOf_get? D hlt]
  rw [e]
  refine words_ext (by simp [wordsOf_length, DS.w1]) fun i hi => ?_
  have hi' : i < D.S.length / 8 := by simpa [wordsOf_length] using hi
  rw [List.getElem_set]
  by_cases c : a / 8 = i
  · rw [if_pos c]
    subst c
    simp only [wdOf, wrB, DS.w1]
    rw [word_set _ _ _ _ hlt]; simp
  · rw [if_neg c, wordsOf_get D hi']
    have c2 : ¬ ((i : Int) = ((a / 8 : Nat) : Int)) := by omega
    simp only [wdOf, DS.w1]
    rw [word_set _ _ _ _ hi', if_neg (fun h => c h.symm), if_neg c2, decide_eq_false c2]
    simp
def DS.wN : DS → Nat → List UInt8 → DS
  | D, _, [] => D
  | D, a, b :: bs => DS.wN (D.w1 a b) (a + 1) bs
theorem wrN_words : ∀ (bs : List UInt8) (D : DS) (a : Nat), a + bs.length ≤ D.S.length → D.S.length % 8 = 0 → wrN (wordsOf D) a bs = wordsOf (D.wN a bs) := by
  intro bs
  induction bs with
  | nil => intro D a _ _; rfl
  | cons b bs ih =>
    intro D a h h8
    have hl : (D.w1 a b).S.length = D.S.length := by simp [DS.w1]
    show wrN (wrA (wordsOf D) a b) (a + 1) bs = _
    simp only [List.length_cons] at h
    rw [wrA_words D (by omega) h8, ih _ _ (by rw [hl]; omega) (by rw [hl]; exact h8)]
    rfl
theorem setL_cons (S : List UInt8) (a : Nat) (b : UInt8) (bs : List UInt8) (h : a + bs.length + 1 ≤ S.length) : setL S a (b :: bs) = setL (S.set a b) (a + 1) bs := by
  refine List.ext_getElem? fun i => ?_
  rw [setL_get _ _ _ (by simp; omega), setL_get _ _ _ (by simp; omega), List.getElem?_set]
  simp only [List.length_cons]
  by_cases c : a = i
  · subst c
    rw [if_pos (by omega), if_neg (by omega), if_pos rfl, if_pos (by omega)]; simp
  · by_cases c1 : a < i ∧ i < a + (bs.length + 1)
    · rw [if_pos (by omega), if_pos (by omega), show i - a = (i - (a + 1)) + 1 by omega]; simp
    · rw [if_neg (by omega), if_neg (by omega), if_neg c]
theorem wN_eq : ∀ (bs : List UInt8) (D : DS) (a : Nat), a + bs.length ≤ D.S.length → D.S.length % 8 = 0 → (∀ k x, D.L k = some x → 0 ≤ k ∧ k * 8 + 8 ≤ D.S.length) →
    D.wN a bs = ⟨setL D.S a bs, wrL D.S D.L (spA a bs.length) (spB a bs.length), wrF D.F (spA a bs.length) (spB a bs.length)⟩ := by
  intro bs
  induction bs with
  | nil =>
    intro D a _ _ _
    show D = _
    have e1 : wrL D.S D.L (spA a ([] : List UInt8).length) (spB a ([] : List UInt8).length) = D.L := by
      funext k; unfold wrL spA spB; simp; omega
    have e2 : wrF D.F (spA a ([] : List UInt8).length) (spB a ([] : List UInt8).length) = D.F := by
      funext k; unfold wrF spA spB; simp; omega
    rw [e1, e2, setL_nil]
  | cons b bs ih =>
    intro D a h h8 hL
    simp only [List.length_cons] at h
    have hl : (D.w1 a b).S.length = D.S.length := by simp [DS.w1]
    have hL1 : ∀ k x, (D.w1 a b).L k = some x → 0 ≤ k ∧ k * 8 + 8 ≤ (D.w1 a b).S.length := by
      intro k x hx
      rw [hl]
      by_cases c : k = ((a / 8 : Nat) : Int)
      · omega
      · simp only [DS.w1, if_neg c] at hx; exact hL k x hx
    show (D.w1 a b).wN (a + 1) bs = _
    rw [ih _ _ (by rw [hl]; omega) (by rw [hl]; exact h8) hL1]
    have e0 : setL (D.w1 a b).S (a + 1) bs = setL D.S a (b :: bs) := (setL_cons _ _ _ _ (by omega)).symm
    have sp : ∀ k : Int, (spA ((a + 1 : Nat) : Int) bs.length ≤ k ∧ k < spB ((a + 1 : Nat) : Int) bs.length) ∨ k = ((a / 8 : Nat) : Int) ↔ (spA (a : Int) ((b :: bs).length : Nat) ≤ k ∧ k < spB (a : Int) ((b :: bs).length : Nat)) := by
      intro k
      simp only [List.length_cons]
      unfold spA spB
      have c1 : ¬ (((bs.length + 1 : Nat) : Int) = 0) := by omega
      rw [if_neg c1, if_neg c1]
      by_cases c : ((bs.length : Nat) : Int) = 0
      · rw [if_pos c, if_pos c]; omega
      · rw [if_neg c, if_neg c]; omega
    have hword : ∀ k : Int, 0 ≤ k → k * 8 + 8 ≤ D.S.length → k ≠ ((a / 8 : Nat) : Int) → wordOf (D.w1 a b).S k = wordOf D.S k := by
      intro k h0 h1 h2
      obtain ⟨m, rfl⟩ : ∃ m : Nat, (m : Int) = k := ⟨k.toNat, by omega⟩
      show wordOf (D.S.set a b) m = _
      rw [word_set _ _ _ _ (by omega), if_neg (by omega)]
    have e1 : wrL (D.w1 a b).S (D.w1 a b).L (spA ((a + 1 : Nat) : Int) bs.length) (spB ((a + 1 : Nat) : Int) bs.length) = wrL D.S D.L (spA (a : Int) ((b :: bs).length : Nat)) (spB (a : Int) ((b :: bs).length : Nat)) := by
      funext k
      have hs := sp k
      unfold wrL
      by_cases c : k = ((a / 8 : Nat) : Int)
      · have hv : (D.w1 a b).L k = some ((D.L k).getD (wordOf D.S k)) := by simp only [DS.w1, if_pos c]
        rw [if_pos (hs.1 (.inr c)), hv]
        split <;> rfl
      · have hv : (D.w1 a b).L k = D.L k := by simp only [DS.w1, if_neg c]
        rw [hv]
        by_cases c2 : spA ((a + 1 : Nat) : Int) bs.length ≤ k ∧ k < spB ((a + 1 : Nat) : Int) bs.length
        · rw [if_pos c2, if_pos (hs.1 (.inl c2)), hword k ?_ ?_ c]
          · have := c2.1; unfold spA at this; split at this <;> omega
          · have h2 := c2.2; unfold spB at h2
            have h3 := c2.1; unfold spA at h3
            split at h2 <;> split at h3 <;> omega
        · rw [if_neg c2, if_neg (fun h => (hs.2 h).elim c2 c)]
    have e2 : wrF (D.w1 a b).F (spA ((a + 1 : Nat) : Int) bs.length) (spB ((a + 1 : Nat) : Int) bs.length) = wrF D.F (spA (a : Int) ((b :: bs).length : Nat)) (spB (a : Int) ((b :: bs).length : Nat)) := by
      funext k
      have hs := sp k
      unfold wrF
      simp only [DS.w1, Bool.and_assoc]
      congr 1
      rw [← Bool.not_or, ← Bool.decide_or]
      congr 1
      rw [decide_eq_decide]
      constructor
      · rintro (h | h)
        · exact hs.1 (.inr h)
        · exact hs.1 (.inl h)
      · intro h
        rcases hs.2 h with h | h
        · exact .inr h
        · exact .inl h
    rw [e0, e1, e2]
theorem write_words (D : DS) {at_ : Int} {bs : List UInt8} {nb : Nat} (hn : bs.length = nb) (h0 : 0 ≤ at_) (h1 : at_ + nb ≤ D.S.length) (h8 : D.S.length % 8 = 0) (hL : ∀ k x, D.L k = some x → 0 ≤ k ∧ k * 8 + 8 ≤ D.S.length) :
    wrN (wordsOf D) at_.toNat bs = wordsOf ⟨setL D.S at_.toNat bs, wrL D.S D.L (spA at_ nb) (spB at_ nb), wrF D.F (spA at_ nb) (spB at_ nb)⟩ := by
  subst hn
  obtain ⟨a, rfl⟩ : ∃ a : Nat, (a : Int) = at_ := ⟨at_.toNat, by omega⟩
  rw [Int.toNat_natCast, wrN_words bs D a (by omega) h8, wN_eq bs D a (by omega) h8 hL]
end Go.Proofs.YteggkojlpgkhbaaGreat

namespace Go.Proofs.YteggkojlpgkhbaaGreat
open Go.RowKit Go.Maps Go.Shelf
set_option linter.unusedVariables false

set_option maxHeartbeats 1000000 in
theorem of_ok {w : World} {ad : Addr} {n c : Nat} {l : List UInt8} (h : Rd w w.heap.size (some ad) n c l) (h8 : n % 8 = 0) (hm : n ≤ 65536) :
    Calls Tryz.prog 17 #[.slice (some ad) n c] w fun e w' => ∃ d g cap lb fb, e = .returned (.tuple #[.pointer (some ⟨d, 0, none⟩), .int .i64 0]) ∧ Dev w' w.heap.size d g cap lb fb l (fun _ => none) (fun _ => false) ∧ Below w.heap.size w w' := by
  have hcl := bclone_any ad n c l w h (by omega)
  have d1 : ((n : Int).tmod 8 != 0) = false := by rw [Int.tmod_eq_emod_of_nonneg (by omega)]; simp; omega
  have d2 : ((n : Int) % 8 != 0) = false := by simp; omega
  have d3 : decide (65536 < (n : Int)) = false := by simp; omega
  have HCL := hid hcl; have HL := hid h.1; have H8 := hid h8; have HM := hid hm
  clear hcl h h8 hm
  go_enter Tryz.func17, Tryz.ntmps17
  go_wp2_with fail
  refine HCL.out.mono ?_
  rintro e w1 ⟨v, rfl, ho, hn, hb⟩
  obtain ⟨g, cap, hv, hrow, hgB⟩ : ∃ g cap, v = .slice (some ⟨g, 0, none⟩) l.length cap ∧ Row w1 g cap l ∧ w.heap.size ≤ g := by
    rcases ho.2 with ⟨h1, h2⟩ | ⟨g, cap, cur, hv, hbase, hg, h3, h4, h5, h6⟩
    · exact absurd h1 hn
    · exact ⟨g, cap, hv, ⟨cur, hg, by omega, h3, h4, by simpa using h6⟩, hbase⟩
  rw [HL.out] at hv
  subst hv
  have HR := hid hrow; have HB := hid hb
  clear ho hn hrow hb
  go_wp2_with fail
  refine (device_any _ _ _ _).mono ?_
  rintro e w2 ⟨rfl, rfl⟩
  go_wp2_with fail
  go_ret2
  refine ⟨w1.heap.size + 2, g, cap, w1.heap.size, w1.heap.size + 1, rfl, ?_, Ba (Ba (Ba HB.out _) _) _⟩
  have := dev_new w1 w.heap.size g cap l HR.out hgB HB.out.size (by have := HL.out; have := H8.out; have := HM.out; omega)
  rw [HL.out] at this
  exact this

set_option maxHeartbeats 1000000 in
theorem of_bad {w : World} {A : Option Addr} {n c : Nat} (h : ¬ (n % 8 = 0 ∧ n ≤ 65536)) (hm : n ≤ maxLen) :
    Calls Tryz.prog 17 #[.slice A n c] w fun e w' => e = .returned (.tuple #[.pointer none, .int .i64 1]) ∧ w' = w := by
  unfold maxLen at hm
  by_cases c1 : n % 8 = 0
  · have d1 : ((n : Int).tmod 8 != 0) = false := by rw [Int.tmod_eq_emod_of_nonneg (by omega)]; simp; omega
    have d2 : ((n : Int) % 8 != 0) = false := by simp; omega
    have d3 : decide (65536 < (n : Int)) = true := by simp; omega
    clear h c1 hm
    go_enter Tryz.func17, Tryz.ntmps17
    go_wp2_with fail
    go_ret2
    exact ⟨rfl, rfl⟩
  · have d1 : ((n : Int).tmod 8 != 0) = true := by rw [Int.tmod_eq_emod_of_nonneg (by omega)]; simp; omega
    have d2 : ((n : Int) % 8 != 0) = true := by simp; omega
    clear h c1 hm
    go_enter Tryz.func17, Tryz.ntmps17
    go_wp2_with fail
    go_ret2
    exact ⟨rfl, rfl⟩

/-- What a call of a script makes of a device. -/
def opD (D : DS) (o : OpV) : DS :=
  if o.kind = 0 then (if hE D.S.length o.at_ o.nb = 0 then ⟨setL D.S o.at_.toNat o.bs, wrL D.S D.L (spA o.at_ o.nb) (spB o.at_ o.nb), wrF D.F (spA o.at_ o.nb) (spB o.at_ o.nb)⟩ else D)
  else if o.kind = 2 then (if hE D.S.length o.at_ o.long = 0 then ⟨D.S, D.L, flF D.F D.L (spA o.at_ o.long) (spB o.at_ o.long)⟩ else D)
  else if o.kind = 3 then ⟨D.S, feL D.L D.F, fun _ => false⟩
  else if o.kind = 4 then cl (crS D.S D.L (fun k => !decide (k ∈ o.ks)))
  else D
structure DS.good (D : DS) : Prop where
  len : D.S.length % 8 = 0 ∧ D.S.length ≤ 65536
  keyL : ∀ k x, D.L k = some x → 0 ≤ k ∧ k * 8 + 8 ≤ D.S.length ∧ x.length = 8
theorem DevS.good {w : World} {B d g cap lb fb : Nat} {D : DS} (h : DevS w B d g cap lb fb D) : D.good := ⟨h.len, h.keyL⟩
def DoP (w : World) (base : Nat) (l : List Wd) (e : Ending) (w' : World) : Prop := ∃ v er, e = .returned (.tuple #[v, .string ⟨#[]⟩, .int .i64 er]) ∧ OwW w' base v l ∧ Below w.heap.size w w'
theorem do_any {w : World} {base : Nat} {v : Value} {D : DS} (hg : D.good) (h : OwW w base v (wordsOf D)) (hb : base ≤ w.heap.size) (o : OpV) (ho : o.ok w w.heap.size) (h1 : o.kind ≠ 1) :
    Calls Tryz.prog 15 #[v, o.val] w (DoP w base (wordsOf (opD D o))) := by
  obtain ⟨kind, at_, long, ab, nb, cb, bs, ak, nk, ck, ks⟩ := o
  obtain ⟨hk, ha, hl, hbs, hks⟩ := ho
  simp only at hk ha hl hbs hks h1
  unfold OpV.val
  obtain ⟨A, c, rfl, hr⟩ := h.rd
  have hn8 : ((wordsOf D).length * 8 : Nat) = D.S.length := by rw [wordsOf_length]; have := hg.len.1; omega
  have hn : (wordsOf D).length ≤ 8192 := by have := hg.len.2; omega
  have hnb : I64 nb := i64_iff.2 (by have := Nat.le_trans hbs.2.1 hbs.2.2.1; unfold maxLen at this; omega)
  have good : ∀ {l' : List Wd}, l' = wordsOf (opD D ⟨kind, at_, long, ab, nb, cb, bs, ak, nk, ck, ks⟩) → ∀ e w', DoPost w l' e w' → DoP w base (wordsOf (opD D ⟨kind, at_, long, ab, nb, cb, bs, ak, nk, ck, ks⟩)) e w' := by
    rintro l' rfl e w' ⟨v, he, ho, hb'⟩
    exact ⟨v, 0, he, ho.less hb, hb'⟩
  have bad : ∀ {er}, opD D ⟨kind, at_, long, ab, nb, cb, bs, ak, nk, ck, ks⟩ = D → ∀ e w', BadPost w A (wordsOf D).length c er e w' → DoP w base (wordsOf (opD D ⟨kind, at_, long, ab, nb, cb, bs, ak, nk, ck, ks⟩)) e w' := by
    rintro er hD e w' ⟨he, hb'⟩
    rw [hD]
    exact ⟨_, er, he, h.on hb', hb'⟩
  by_cases k0 : kind = 0
  · subst k0
    by_cases he : hE D.S.length at_ nb = 0
    · obtain ⟨y1, y2, y3⟩ := hE_ok he
      refine (do_write hr hn at_ long ab nb cb ak nk ck ha (words_ok D) hbs (by rw [hn8]; exact he)).mono (good ?_)
      rw [write_words D hbs.1 y1 y3 hg.len.1 (fun k x hx => ⟨(hg.keyL k x hx).1, (hg.keyL k x hx).2.1⟩)]
      unfold opD; rw [if_pos rfl, if_pos he]
    · refine (do_bad0 hr hn at_ long ab nb cb ak nk ck ha hnb (by rw [hn8]; exact he)).mono (bad ?_)
      unfold opD; rw [if_pos rfl, if_neg he]
  by_cases k2 : kind = 2
  · subst k2
    by_cases he : hE D.S.length at_ long = 0
    · obtain ⟨y1, y2, y3⟩ := hE_ok he
      refine (do_flush hr hn at_ long ab nb cb ak nk ck ha hl (by rw [hn8]; exact he)).mono (good ?_)
      rw [flush_words D y1 y2]
      unfold opD; rw [if_neg (by simp), if_pos rfl, if_pos he]
    · refine (do_bad2 hr hn at_ long ab nb cb ak nk ck ha hl (by rw [hn8]; exact he)).mono (bad ?_)
      unfold opD; rw [if_neg (by simp), if_pos rfl, if_neg he]
  by_cases k3 : kind = 3
  · subst k3
    refine (do_fence hr hn at_ long ab nb cb ak nk ck).mono (good ?_)
    rw [fence_words]
    unfold opD; rw [if_neg (by simp), if_neg (by simp), if_pos rfl]
  by_cases k4 : kind = 4
  · subst k4
    refine (do_crash hr hn at_ long ab nb cb ak nk ck hks).mono (good ?_)
    rw [crash_words D (fun k x hx => (hg.keyL k x hx).2.2)]
    unfold opD; rw [if_neg (by simp), if_neg (by simp), if_neg (by simp), if_pos rfl]
  refine (do_other hr hn at_ long ab nb cb ak nk ck kind (by omega)).mono (good ?_)
  rw [mapIdx_idW]
  unfold opD; rw [if_neg k0, if_neg k2, if_neg k3, if_neg k4]

set_option maxHeartbeats 2000000 in
theorem does4_any {w : World} {B d g cap lb fb : Nat} {D : DS} (h : DevS w B d g cap lb fb D) (o : OpV) (ho : o.ok w w.heap.size) :
    Calls Tryz.prog 19 #[.pointer (some ⟨d, 0, none⟩), o.val] w fun e w' => e = .returned (.tuple #[]) ∧ DevS w' B d g cap lb fb (opD D o) ∧ Fr g lb fb w w' := by
  obtain ⟨S, L, F⟩ := D
  obtain ⟨kind, at_, long, ab, nb, cb, bs, ak, nk, ck, ks⟩ := o
  obtain ⟨hk, ha, hl, hb, hkk⟩ := ho
  simp only at hk ha hl hb hkk
  unfold OpV.val
  have h : Dev w B d g cap lb fb S L F := h
  obtain ⟨ob, hob⟩ : ∃ ob : Obj, ob = .cells #[.int .i64 kind, .int .i64 at_, .int .i64 long, .slice ab nb cb, .slice ak nk ck] 54 := ⟨_, rfl⟩
  have HD1 := hid (h.alloc ob)
  have HR := hid (hb.on (B1 w ob)); have HK := hid (hkk.on (B1 w ob)); have HA := hid ha; have HLg := hid hl
  have HFR : Hid (Fr g lb fb w (w.alloc ob)) := (Fr.refl g lb fb w).alloc ob
  have HNB : Hid (I64 nb) := i64_iff.2 (by have := Nat.le_trans hb.2.1 hb.2.2.1; unfold maxLen at this; omega)
  rw [hob] at HD1 HR HK HFR
  clear h hb hkk ha hl hk hob
  by_cases k0 : kind = 0
  · subst k0
    by_cases he : hE S.length at_ nb = 0
    · go_enter Tryz.func19, Tryz.ntmps19
      go_wp2_with fail
      refine (write_ok HD1.out at_ HA.out HR.out he).mono ?_
      rintro e w1 ⟨rfl, hd1, hf1⟩
      have HD2 := hid hd1; have HF := hid hf1; clear hd1 hf1
      go_wp2_with fail
      go_end0
      refine ⟨rfl, ?_, HFR.out.trans HF.out⟩
      unfold opD; rw [if_pos rfl, if_pos he]; exact HD2.out
    · go_enter Tryz.func19, Tryz.ntmps19
      go_wp2_with fail
      refine (write_bad HD1.out at_ HA.out HNB.out he).mono ?_
      rintro e w1 ⟨rfl, rfl⟩
      go_wp2_with fail
      go_end0
      refine ⟨rfl, ?_, HFR.out⟩
      unfold opD; rw [if_pos rfl, if_neg he]; exact HD1.out
  by_cases k2 : kind = 2
  · subst k2
    by_cases he : hE S.length at_ long = 0
    · go_enter Tryz.func19, Tryz.ntmps19
      go_wp2_with fail
      refine (flush_ok HD1.out at_ long HA.out HLg.out he).mono ?_
      rintro e w1 ⟨rfl, hd1, hf1⟩
      have HD2 := hid hd1; have HF := hid hf1; clear hd1 hf1
      go_wp2_with fail
      go_end0
      refine ⟨rfl, ?_, HFR.out.trans HF.out⟩
      unfold opD; rw [if_neg (by simp), if_pos rfl, if_pos he]; exact HD2.out
    · go_enter Tryz.func19, Tryz.ntmps19
      go_wp2_with fail
      refine (flush_bad HD1.out at_ long HA.out HLg.out he).mono ?_
      rintro e w1 ⟨rfl, rfl⟩
      go_wp2_with fail
      go_end0
      refine ⟨rfl, ?_, HFR.out⟩
      unfold opD; rw [if_neg (by simp), if_pos rfl, if_neg he]; exact HD1.out
  by_cases k3 : kind = 3
  · subst k3
    go_enter Tryz.func19, Tryz.ntmps19
    go_wp2_with fail
    refine (fence_any HD1.out).mono ?_
    rintro e w1 ⟨rfl, hd1, hf1⟩
    have HD2 := hid hd1; have HF := hid hf1; clear hd1 hf1
    go_wp2_with fail
    go_end0
    refine ⟨rfl, ?_, HFR.out.trans HF.out⟩
    unfold opD; rw [if_neg (by simp), if_neg (by simp), if_pos rfl]; exact HD2.out
  by_cases k4 : kind = 4
  · subst k4
    go_enter Tryz.func19, Tryz.ntmps19
    go_wp2_with fail
    refine (crash_any HD1.out HK.out).mono ?_
    rintro e w1 ⟨rfl, hd1, hf1⟩
    have HD2 := hid hd1; have HF := hid hf1; clear hd1 hf1
    go_wp2_with fail
    go_end0
    refine ⟨rfl, ?_, HFR.out.trans HF.out⟩
    unfold opD; rw [if_neg (by simp), if_neg (by simp), if_neg (by simp), if_pos rfl]; exact HD2.out
  have e0 : (kind == 0) = false := by simpa using k0
  have e2 : (kind == 2) = false := by simpa using k2
  have e3 : (kind == 3) = false := by simpa using k3
  have e4 : (kind == 4) = false := by simpa using k4
  go_enter Tryz.func19, Tryz.ntmps19
  go_wp2_with fail
  go_end0
  refine ⟨rfl, ?_, HFR.out⟩
  unfold opD; rw [if_neg k0, if_neg k2, if_neg k3, if_neg k4]; exact HD1.out
theorem OwW.fr {w w' : World} {base g lb fb : Nat} {v : Value} {l : List Wd} (h : OwW w base v l) (hf : Fr g lb fb w w') (h1 : g < base) (h2 : lb < base) (h3 : fb < base) : OwW w' base v l := by
  refine ⟨h.1, ?_⟩
  rcases h.2 with h0 | ⟨q, cap, cur, hv, hbase, hg, h5⟩
  · exact .inl h0
  · exact .inr ⟨q, cap, cur, hv, hbase, (hf.block q (row_lt hg) (by omega) (by omega) (by omega)).trans hg, h5⟩
end Go.Proofs.YteggkojlpgkhbaaGreat

namespace Go.Proofs.YteggkojlpgkhbaaGreat
open Go.RowKit Go.Maps Go.Shelf
set_option linter.unusedVariables false

theorem looseL_64 {n : Nat} {L : Int → Option (List UInt8)} (h : n ≤ 65536) : ∀ x ∈ looseL (n / 8) L, I64 x := by
  intro x hx
  unfold looseL at hx
  obtain ⟨i, hi, rfl⟩ := List.mem_map.1 (List.mem_filter.1 hx).1
  rw [List.mem_range] at hi
  exact i64_iff.2 (by simp only [Int.ofNat_eq_natCast]; omega)
set_option maxRecDepth 20000 in
set_option maxHeartbeats 4000000 in
theorem same4_any {w : World} {B d g cap lb fb base : Nat} {D : DS} {A : Option Addr} {n c : Nat} (h : DevS w B d g cap lb fb D) (ho : RdW w w.heap.size A n c (wordsOf D)) :
    Calls Tryz.prog 16 #[.pointer (some ⟨d, 0, none⟩), .slice A n c] w fun e w' => e = .returned (.bool true) ∧ Below w.heap.size w w' := by
  have hgd := h.good
  have HG := hid hgd
  have HS : Hid (seenL (wordsOf D) = D.S) := seen_words D hgd.len.1
  have HLW : Hid (looseW (wordsOf D) = looseL (D.S.length / 8) D.L) := loose_words D
  have HN : Hid (n ≤ 8192) := by show n ≤ 8192; have := ho.1; rw [wordsOf_length] at this; have := hgd.len.2; omega
  have HDW : Hid (DevS w B d g cap lb fb D ∧ RdW w w.heap.size A n c (wordsOf D)) := ⟨h, ho⟩
  clear h ho hgd
  obtain ⟨S, L, F⟩ := D
  simp only at HS HLW
  go_enter Tryz.func16, Tryz.ntmps16
  go_wp2_with fail
  refine reg_begin (by kernel_rfl) (fun w0 hx0 hHeld => ?_)
  have HDW0 : Hid (DevS w0 B d g cap lb fb ⟨S, L, F⟩ ∧ RdW w0 w0.heap.size A n c (wordsOf ⟨S, L, F⟩)) := ⟨HDW.out.1.on hx0, HDW.out.2.on hx0⟩
  have hfin := hx0
  refine reg_take 0 (v := ?vz1_0) at0 (by kernel_rfl) (by kernel_rfl) (by kernel_rfl) (by rfl) ?hyz1_0 hHeld ?restz1_0
  case hyz1_0 => (intro w' hSw; go_simp; try with_reducible rfl)
  try simp only [Act.put, List.setIfInBounds_toArray, List.set_cons_zero, List.set_cons_succ]
  refine reg_take 3 (v := ?vz2_3) (atS (atS (atS at0))) (by kernel_rfl) (by kernel_rfl) (by kernel_rfl) (by rfl) ?hyz2_3 hHeld ?restz2_3
  case hyz2_3 => (intro w' hSw; go_simp; try with_reducible rfl)
  try simp only [Act.put, List.setIfInBounds_toArray, List.set_cons_zero, List.set_cons_succ]
  refine wpAnyH_ready (rs := [1]) (by kernel_rfl) (by simp) ?_
  refine AllReadyH.cons (atS at0) (fun K hK => ?_) AllReadyH.nil
  go_simp
  refine (bytes_any HDW0.out.1).mono ?_
  rintro e w2 ⟨v2, rfl, ho2, hb2⟩
  go_wp2_with fail
  refine hK.out _ _ hb2 (fun hHeld => ?_)
  clear hK K
  try simp only [Act.put, List.setIfInBounds_toArray, List.set_cons_zero, List.set_cons_succ]
  refine reg_on hb2 (fun hHeld => ?_)
  have HDW2 : Hid (DevS w2 B d g cap lb fb ⟨S, L, F⟩ ∧ RdW w2 w2.heap.size A n c (wordsOf ⟨S, L, F⟩)) := ⟨HDW0.out.1.on hb2, HDW0.out.2.on hb2⟩
  have hfin := Bt hfin hb2
  obtain ⟨A2, c2, hv2, hr2⟩ := ho2.rd
  subst hv2
  have hcv2 : ∀ w', Ext w2 w' → (convert 22 9 (.slice A2 S.length c2)).run Tryz.prog w' = .ok (.string ⟨S.toArray⟩) w' := fun w' hb => (hr2.on hb).conv
  clear ho2 hr2
  refine reg_take 2 (v := ?vz3_2) (atS (atS at0)) (by kernel_rfl) (by kernel_rfl) (by kernel_rfl) (by rfl) ?hyz3_2 hHeld ?restz3_2
  case hyz3_2 => (intro w' hSw; go_simp; try with_reducible rfl)
  try simp only [Act.put, List.setIfInBounds_toArray, List.set_cons_zero, List.set_cons_succ]
  refine wpAnyH_ready (rs := [4]) (by kernel_rfl) (by simp) ?_
  refine AllReadyH.cons (atS (atS (atS (atS at0)))) (fun K hK => ?_) AllReadyH.nil
  go_simp
  refine (rbytes_any HDW2.out.2 (words_ok _) HN.out).mono ?_
  rintro e w3 ⟨rfl, hb3⟩
  rw [HS.out]
  go_wp2_with fail
  refine hK.out _ _ hb3 (fun hHeld => ?_)
  clear hK K
  try simp only [Act.put, List.setIfInBounds_toArray, List.set_cons_zero, List.set_cons_succ]
  refine reg_on hb3 (fun hHeld => ?_)
  have HDW3 : Hid (DevS w3 B d g cap lb fb ⟨S, L, F⟩ ∧ RdW w3 w3.heap.size A n c (wordsOf ⟨S, L, F⟩)) := ⟨HDW2.out.1.on hb3, HDW2.out.2.on hb3⟩
  have hfin := Bt hfin hb3
  refine reg_take 5 (v := ?vz4_5) (atS5 at0) (by kernel_rfl) (by kernel_rfl) (by kernel_rfl) (by rfl) ?hyz4_5 hHeld ?restz4_5
  case hyz4_5 => (intro w' hSw; go_simp; try with_reducible rfl)
  try simp only [Act.put, List.setIfInBounds_toArray, List.set_cons_zero, List.set_cons_succ]
  refine reg_take 6 (v := ?vz5_6) (atS5 (atS at0)) (by kernel_rfl) (by kernel_rfl) (by kernel_rfl) (by rfl) ?hyz5_6 hHeld ?restz5_6
  case hyz5_6 => (intro w' hSw; go_simp; try with_reducible rfl)
  try simp only [Act.put, List.setIfInBounds_toArray, List.set_cons_zero, List.set_cons_succ]
  refine reg_take 7 (v := ?vz6_7) (atS5 (atS (atS at0))) (by kernel_rfl) (by kernel_rfl) (by kernel_rfl) (by rfl) ?hyz6_7 hHeld ?restz6_7
  case hyz6_7 => (intro w' hSw; go_simp; try with_reducible rfl)
  try simp only [Act.put, List.setIfInBounds_toArray, List.set_cons_zero, List.set_cons_succ]
  refine reg_take 9 (v := ?vz7_9) (atS5 (atS (atS (atS (atS at0))))) (by kernel_rfl) (by kernel_rfl) (by kernel_rfl) (by rfl) ?hyz7_9 hHeld ?restz7_9
  case hyz7_9 => (intro w' hSw; go_simp; try with_reducible rfl)
  try simp only [Act.put, List.setIfInBounds_toArray, List.set_cons_zero, List.set_cons_succ]
  refine wpAnyH_ready (rs := [8]) (by kernel_rfl) (by simp) ?_
  refine AllReadyH.cons (atS5 (atS (atS (atS at0)))) (fun K hK => ?_) AllReadyH.nil
  go_simp
  refine (loose_any HDW3.out.1).mono ?_
  rintro e w4 ⟨v4, rfl, hr4, hb4⟩
  obtain ⟨A4, c4, hv4, hi4⟩ := rdI_of_row hr4 (looseL_64 HG.out.len.2)
  subst hv4
  clear hr4
  go_wp2_with fail
  refine hK.out _ _ hb4 (fun hHeld => ?_)
  clear hK K
  try simp only [Act.put, List.setIfInBounds_toArray, List.set_cons_zero, List.set_cons_succ]
  refine reg_on hb4 (fun hHeld => ?_)
  have HDW4 : Hid (DevS w4 B d g cap lb fb ⟨S, L, F⟩ ∧ RdW w4 w4.heap.size A n c (wordsOf ⟨S, L, F⟩)) := ⟨HDW3.out.1.on hb4, HDW3.out.2.on hb4⟩
  have hfin := Bt hfin hb4
  refine wpAnyH_ready (rs := [10]) (by kernel_rfl) (by simp) ?_
  refine AllReadyH.cons (atS5 (atS5 at0)) (fun K hK => ?_) AllReadyH.nil
  go_simp
  refine (rloose_any HDW4.out.2 HN.out).mono ?_
  rintro e w5 ⟨v5, rfl, hr5, hb5⟩
  rw [HLW.out] at hr5
  obtain ⟨A5, c5, hv5, hi5⟩ := rdI_of_row hr5 (looseL_64 HG.out.len.2)
  subst hv5
  clear hr5
  go_wp2_with fail
  refine hK.out _ _ hb5 (fun hHeld => ?_)
  clear hK K
  try simp only [Act.put, List.setIfInBounds_toArray, List.set_cons_zero, List.set_cons_succ]
  refine reg_on hb5 (fun hHeld => ?_)
  have HDW5 : Hid (DevS w5 B d g cap lb fb ⟨S, L, F⟩ ∧ RdW w5 w5.heap.size A n c (wordsOf ⟨S, L, F⟩)) := ⟨HDW4.out.1.on hb5, HDW4.out.2.on hb5⟩
  have hfin := Bt hfin hb5
  refine wpAnyH_ready (rs := [11]) (by kernel_rfl) (by simp) ?_
  refine AllReadyH.cons (atS5 (atS5 (atS at0))) (fun K hK => ?_) AllReadyH.nil
  go_simp
  refine (same_any (by first | exact hi4 | exact hi4.on hb5) (by first | exact hi5 | exact hi5.on hb4) rfl).mono ?_
  rintro e w6 ⟨rfl, hb6⟩
  go_wp2_with fail
  refine hK.out _ _ hb6 (fun hHeld => ?_)
  clear hK K
  try simp only [Act.put, List.setIfInBounds_toArray, List.set_cons_zero, List.set_cons_succ]
  refine reg_on hb6 (fun hHeld => ?_)
  have hfin := Bt hfin hb6
  refine reg_take 12 (v := ?vz8_12) (atS5 (atS5 (atS (atS at0)))) (by kernel_rfl) (by kernel_rfl) (by kernel_rfl) (by rfl) ?hyz8_12 hHeld ?restz8_12
  case hyz8_12 => (intro w' hSw; go_simp; try with_reducible rfl)
  try simp only [Act.put, List.setIfInBounds_toArray, List.set_cons_zero, List.set_cons_succ]
  refine reg_take 13 (v := ?vz9_13) (atS5 (atS5 (atS (atS (atS at0))))) (by kernel_rfl) (by kernel_rfl) (by kernel_rfl) (by rfl) ?hyz9_13 hHeld ?restz9_13
  case hyz9_13 => (intro w' hSw; go_simp; try with_reducible rfl)
  try simp only [Act.put, List.setIfInBounds_toArray, List.set_cons_zero, List.set_cons_succ]
  refine wpAnyH_done (by kernel_rfl) ?_ _
  refine NoPanic.normal ?_
  go_wp2_with fail
  go_ret
  exact ⟨rfl, hfin⟩
end Go.Proofs.YteggkojlpgkhbaaGreat
