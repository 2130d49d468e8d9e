/-
  wal: what a crash between any two steps, and a recovery, leave.
-/
import Derived.Test.YtpmljbcgaeodjaaLaw4T
namespace Go.Proofs.Ytpmljbcgaeodjaa
open Go.RowKit Go.Maps Go.Shelf
set_option linter.unusedVariables false

/-! ### Devices that differ in some words alone -/
structure Near (P : Nat → Prop) (S0 : List UInt8) (D : DS) : Prop where
  len : D.S.length = S0.length
  agr : ∀ i : Nat, ¬ P (i / 8) → D.S[i]? = S0[i]?
  loo : ∀ (k : Int) (x : List UInt8), D.L k = some x → 0 ≤ k ∧ P k.toNat
theorem Near.start (P : Nat → Prop) (S : List UInt8) : Near P S (cl S) := ⟨rfl, fun _ _ => rfl, fun k x h => by cases h⟩
theorem Near.step {P : Nat → Prop} {S0 : List UInt8} {D : DS} (h : Near P S0 D) {s : Stp} (hs : s.ok S0.length) (hp : ∀ at_ l, s = .wr at_ l → P at_.toNat) : Near P S0 (s.on D) := by
  cases s with
  | wr at_ l =>
    obtain ⟨h0, h1, h2⟩ := hs
    have hl := h.len
    have hpp := hp at_ l rfl
    refine ⟨by show (setL D.S _ _).length = _; rw [setL_length _ _ _ (by omega)]; exact hl, fun i hi => ?_, fun k x hk => ?_⟩
    · show (setL D.S (at_ * 8).toNat l)[i]? = _
      rw [setL_get _ _ _ (by omega), if_neg, h.agr i hi]
      intro hc
      have : i / 8 = at_.toNat := by omega
      rw [this] at hi; exact hi hpp
    · have hk' : wrL D.S D.L at_ (at_ + 1) k = some x := hk
      unfold wrL at hk'
      by_cases c : at_ ≤ k ∧ k < at_ + 1
      · have e : k = at_ := by omega
        subst e; exact ⟨h0, hpp⟩
      · rw [if_neg c] at hk'; exact h.loo k x hk'
  | fl at_ m => exact ⟨h.len, h.agr, h.loo⟩
  | fe =>
    refine ⟨h.len, h.agr, fun k x hk => ?_⟩
    have hk' : feL D.L D.F k = some x := hk
    unfold feL at hk'
    by_cases c : D.F k = true
    · rw [if_pos c] at hk'; cases hk'
    · rw [if_neg c] at hk'; exact h.loo k x hk'
theorem Near.run {P : Nat → Prop} {S0 : List UInt8} : ∀ {ss : List Stp} {D : DS}, Near P S0 D → (∀ s ∈ ss, s.ok S0.length) → (∀ at_ l, .wr at_ l ∈ ss → P at_.toNat) → Near P S0 (runS D ss) := by
  intro ss
  induction ss with
  | nil => intro D h _ _; exact h
  | cons s ss ih =>
    intro D h hs hp
    exact ih (h.step (hs s (by simp)) (fun at_ l e => hp at_ l (by simp [e]))) (fun t ht => hs t (by simp [ht])) (fun at_ l hm => hp at_ l (by simp [hm]))
theorem Near.crash {P : Nat → Prop} {S0 : List UInt8} {D : DS} (h : Near P S0 D) (f : Int → Bool) : (crS D.S D.L f).length = S0.length ∧ ∀ i : Nat, ¬ P (i / 8) → (crS D.S D.L f)[i]? = S0[i]? := by
  refine ⟨by rw [crS_length]; exact h.len, fun i hi => ?_⟩
  by_cases hl : i < D.S.length
  · rw [crS_get hl, ← h.agr i hi]
    cases hL : D.L (i / 8 : Nat) with
    | none => simp [List.getD_eq_getElem?_getD, hl]
    | some x =>
      have := (h.loo _ x hL).2
      simp only [Int.toNat_natCast] at this
      exact absurd this hi
  · rw [crS_none (by omega), List.getElem?_eq_none (by have := h.len; omega)]
theorem runS_append (D : DS) (a b : List Stp) : runS D (a ++ b) = runS (runS D a) b := List.foldl_append

/-! ### One word -/
theorem crash_one {S l : List UInt8} (hS : S.length = 160) (hl : l.length = 8) (f : Int → Bool) : crS (setL S 16 l) (wrL S (fun _ => none) 2 3) f = S ∨ crS (setL S 16 l) (wrL S (fun _ => none) 2 3) f = setL S 16 l := by
  have hlen : (setL S 16 l).length = 160 := by rw [setL_length _ _ _ (by omega)]; exact hS
  cases hf : f 2 with
  | true =>
    left
    refine List.ext_getElem? fun i => ?_
    by_cases hi : i < 160
    · rw [crS_get (by omega)]
      by_cases h2 : i / 8 = 2
      · rw [h2]
        have e : wrL S (fun _ => none) 2 3 ((2 : Nat) : Int) = some (wordOf S 2) := by unfold wrL; rw [if_pos (by omega)]; rfl
        rw [e]
        have hf' : f ((2 : Nat) : Int) = true := hf
        simp only [hf', if_true]
        unfold wordOf
        rw [List.getD_eq_getElem?_getD, List.getElem?_take_of_lt (by omega), List.getElem?_drop, show (2 * 8 : Int).toNat + i % 8 = i by omega]
        simp [show i < S.length by omega]
      · have e : wrL S (fun _ => none) 2 3 ((i / 8 : Nat) : Int) = none := by unfold wrL; rw [if_neg (by omega)]
        rw [e]
        simp only
        rw [List.getD_eq_getElem?_getD, setL_get _ _ _ (by omega), if_neg (by omega)]
        simp [show i < S.length by omega]
    · rw [crS_none (by omega), List.getElem?_eq_none (by omega)]
  | false =>
    right
    refine crS_id fun k x hk => ?_
    unfold wrL at hk
    by_cases c : (2 : Int) ≤ k ∧ k < 3
    · have : k = 2 := by omega
      rw [this]; exact hf
    · rw [if_neg c] at hk; cases hk
theorem one_word {S l : List UInt8} (hS : S.length = 160) (hl : l.length = 8) {i : Nat} (hi : i ≤ 3) (f : Int → Bool) :
    crS (runS (cl S) ((saveS 2 l).take i)).S (runS (cl S) ((saveS 2 l).take i)).L f = S ∨ crS (runS (cl S) ((saveS 2 l).take i)).S (runS (cl S) ((saveS 2 l).take i)).L f = setL S 16 l := by
  have e : saveS 2 l = [.wr 2 l, .fl 2 1, .fe] := by
    unfold saveS saveP
    rw [hl]
    simp [List.range_succ]
    rw [List.take_of_length_le (by omega)]
  rcases (show i = 0 ∨ i = 1 ∨ i = 2 ∨ i = 3 by omega) with rfl | rfl | rfl | rfl
  · left; exact crash_clean S f
  · rw [e]; exact crash_one hS hl f
  · rw [e]; exact crash_one hS hl f
  · right
    have h1 := save_clean S 2 l 1 (by omega) hl (by omega)
    have e3 : (saveS 2 l).take 3 = saveS 2 l := by rw [e]; rfl
    rw [e3, h1]
    exact crash_clean _ f

/-! ### Words, and what is recovered -/
def wordsL (S : List UInt8) : List UInt8 := setL S 16 (zeros 72)
theorem words_get {S : List UInt8} (h : S.length = 160) (i : Nat) : (wordsL S)[i]? = if 16 ≤ i ∧ i < 88 then some 0 else S[i]? := by
  unfold wordsL
  rw [setL_get _ _ _ (by rw [zeros_length]; omega), zeros_length]
  by_cases c : 16 ≤ i ∧ i < 16 + 72
  · rw [if_pos c, if_pos (by omega)]
    unfold zeros
    rw [List.getElem?_replicate, if_pos (by omega)]
  · rw [if_neg c, if_neg (by omega)]
theorem words_length {S : List UInt8} (h : S.length = 160) : (wordsL S).length = 160 := by unfold wordsL; rw [setL_length _ _ _ (by rw [zeros_length]; omega)]; exact h
theorem words_eq {S S' : List UInt8} (h : S.length = 160) (h' : S'.length = 160) (he : ∀ i : Nat, ¬ (16 ≤ i ∧ i < 88) → S[i]? = S'[i]?) : wordsL S = wordsL S' := by
  refine List.ext_getElem? fun i => ?_
  rw [words_get h, words_get h']
  by_cases c : 16 ≤ i ∧ i < 88
  · rw [if_pos c, if_pos c]
  · rw [if_neg c, if_neg c, he i c]
/-- Is byte i one of the words of sets? -/
def inX (xs : List (Int × Int)) (i : Nat) : Prop := ∃ x ∈ xs, x.1 * 8 ≤ i ∧ (i : Int) < x.1 * 8 + 8
theorem bring_same : ∀ {xs : List (Int × Int)} {S S' : List UInt8}, S.length = S'.length → okX S.length xs → (∀ i : Nat, ¬ inX xs i → S[i]? = S'[i]?) → bringL S xs = bringL S' xs := by
  intro xs
  induction xs with
  | nil =>
    intro S S' _ _ h
    exact List.ext_getElem? fun i => h i (fun ⟨x, hx, _⟩ => by cases hx)
  | cons x xs ih =>
    intro S S' hl hok h
    have hx := hok x (by simp)
    have l1 : (setL S (x.1 * 8).toNat (le x.2 8)).length = S.length := setL_length _ _ _ (by rw [le_length]; omega)
    have l2 : (setL S' (x.1 * 8).toNat (le x.2 8)).length = S'.length := setL_length _ _ _ (by rw [le_length]; omega)
    refine ih (S := setL S (x.1 * 8).toNat (le x.2 8)) (S' := setL S' (x.1 * 8).toNat (le x.2 8)) (by omega) (fun y hy => by rw [l1]; exact hok y (by simp [hy])) fun i hi => ?_
    rw [setL_get _ _ _ (by rw [le_length]; omega), setL_get _ _ _ (by rw [le_length]; omega)]
    by_cases c : (x.1 * 8).toNat ≤ i ∧ i < (x.1 * 8).toNat + (le x.2 8).length
    · rw [if_pos c, if_pos c]
    · rw [if_neg c, if_neg c]
      refine h i fun ⟨y, hy, hc⟩ => ?_
      rcases List.mem_cons.1 hy with rfl | hy
      · rw [le_length] at c; omega
      · exact hi ⟨y, hy, hc⟩
theorem bring_out {xs : List (Int × Int)} {S : List UInt8} (hok : okX S.length xs) {i : Nat} (h : ¬ inX xs i) : (bringL S xs)[i]? = S[i]? := bring_get hok (fun x hx hc => h ⟨x, hx, hc⟩)
theorem bring_idem {xs : List (Int × Int)} {S : List UInt8} (hok : okX S.length xs) : bringL (bringL S xs) xs = bringL S xs :=
  bring_same (by rw [bringL_length hok]) (by rw [bringL_length hok]; exact hok) (fun i hi => bring_out hok hi)
/-- What a recovery of the words 2 to 10 leaves. -/
def recv (S : List UInt8) : List UInt8 := if recOk 20 2 9 (recB S 2 9) = true then bringL S (setsL (recY (recB S 2 9))) else S
theorem may_out {xs : List (Int × Int)} (h : xs.all (mayB 20 2 9) = true) {i : Nat} (hi : inX xs i) : ¬ (16 ≤ i ∧ i < 88) ∧ i < 160 := by
  obtain ⟨x, hx, h1, h2⟩ := hi
  have hm := List.all_eq_true.1 h x hx
  unfold mayB at hm
  simp at hm
  omega
theorem words_bring {S : List UInt8} (hS : S.length = 160) {xs : List (Int × Int)} (h : xs.all (mayB 20 2 9) = true) : wordsL (bringL S xs) = bringL (wordsL S) xs := by
  have hok : okX S.length xs := may_ok (n := 20) (at_ := 2) (words := 9) (by rw [hS]; rfl) h
  have hokw : okX (wordsL S).length xs := by rw [words_length hS, ← hS]; exact hok
  have hlb : (bringL S xs).length = 160 := by rw [bringL_length hok]; exact hS
  have e : bringL (wordsL S) xs = bringL (wordsL (bringL S xs)) xs := bring_same (by rw [words_length hS, words_length hlb]) hokw (fun i hi => by
    rw [words_get hS, words_get hlb, bring_out hok hi])
  rw [e]
  refine List.ext_getElem? fun i => ?_
  by_cases hi : inX xs i
  · have hm := may_out h hi
    have hokb : okX (wordsL (bringL S xs)).length xs := by rw [words_length hlb, ← hS]; exact hok
    have e2 : bringL (wordsL (bringL S xs)) xs = bringL (wordsL (bringL S xs)) xs := rfl
    rw [words_get hlb, if_neg hm.1]
    -- both are what the sets bring
    have e3 : bringL (bringL S xs) xs = bringL S xs := bring_idem hok
    have key : ∀ {ys : List (Int × Int)} {T T' : List UInt8}, T.length = T'.length → okX T.length ys → inX ys i → (bringL T ys)[i]? = (bringL T' ys)[i]? := by
      intro ys
      induction ys with
      | nil => intro T T' _ _ hin; obtain ⟨x, hx, _⟩ := hin; cases hx
      | cons y ys ih =>
        intro T T' hl hok' hin
        have hy := hok' y (by simp)
        have l1 : (setL T (y.1 * 8).toNat (le y.2 8)).length = T.length := setL_length _ _ _ (by rw [le_length]; omega)
        have l2 : (setL T' (y.1 * 8).toNat (le y.2 8)).length = T'.length := setL_length _ _ _ (by rw [le_length]; omega)
        have hok2 : okX (setL T (y.1 * 8).toNat (le y.2 8)).length ys := fun z hz => by rw [l1]; exact hok' z (by simp [hz])
        by_cases hin2 : inX ys i
        · exact ih (T := setL T (y.1 * 8).toNat (le y.2 8)) (T' := setL T' (y.1 * 8).toNat (le y.2 8)) (by omega) hok2 hin2
        · show (bringL (setL T (y.1 * 8).toNat (le y.2 8)) ys)[i]? = (bringL (setL T' (y.1 * 8).toNat (le y.2 8)) ys)[i]?
          rw [bring_out hok2 hin2, bring_out (fun z hz => by rw [l2, ← hl]; exact hok' z (by simp [hz])) hin2]
          obtain ⟨z, hz, hc⟩ := hin
          rcases List.mem_cons.1 hz with rfl | hz
          · rw [setL_get _ _ _ (by rw [le_length]; omega), setL_get _ _ _ (by rw [le_length]; omega), if_pos (by rw [le_length]; omega), if_pos (by rw [le_length]; omega)]
          · exact absurd ⟨z, hz, hc⟩ hin2
    exact key (by rw [words_length hlb, hS]) hok hi
  · have hokb : okX (wordsL (bringL S xs)).length xs := by rw [words_length hlb, ← hS]; exact hok
    rw [bring_out hokb hi]

/-! ### All or none -/
theorem atom {S0 : List UInt8} {next : Int} {xs : List (Int × Int)} (hS : S0.length = 160) (hx : ∀ x ∈ xs, I64 x.1 ∧ U64 x.2) (hn : 1 ≤ next) (hb : begE 20 2 9 next xs = 0) (hst : wordsL (recv S0) = wordsL S0) {i : Nat} (hi : i ≤ (allS 2 next xs).length) (f : Int → Bool) :
    (wordsL (recv (crS (runS (cl S0) ((allS 2 next xs).take i)).S (runS (cl S0) ((allS 2 next xs).take i)).L f)) = wordsL S0 ∧ i < (allS 2 next xs).length) ∨
    wordsL (recv (crS (runS (cl S0) ((allS 2 next xs).take i)).S (runS (cl S0) ((allS 2 next xs).take i)).L f)) = bringL (wordsL S0) xs := by
  obtain ⟨e1, e2, e3, e4⟩ := begE_ok hb
  have hal := all_length 2 next xs
  have hn20 : ∀ {T : List UInt8}, T.length = 160 → (20 : Int) = (T.length : Int) / 8 := fun h => by rw [h]; rfl
  -- the four phases
  obtain ⟨S1, hS1⟩ : ∃ S1, S1 = setL S0 16 (le 0 8) := ⟨_, rfl⟩
  obtain ⟨S2, hS2⟩ : ∃ S2, S2 = setL S1 24 (bodyL xs) := ⟨_, rfl⟩
  obtain ⟨S3, hS3⟩ : ∃ S3, S3 = recW S0 2 next xs := ⟨_, rfl⟩
  have l1 : S1.length = 160 := by rw [hS1, setL_length _ _ _ (by rw [le_length]; omega)]; exact hS
  have l2 : S2.length = 160 := by rw [hS2, setL_length _ _ _ (by rw [bodyL_length]; omega)]; exact l1
  have l3 : S3.length = 160 := by rw [hS3]; unfold recW; rw [setL_length _ _ _ (by rw [List.length_append, headL_length, bodyL_length]; omega)]; exact hS
  have hA : runS (cl S0) (saveS 2 (le 0 8)) = cl S1 := by rw [hS1]; exact save_clean S0 2 (le 0 8) 1 (by omega) (le_length _ _) (by rw [le_length]; omega)
  have hB : runS (cl S1) (saveS 3 (bodyL xs)) = cl S2 := by rw [hS2]; exact save_clean S1 3 (bodyL xs) (xs.length * 2) (by omega) (by rw [bodyL_length]; omega) (by rw [bodyL_length]; omega)
  have hC : runS (cl S2) (saveS 2 (headL xs.length next (bodyL xs))) = cl S3 := by
    rw [save_clean S2 2 _ 1 (by omega) (headL_length _ _ _) (by rw [headL_length]; omega), hS3, hS2, hS1]
    congr 1
    unfold recW
    exact rec_join _ _ _ _ _ _ (le_length _ _) (headL_length _ _ _) rfl (by rw [bodyL_length]; omega)
  -- a region whose head is 0 has no record
  have zero : ∀ {T : List UInt8}, T.length = 160 → (∀ j : Nat, 16 ≤ j → j < 24 → T[j]? = S1[j]?) → recv T = T := fun {T} hT hz => by
    unfold recv
    rw [rec_no (b := recB T 2 9) (by
      refine List.ext_getElem? fun j => ?_
      by_cases hj : j < 2
      · rw [List.getElem?_take_of_lt hj]
        unfold recB
        rw [List.getElem?_take_of_lt (by omega), List.getElem?_drop, hz _ (by omega) (by omega), hS1, setL_get _ _ _ (by rw [le_length]; omega), if_pos (by rw [le_length]; omega)]
        rcases (show j = 0 ∨ j = 1 by omega) with rfl | rfl <;> decide
      · rw [List.getElem?_eq_none (by rw [List.length_take]; omega), List.getElem?_eq_none (by simp; omega)])]
    rfl
  have out1 : ∀ j : Nat, ¬ (16 ≤ j ∧ j < 88) → S1[j]? = S0[j]? := fun j hj => by rw [hS1, setL_get _ _ _ (by rw [le_length]; omega), if_neg (by rw [le_length]; omega)]
  have out2 : ∀ j : Nat, ¬ (16 ≤ j ∧ j < 88) → S2[j]? = S0[j]? := fun j hj => by rw [hS2, setL_get _ _ _ (by rw [bodyL_length]; omega), if_neg (by rw [bodyL_length]; omega), out1 j hj]
  have out3 : ∀ j : Nat, ¬ (16 ≤ j ∧ j < 88) → S3[j]? = S0[j]? := fun j hj => by
    rw [hS3]; unfold recW
    rw [setL_get _ _ _ (by rw [List.length_append, headL_length, bodyL_length]; omega), if_neg (by rw [List.length_append, headL_length, bodyL_length]; omega)]
  have head2 : ∀ j : Nat, 16 ≤ j → j < 24 → S2[j]? = S1[j]? := fun j h1 h2 => by rw [hS2, setL_get _ _ _ (by rw [bodyL_length]; omega), if_neg (by omega)]
  have hok3 : okX S3.length xs := may_ok (n := 20) (at_ := 2) (words := 9) (hn20 l3) e2
  have hok0 : okX S0.length xs := may_ok (n := 20) (at_ := 2) (words := 9) (hn20 hS) e2
  -- a region that has the record brings the sets
  have full : ∀ {T : List UInt8}, T.length = 160 → (∀ j : Nat, ¬ inX xs j → T[j]? = S3[j]?) → wordsL (recv T) = bringL (wordsL S0) xs := fun {T} hT hz => by
    have hb8 : (recB T 2 9).take (8 + xs.length * 16) = headL xs.length next (bodyL xs) ++ bodyL xs := by
      have hhb : (headL xs.length next (bodyL xs) ++ bodyL xs).length = 8 + xs.length * 16 := by rw [List.length_append, headL_length, bodyL_length]
      refine List.ext_getElem? fun j => ?_
      by_cases hj : j < 8 + xs.length * 16
      · rw [List.getElem?_take_of_lt hj]
        unfold recB
        rw [List.getElem?_take_of_lt (by omega), List.getElem?_drop, hz _ (fun hin => (may_out e2 hin).1 (by omega)), hS3]
        unfold recW
        rw [setL_get _ _ _ (by rw [hhb]; omega), if_pos (by rw [hhb]; omega)]
        congr 1; omega
      · rw [List.getElem?_eq_none (by rw [List.length_take]; omega), List.getElem?_eq_none (by omega)]
    have hrl : (recB T 2 9).length = 72 := by unfold recB; rw [List.length_take, List.length_drop, hT]; rfl
    obtain ⟨k1, k2, k3⟩ := rec_yes (n := 20) (at_ := 2) (words := 9) (next := next) e1 (by omega) hn e4 e2 hx hb8 (by rw [hrl]; omega)
    have hokT : okX T.length xs := may_ok (n := 20) (at_ := 2) (words := 9) (hn20 hT) e2
    unfold recv
    rw [if_pos k1, k3, setsL_bodyL (fun x hx' => ⟨(hok0 x hx').1, hx x hx'⟩), bring_same (S' := S3) (by omega) hokT hz, ← words_bring hS e2]
    refine words_eq (by rw [bringL_length hok3]; exact l3) (by rw [bringL_length hok0]; exact hS) fun j hj => ?_
    by_cases hin : inX xs j
    · have e := bring_same (xs := xs) (S := S0) (S' := S0) rfl hok0 (fun _ _ => rfl)
      -- the sets' words
      have key : bringL (setL S3 16 ((S0.drop 16).take 72)) xs = bringL S0 xs := by
        congr 1
        refine List.ext_getElem? fun t => ?_
        rw [setL_get _ _ _ (by rw [List.length_take, List.length_drop, hS, l3]; omega)]
        by_cases ct : 16 ≤ t ∧ t < 16 + ((S0.drop 16).take 72).length
        · rw [if_pos ct, List.getElem?_take_of_lt (by rw [List.length_take, List.length_drop, hS] at ct; omega), List.getElem?_drop]; congr 1; omega
        · rw [if_neg ct]
          rw [List.length_take, List.length_drop, hS] at ct
          exact out3 t (by omega)
      rw [← key]
      have hlx : (setL S3 16 ((S0.drop 16).take 72)).length = 160 := by rw [setL_length _ _ _ (by rw [List.length_take, List.length_drop, hS, l3]; omega)]; exact l3
      have hw := words_bring l3 e2
      have hw2 := words_bring hlx e2
      have hww : wordsL S3 = wordsL (setL S3 16 ((S0.drop 16).take 72)) := words_eq l3 hlx fun t ht => by
        rw [setL_get _ _ _ (by rw [List.length_take, List.length_drop, hS, l3]; omega), if_neg (by rw [List.length_take, List.length_drop, hS]; omega)]
      rw [← hww, ← hw] at hw2
      have hg := congrArg (fun l : List UInt8 => l[j]?) hw2
      have ho3 : okX (setL S3 16 ((S0.drop 16).take 72)).length xs := by rw [hlx, ← l3]; exact hok3
      have hg' : (wordsL (bringL (setL S3 16 ((S0.drop 16).take 72)) xs))[j]? = (wordsL (bringL S3 xs))[j]? := hg
      rw [words_get (by rw [bringL_length ho3]; exact hlx), words_get (by rw [bringL_length hok3]; exact l3), if_neg hj, if_neg hj] at hg'
      exact hg'.symm
    · rw [bring_out hok3 hin, bring_out hok0 hin, out3 j hj]
  have hsplit : allS 2 next xs = saveS 2 (le 0 8) ++ (saveS 3 (bodyL xs) ++ (saveS 2 (headL xs.length next (bodyL xs)) ++ bringS xs)) := by unfold allS; simp
  have la : (saveS 2 (le 0 8)).length = 3 := by rw [saveS_length, le_length]
  have lb : (saveS 3 (bodyL xs)).length = xs.length * 2 + 2 := by rw [saveS_length, bodyL_length]; omega
  have lc : (saveS 2 (headL xs.length next (bodyL xs))).length = 3 := by rw [saveS_length, headL_length]
  have hgo : ∀ {T : List UInt8}, T.length = 160 → (T = S0 ∨ (∀ j : Nat, ¬ (16 ≤ j ∧ j < 88) → T[j]? = S0[j]?) ∧ recv T = T) → wordsL (recv T) = wordsL S0 := fun {T} hT h => by
    rcases h with rfl | ⟨h1, h2⟩
    · exact hst
    · rw [h2]; exact words_eq hT hS h1
  by_cases p1 : i ≤ 3
  · left
    refine ⟨?_, by omega⟩
    have e : (allS 2 next xs).take i = (saveS 2 (le 0 8)).take i := by rw [hsplit, List.take_append_of_le_length (by omega)]
    rw [e]
    rcases one_word hS (le_length 0 8) p1 f with h | h
    · rw [h]; exact hst
    · rw [h, ← hS1]
      exact hgo l1 (.inr ⟨out1, zero l1 (fun _ _ _ => rfl)⟩)
  · by_cases p2 : i ≤ 3 + (xs.length * 2 + 2)
    · left
      refine ⟨?_, by omega⟩
      have e : (allS 2 next xs).take i = saveS 2 (le 0 8) ++ (saveS 3 (bodyL xs)).take (i - 3) := by
        rw [hsplit, List.take_append, la, List.take_of_length_le (by omega), List.take_append_of_le_length (by omega)]
      rw [e, runS_append, hA]
      have hnear : Near (fun k => 3 ≤ k ∧ k < 11) S1 (runS (cl S1) ((saveS 3 (bodyL xs)).take (i - 3))) := by
        refine (Near.start _ S1).run (fun s hs => ?_) (fun at_ l hm => ?_)
        · rw [l1]
          exact save_ok (N := 160) (m := xs.length * 2) (by rw [bodyL_length]; omega) (by omega) (by omega) (by rw [bodyL_length]; omega) s (List.mem_of_mem_take hs)
        · have hm' := List.mem_of_mem_take hm
          unfold saveS saveP at hm'
          rw [List.mem_append] at hm'
          rcases hm' with hm' | hm'
          · obtain ⟨t, ht, e5⟩ := List.mem_map.1 hm'
            rw [List.mem_range, bodyL_length] at ht
            cases e5
            omega
          · simp at hm'
      obtain ⟨c1, c2⟩ := hnear.crash f
      rw [l1] at c1
      refine hgo c1 (.inr ⟨fun j hj => ?_, zero c1 (fun j h1 h2 => c2 j (by omega))⟩)
      rw [c2 j (by omega), out1 j hj]
    · by_cases p3 : i ≤ 3 + (xs.length * 2 + 2) + 3
      · have e : (allS 2 next xs).take i = saveS 2 (le 0 8) ++ (saveS 3 (bodyL xs) ++ (saveS 2 (headL xs.length next (bodyL xs))).take (i - 3 - (xs.length * 2 + 2))) := by
          rw [hsplit, List.take_append, la, List.take_of_length_le (by omega), List.take_append, lb, List.take_of_length_le (by omega), List.take_append_of_le_length (by omega)]
        rw [e, runS_append, hA, runS_append, hB]
        rcases one_word l2 (headL_length xs.length next (bodyL xs)) (i := i - 3 - (xs.length * 2 + 2)) (by omega) f with h | h
        · left
          refine ⟨?_, by omega⟩
          rw [h]
          exact hgo l2 (.inr ⟨out2, zero l2 head2⟩)
        · right
          rw [h]
          have e5 : setL S2 16 (headL xs.length next (bodyL xs)) = S3 := by
            have := hC
            rw [save_clean S2 2 _ 1 (by omega) (headL_length _ _ _) (by rw [headL_length]; omega)] at this
            exact congrArg DS.S this
          rw [e5]
          exact full l3 (fun _ _ => rfl)
      · right
        have e : (allS 2 next xs).take i = saveS 2 (le 0 8) ++ (saveS 3 (bodyL xs) ++ (saveS 2 (headL xs.length next (bodyL xs)) ++ (bringS xs).take (i - 3 - (xs.length * 2 + 2) - 3))) := by
          rw [hsplit, List.take_append, la, List.take_of_length_le (by omega), List.take_append, lb, List.take_of_length_le (by omega), List.take_append, lc, List.take_of_length_le (by omega)]
        rw [e, runS_append, hA, runS_append, hB, runS_append, hC]
        have hnear : Near (fun k => ∃ x ∈ xs, x.1.toNat = k) S3 (runS (cl S3) ((bringS xs).take (i - 3 - (xs.length * 2 + 2) - 3))) := by
          refine (Near.start _ S3).run (fun s hs => bring_ok (n := 20) (at_ := 2) (words := 9) (hn20 l3) e2 s (List.mem_of_mem_take hs)) (fun at_ l hm => ?_)
          have hm' := List.mem_of_mem_take hm
          unfold bringS bringP at hm'
          rw [List.mem_append, List.mem_flatten] at hm'
          rcases hm' with ⟨l', hl', hm'⟩ | hm'
          · obtain ⟨x, hx', rfl⟩ := List.mem_map.1 hl'
            simp [setS] at hm'
            exact ⟨x, hx', by rw [hm'.1]⟩
          · simp at hm'
        obtain ⟨c1, c2⟩ := hnear.crash f
        rw [l3] at c1
        refine full c1 (fun j hj => c2 j fun ⟨x, hx', hc⟩ => hj ⟨x, hx', ?_⟩)
        have := (hok0 x hx').1
        omega
end Go.Proofs.Ytpmljbcgaeodjaa
