/-
  wal: Commit.
  wal: what steps make of a device's bytes.
-/
import Derived.Test.YteggkojlpgkhbaaGreatWalY

namespace Go.Proofs.YteggkojlpgkhbaaGreat
open Go.RowKit Go.Maps Go.Shelf
set_option linter.unusedVariables false

theorem save_ok {first : Int} {l : List UInt8} {N m : Nat} (hl : l.length = m * 8) (hm : 1 ≤ m) (h0 : 0 ≤ first) (h1 : first * 8 + l.length ≤ N) : ∀ s ∈ saveS first l, s.ok N := by
  intro s hs
  unfold saveS saveP at hs
  have hm8 : l.length / 8 = m := by omega
  rw [List.mem_append] at hs
  rcases hs with hs | hs
  · obtain ⟨i, hi, rfl⟩ := List.mem_map.1 hs
    rw [List.mem_range, hm8] at hi
    exact ⟨by omega, by omega, by simp; omega⟩
  · simp at hs
    rcases hs with rfl | rfl
    · exact ⟨h0, by omega, by omega⟩
    · exact trivial
theorem begE_ok {n at_ words next : Int} {xs : List (Int × Int)} (h : begE n at_ words next xs = 0) : 1 ≤ xs.length ∧ xs.all (mayB n at_ words) = true ∧ (xs.length : Int) ≤ (words - 1) / 2 ∧ next ≤ 4294967295 := by
  unfold begE at h
  split at h
  · omega
  · rename_i h1
    split at h
    · omega
    · rename_i h2
      refine ⟨by omega, ?_, by omega, by omega⟩
      cases hh : xs.all (mayB n at_ words) with
      | true => rfl
      | false => exact absurd (.inr hh) h1
theorem all_ok {n at_ words next : Int} {N : Nat} (hn : n = (N : Int) / 8) (h0 : 0 ≤ at_) (h1 : 1 ≤ words) (h2 : at_ + words ≤ n) {xs : List (Int × Int)} (h : begE n at_ words next xs = 0) : ∀ s ∈ allS at_ next xs, s.ok N := by
  obtain ⟨e1, e2, e3, e4⟩ := begE_ok h
  intro s hs
  unfold allS at hs
  simp only [List.mem_append] at hs
  rcases hs with ((hs | hs) | hs) | hs
  · exact save_ok (m := 1) (le_length _ _) (by omega) h0 (by rw [le_length]; omega) s hs
  · exact save_ok (m := xs.length * 2) (by rw [bodyL_length]; omega) (by omega) (by omega) (by rw [bodyL_length]; omega) s hs
  · exact save_ok (m := 1) (headL_length _ _ _) (by omega) h0 (by rw [headL_length]; omega) s hs
  · exact bring_ok hn e2 s hs
theorem all_length (at_ next : Int) (xs : List (Int × Int)) : (allS at_ next xs).length = xs.length * 4 + 9 := by
  unfold allS
  simp only [List.length_append, saveS_length, bringS_length, headL_length, le_length, bodyL_length]; omega

theorem Dev.log {w w' : World} {B d g cap lb fb p : Nat} {S : List UInt8} {L : Int → Option (List UInt8)} {F : Int → Bool} {at_ words next : Int} (h : Dev w B d g cap lb fb S L F) (hl : LogV w p d at_ words next) (hg : w.grownBy w' (some p)) : Dev w' B d g cap lb fb S L F := by
  have hd : d ≠ p := fun e => by have := h.hd; rw [e, hl] at this; cases this
  have hgr : g ≠ p := fun e => by obtain ⟨cur, h1, _⟩ := h.row; rw [e, hl] at h1; cases h1
  have hlb : lb ≠ p := fun e => by obtain ⟨n, hm⟩ := h.loose; obtain ⟨es, c, hb⟩ := hm.isMap; rw [e, hl] at hb; cases hb
  have hfb : fb ≠ p := fun e => by obtain ⟨n, hm⟩ := h.flush; obtain ⟨es, c, hb⟩ := hm.isMap; rw [e, hl] at hb; cases hb
  exact h.cong (hg.block _ h.dlt (by simpa using hd)) (hg.block _ h.glt (by simpa using hgr)) (hg.block _ h.llt (by simpa using hlb)) (hg.block _ h.flt (by simpa using hfb))

/-- Nothing but the log and the device's row and maps has turned. -/
structure FrP (p g lb fb : Nat) (w w' : World) : Prop where
  os : w'.os = w.os
  tape : w'.tape = w.tape
  output : w'.output = w.output
  size : w.heap.size ≤ w'.heap.size
  block : ∀ i, i < w.heap.size → i ≠ p → i ≠ g → i ≠ lb → i ≠ fb → w'.heap[i]? = w.heap[i]?
theorem FrP.of {p g lb fb : Nat} {w w1 w2 : World} (h : w.grownBy w1 (some p)) (k : Fr g lb fb w1 w2) : FrP p g lb fb w w2 :=
  ⟨k.os.trans h.os, k.tape.trans h.tape, k.output.trans h.output, Nat.le_trans h.size k.size, fun i hi h1 h2 h3 h4 => (k.block i (Nat.lt_of_lt_of_le hi h.size) h2 h3 h4).trans (h.block i hi (by simpa using h1))⟩
theorem FrP.below {p g lb fb : Nat} {w w1 : World} (h : Below w.heap.size w w1) : FrP p g lb fb w w1 :=
  ⟨h.os, h.tape, h.output, h.size, fun i hi _ _ _ _ => h.block i hi⟩
theorem FrP.trans {p g lb fb : Nat} {a b c : World} (h : FrP p g lb fb a b) (k : FrP p g lb fb b c) : FrP p g lb fb a c :=
  ⟨k.os.trans h.os, k.tape.trans h.tape, k.output.trans h.output, Nat.le_trans h.size k.size, fun i hi h1 h2 h3 h4 => (k.block i (Nat.lt_of_lt_of_le hi h.size) h1 h2 h3 h4).trans (h.block i hi h1 h2 h3 h4)⟩
theorem FrP.base {p g lb fb B : Nat} {w w' : World} (h : FrP p g lb fb w w') (hp : B ≤ p) (hg : B ≤ g) (hl : B ≤ lb) (hf : B ≤ fb) (hB : B ≤ w.heap.size) : Below B w w' :=
  ⟨h.os, h.tape, h.output, h.size, fun i hi => h.block i (by omega) (by omega) (by omega) (by omega) (by omega)⟩

/-- What Commit answers, and leaves. -/
def ComPost (er : Int) (w : World) (B p d g cap lb fb : Nat) (at_ words next : Int) (D : DS) (xs : List (Int × Int)) (e : Ending) (w' : World) : Prop :=
  e = .returned (.int .i64 er) ∧ DevS w' B d g cap lb fb (if er = 0 then runS D (allS at_ next xs) else D) ∧ LogV w' p d at_ words (if er = 0 then next + 1 else next) ∧ FrP p g lb fb w w'

set_option maxHeartbeats 2000000 in
theorem commit_any {w : World} {p d n c B g cap lb fb : Nat} {A : Option Addr} {at_ words next N : Int} {xs : List (Int × Int)} {D : DS} (hdev : DevS w B d g cap lb fb D) (hN : N = (D.S.length : Int) / 8) (h0 : 0 ≤ at_) (h1 : 1 ≤ words) (h2 : at_ + words ≤ N)
    (hlog : LogV w p d at_ words next) (hs : RdS w w.heap.size A n c xs) (hn0 : 0 ≤ next) (hn1 : next ≤ 4294967296) :
    Calls Tryz.prog 21 #[.pointer (some ⟨p, 0, none⟩), .slice A n c] w <| ComPost (begE N at_ words next xs) w B p d g cap lb fb at_ words next D xs := by
  have HB := hid (begin_any hdev hN h0 h1 h2 hlog hs hn0 hn1)
  have HD := hid hdev; have HL := hid hlog; have HNN := hid hN; have HH2 := hid h2
  have hN8 : N ≤ 8192 := by have := Dev.len hdev; omega
  obtain ⟨er, her⟩ : ∃ er, er = begE N at_ words next xs := ⟨_, rfl⟩
  rw [← her] at HB ⊢
  have HER := hid her
  clear hdev hlog hN her hs hn0 hn1 h2
  go_enter Tryz.func21, Tryz.ntmps21
  go_wp2_with fail
  refine HB.out.mono ?_
  intro e w1 hb
  unfold BegPost at hb
  by_cases hz : er = 0
  · rw [if_pos hz] at hb
    obtain ⟨v, rfl, hst, hl1, hg1⟩ := hb
    subst hz
    have HST := hid hst; have HL1 := hid hl1; have HG1 := hid hg1
    have hb0 := begE_ok HER.out.symm
    have HX : Hid (xs.length ≤ 4096) := by show xs.length ≤ 4096; have := HH2.out; omega
    clear hst hl1 hg1 hb0
    go_wp2_with fail
    refine (run_any (D := D) (Dev.log HD.out HL.out HG1.out) HST.out (Dev.glt HD.out) (Dev.llt HD.out) (Dev.flt HD.out) (Nat.le_refl _) (all_ok HNN.out h0 h1 HH2.out HER.out.symm) (by rw [all_length]; have := HX.out; omega)).mono ?_
    rintro e w2 ⟨rfl, hd2, hf2⟩
    have HD2 := hid hd2; have HF2 := hid hf2
    clear hd2 hf2
    go_wp2_with fail
    go_ret
    refine ⟨rfl, HD2.out, ?_, FrP.of HG1.out HF2.out⟩
    have k1 : p ≠ g := fun e => by obtain ⟨cur, h1, _⟩ := Dev.row HD.out; have := HL.out; unfold LogV at this; rw [e, h1] at this; cases this
    have k2 : p ≠ lb := fun e => by obtain ⟨n, hm⟩ := Dev.loose HD.out; obtain ⟨es, c, hb⟩ := hm.isMap; have := HL.out; unfold LogV at this; rw [e, hb] at this; cases this
    have k3 : p ≠ fb := fun e => by obtain ⟨n, hm⟩ := Dev.flush HD.out; obtain ⟨es, c, hb⟩ := hm.isMap; have := HL.out; unfold LogV at this; rw [e, hb] at this; cases this
    exact (HF2.out.block _ (row_lt HL1.out) k1 k2 k3).trans HL1.out
  · rw [if_neg hz] at hb
    obtain ⟨rfl, hb1⟩ := hb
    have HB1 := hid hb1
    have HZ := hid hz
    clear hb1 hz
    go_wp2_with fail
    refine (run_any (ss := []) (D := D) (lo := w.heap.size) (base := w.heap.size) (Dev.on HD.out HB1.out) (StR.nil _ _ _ _) (Dev.glt HD.out) (Dev.llt HD.out) (Dev.flt HD.out) (Nat.le_refl _) (fun s hs => by cases hs) (by simp)).mono ?_
    rintro e w2 ⟨rfl, hd2, hf2⟩
    have HD2 := hid hd2; have HF2 := hid hf2
    clear hd2 hf2
    go_wp2_with fail
    go_ret
    have k1 : p ≠ g := fun e => by obtain ⟨cur, h1, _⟩ := Dev.row HD.out; have := HL.out; unfold LogV at this; rw [e, h1] at this; cases this
    have k2 : p ≠ lb := fun e => by obtain ⟨n, hm⟩ := Dev.loose HD.out; obtain ⟨es, c, hb⟩ := hm.isMap; have := HL.out; unfold LogV at this; rw [e, hb] at this; cases this
    have k3 : p ≠ fb := fun e => by obtain ⟨n, hm⟩ := Dev.flush HD.out; obtain ⟨es, c, hb⟩ := hm.isMap; have := HL.out; unfold LogV at this; rw [e, hb] at this; cases this
    refine ⟨rfl, ?_, ?_, FrP.trans (FrP.below HB1.out) (FrP.of (grown_refl _ _) HF2.out)⟩
    · rw [if_neg HZ.out]; exact HD2.out
    · rw [if_neg HZ.out]
      have hl1 := (HB1.out.block _ (row_lt HL.out)).trans HL.out
      exact (HF2.out.block _ (row_lt hl1) k1 k2 k3).trans hl1
end Go.Proofs.YteggkojlpgkhbaaGreat

namespace Go.Proofs.YteggkojlpgkhbaaGreat
open Go.RowKit Go.Maps Go.Shelf
set_option linter.unusedVariables false

/-- A device with nothing loose. -/
def cl (S : List UInt8) : DS := ⟨S, fun _ => none, fun _ => false⟩

theorem setL_join (S x y : List UInt8) (a b : Nat) (hb : b = a + x.length) (h : a + x.length + y.length ≤ S.length) : setL (setL S a x) b y = setL S a (x ++ y) := by
  have h1 : (setL S a x).length = S.length := setL_length _ _ _ (by omega)
  refine List.ext_getElem? fun i => ?_
  rw [setL_get _ _ _ (by omega), setL_get _ _ _ (by omega), setL_get _ _ _ (by rw [List.length_append]; omega)]
  simp only [List.length_append]
  by_cases c1 : b ≤ i ∧ i < b + y.length
  · rw [if_pos c1, if_pos (by omega), List.getElem?_append_right (by omega)]; congr 1; omega
  · rw [if_neg c1]
    by_cases c2 : a ≤ i ∧ i < a + x.length
    · rw [if_pos c2, if_pos (by omega), List.getElem?_append_left (by omega)]
    · rw [if_neg c2, if_neg (by omega)]
theorem setL_over (S x y : List UInt8) (a : Nat) (hxy : y.length = x.length) (h : a + x.length ≤ S.length) : setL (setL S a x) a y = setL S a y := by
  have h1 : (setL S a x).length = S.length := setL_length _ _ _ (by omega)
  refine List.ext_getElem? fun i => ?_
  rw [setL_get _ _ _ (by omega), setL_get _ _ _ (by omega), setL_get _ _ _ (by omega)]
  by_cases c1 : a ≤ i ∧ i < a + y.length
  · rw [if_pos c1, if_pos c1]
  · rw [if_neg c1, if_neg (by omega), if_neg c1]
theorem setL_swap (S x y : List UInt8) (a b : Nat) (h1 : a + x.length ≤ S.length) (h2 : b + y.length ≤ S.length) (hd : a + x.length ≤ b ∨ b + y.length ≤ a) : setL (setL S a x) b y = setL (setL S b y) a x := by
  have k1 : (setL S a x).length = S.length := setL_length _ _ _ (by omega)
  have k2 : (setL S b y).length = S.length := setL_length _ _ _ (by omega)
  refine List.ext_getElem? fun i => ?_
  rw [setL_get _ _ _ (by omega), setL_get _ _ _ (by omega), setL_get _ _ _ (by omega), setL_get _ _ _ (by omega)]
  by_cases c1 : b ≤ i ∧ i < b + y.length
  · rw [if_pos c1, if_neg (by omega), if_pos c1]
  · rw [if_neg c1, if_neg c1]
theorem rec_join (S z b h : List UInt8) (a a1 : Nat) (hz : z.length = 8) (hh : h.length = 8) (ha : a1 = a + 8) (hl : a + 8 + b.length ≤ S.length) : setL (setL (setL S a z) a1 b) a h = setL S a (h ++ b) := by
  have k1 : (setL S a z).length = S.length := setL_length _ _ _ (by omega)
  have k2 : (setL (setL S a z) a1 b).length = S.length := by rw [setL_length _ _ _ (by omega), k1]
  refine List.ext_getElem? fun i => ?_
  rw [setL_get _ _ _ (by omega), setL_get _ _ _ (by omega), setL_get _ _ _ (by omega), setL_get _ _ _ (by rw [List.length_append]; omega)]
  simp only [List.length_append]
  by_cases c1 : a ≤ i ∧ i < a + h.length
  · rw [if_pos c1, if_pos (by omega), List.getElem?_append_left (by omega)]
  · rw [if_neg c1]
    by_cases c2 : a1 ≤ i ∧ i < a1 + b.length
    · rw [if_pos c2, if_pos (by omega), List.getElem?_append_right (by omega)]; congr 1; omega
    · rw [if_neg c2, if_neg (by omega), if_neg (by omega)]
theorem setL_nil (S : List UInt8) (a : Nat) : setL S a [] = S := by unfold setL splice; simp
theorem word_of_get {S S' : List UInt8} {k : Int} (h0 : 0 ≤ k) (h : ∀ i : Nat, k * 8 ≤ i → (i : Int) < k * 8 + 8 → S[i]? = S'[i]?) : wordOf S k = wordOf S' k := by
  unfold wordOf
  refine List.ext_getElem? fun i => ?_
  by_cases hi : i < 8
  · rw [List.getElem?_take_of_lt hi, List.getElem?_take_of_lt hi, List.getElem?_drop, List.getElem?_drop]
    exact h _ (by omega) (by omega)
  · rw [List.getElem?_eq_none (by simp; omega), List.getElem?_eq_none (by simp; omega)]

theorem save_run (S : List UInt8) (first : Int) (l : List UInt8) (m : Nat) (h0 : 0 ≤ first) (hl : l.length = m * 8) (h : first * 8 + l.length ≤ S.length) :
    ∀ k : Nat, k ≤ m → runS (cl S) (saveP first l k) = ⟨setL S (first * 8).toNat (l.take (k * 8)), wrL S (fun _ => none) first (first + k), fun _ => false⟩ := by
  intro k
  induction k with
  | zero =>
    intro _
    show cl S = _
    unfold cl
    congr 1
    · simp [setL_nil]
    · funext j; unfold wrL; rw [if_neg (by omega)]
  | succ k ih =>
    intro hk
    rw [saveP_succ]
    unfold runS at ih ⊢
    rw [List.foldl_append, ih (by omega)]
    simp only [List.foldl_cons, List.foldl_nil, Stp.on]
    congr 1
    · have e : l.take ((k + 1) * 8) = l.take (k * 8) ++ (l.drop (k * 8)).take 8 := by
        rw [show (k + 1) * 8 = k * 8 + 8 by omega, List.take_add]
      rw [e, setL_join _ _ _ _ _ (by simp; omega) (by simp; omega)]
    · funext j
      unfold wrL
      by_cases c1 : first + (k : Int) ≤ j ∧ j < first + (k : Int) + 1
      · rw [if_pos c1, if_neg (by omega), if_pos (by omega)]
        simp only [Option.getD_none]
        congr 1
        refine word_of_get (by omega) fun i h1 h2 => ?_
        rw [setL_get _ _ _ (by simp; omega), if_neg (by simp; omega)]
      · rw [if_neg c1]
        by_cases c2 : first ≤ j ∧ j < first + (k : Int)
        · rw [if_pos c2, if_pos (by omega)]
        · rw [if_neg c2, if_neg (by omega)]
theorem save_clean (S : List UInt8) (first : Int) (l : List UInt8) (m : Nat) (h0 : 0 ≤ first) (hl : l.length = m * 8) (h : first * 8 + l.length ≤ S.length) : runS (cl S) (saveS first l) = cl (setL S (first * 8).toNat l) := by
  have hm : l.length / 8 = m := by omega
  unfold saveS
  rw [hm]
  have h1 := save_run S first l m h0 hl h m (Nat.le_refl _)
  unfold runS at h1 ⊢
  rw [List.foldl_append, h1]
  simp only [List.foldl_cons, List.foldl_nil, Stp.on]
  unfold cl
  congr 1
  · rw [List.take_of_length_le (by omega)]
  · funext j
    unfold feL flF wrL
    by_cases c : first ≤ j ∧ j < first + (m : Int)
    · simp [c]
    · simp [c]

/-- The bytes behind sets. -/
def bringL (S : List UInt8) (xs : List (Int × Int)) : List UInt8 := xs.foldl (fun S x => setL S (x.1 * 8).toNat (le x.2 8)) S
def okX (N : Nat) (xs : List (Int × Int)) : Prop := ∀ x ∈ xs, 0 ≤ x.1 ∧ x.1 * 8 + 8 ≤ N
theorem bringL_length : ∀ {xs : List (Int × Int)} {S : List UInt8}, okX S.length xs → (bringL S xs).length = S.length := by
  intro xs
  induction xs with
  | nil => intro S _; rfl
  | cons x xs ih =>
    intro S h
    have hx := h x (by simp)
    have h1 : (setL S (x.1 * 8).toNat (le x.2 8)).length = S.length := setL_length _ _ _ (by rw [le_length]; omega)
    show (bringL (setL S (x.1 * 8).toNat (le x.2 8)) xs).length = _
    rw [ih (fun y hy => by rw [h1]; exact h y (by simp [hy])), h1]
theorem bring_run : ∀ (xs : List (Int × Int)) (S0 S : List UInt8) (F : Int → Bool), okX S.length xs → S0.length = S.length → (∀ j : Int, 0 ≤ j → F j = false → wordOf S j = wordOf S0 j) →
    ∃ F', runS ⟨S, fun j => if F j then some (wordOf S0 j) else none, F⟩ (bringP xs) = ⟨bringL S xs, fun j => if F' j then some (wordOf S0 j) else none, F'⟩ := by
  intro xs
  induction xs with
  | nil => intro S0 S F _ _ _; exact ⟨F, rfl⟩
  | cons x xs ih =>
    intro S0 S F hok hl hw
    have hx := hok x (by simp)
    have h1 : (setL S (x.1 * 8).toNat (le x.2 8)).length = S.length := setL_length _ _ _ (by rw [le_length]; omega)
    obtain ⟨F', hF⟩ := ih S0 (setL S (x.1 * 8).toNat (le x.2 8)) (fun j => F j || decide (j = x.1)) (fun y hy => by rw [h1]; exact hok y (by simp [hy])) (by rw [h1]; exact hl) (fun j hj0 hj => by
      simp only [Bool.or_eq_false_iff, decide_eq_false_iff_not] at hj
      rw [← hw j hj0 hj.1]
      refine word_of_get hj0 fun i h1 h2 => ?_
      rw [setL_get _ _ _ (by rw [le_length]; omega), if_neg (by rw [le_length]; omega)])
    refine ⟨F', ?_⟩
    rw [show bringL S (x :: xs) = bringL (setL S (x.1 * 8).toNat (le x.2 8)) xs from rfl, ← hF]
    show List.foldl Stp.on _ (setS x ++ (xs.map setS).flatten) = _
    rw [List.foldl_append]
    unfold setS
    simp only [List.foldl_cons, List.foldl_nil, Stp.on]
    unfold runS bringP
    congr 1
    congr 1
    · funext j
      unfold wrL
      by_cases c : x.1 ≤ j ∧ j < x.1 + 1
      · have e : j = x.1 := by omega
        subst e
        rw [if_pos c]
        simp only [decide_true, Bool.or_true, if_true]
        cases hF1 : F x.1 with
        | true => simp
        | false => simp [hw x.1 hx.1 hF1]
      · have e : j ≠ x.1 := by omega
        rw [if_neg c]
        simp [e]
    · funext j
      unfold flF wrF wrL
      by_cases c : x.1 ≤ j ∧ j < x.1 + 1
      · have e : j = x.1 := by omega
        subst e
        simp [c]
      · have e : j ≠ x.1 := by omega
        simp [c, e]
theorem bring_clean {S : List UInt8} {xs : List (Int × Int)} (h : okX S.length xs) : runS (cl S) (bringS xs) = cl (bringL S xs) := by
  obtain ⟨F', hF⟩ := bring_run xs S S (fun _ => false) h rfl (fun _ _ _ => rfl)
  unfold bringS
  unfold runS at hF ⊢
  rw [List.foldl_append]
  have e : cl S = ⟨S, fun j => if (fun _ => false : Int → Bool) j = true then some (wordOf S j) else none, fun _ => false⟩ := by unfold cl; congr 1
  rw [e, hF]
  simp only [List.foldl_cons, List.foldl_nil, Stp.on]
  unfold cl
  congr 1
  funext j
  unfold feL
  cases hj : F' j <;> simp [hj]

/-- The region's bytes behind the record, and all behind a commit. -/
def recW (S : List UInt8) (at_ next : Int) (xs : List (Int × Int)) : List UInt8 := setL S (at_ * 8).toNat (headL xs.length next (bodyL xs) ++ bodyL xs)
theorem may_ok {n at_ words : Int} {N : Nat} (hn : n = (N : Int) / 8) {xs : List (Int × Int)} (h : xs.all (mayB n at_ words) = true) : okX N xs := fun x hx => by
  have hm := List.all_eq_true.1 h x hx
  unfold mayB at hm
  simp only [Bool.and_eq_true, decide_eq_true_eq] at hm
  omega
theorem commit_clean {n at_ words next : Int} {S : List UInt8} (hn : n = (S.length : Int) / 8) (h0 : 0 ≤ at_) (h1 : 1 ≤ words) (h2 : at_ + words ≤ n) {xs : List (Int × Int)} (h : begE n at_ words next xs = 0) :
    runS (cl S) (allS at_ next xs) = cl (bringL (recW S at_ next xs) xs) := by
  obtain ⟨e1, e2, e3, e4⟩ := begE_ok h
  unfold allS
  unfold runS
  rw [List.foldl_append, List.foldl_append, List.foldl_append]
  have k1 := save_clean S at_ (le 0 8) 1 h0 (le_length _ _) (by rw [le_length]; omega)
  unfold runS at k1
  rw [k1]
  obtain ⟨S1, hS1⟩ : ∃ S1, S1 = setL S (at_ * 8).toNat (le 0 8) := ⟨_, rfl⟩
  have l1 : S1.length = S.length := by rw [hS1]; exact setL_length _ _ _ (by rw [le_length]; omega)
  rw [← hS1]
  have k2 := save_clean S1 (at_ + 1) (bodyL xs) (xs.length * 2) (by omega) (by rw [bodyL_length]; omega) (by rw [bodyL_length]; omega)
  unfold runS at k2
  rw [k2]
  obtain ⟨S2, hS2⟩ : ∃ S2, S2 = setL S1 ((at_ + 1) * 8).toNat (bodyL xs) := ⟨_, rfl⟩
  have l2 : S2.length = S.length := by rw [hS2, setL_length _ _ _ (by rw [bodyL_length]; omega), l1]
  rw [← hS2]
  have k3 := save_clean S2 at_ (headL xs.length next (bodyL xs)) 1 h0 (headL_length _ _ _) (by rw [headL_length]; omega)
  unfold runS at k3
  rw [k3]
  have e : setL S2 (at_ * 8).toNat (headL xs.length next (bodyL xs)) = recW S at_ next xs := by
    unfold recW
    rw [hS2, hS1]
    exact rec_join _ _ _ _ _ _ (le_length _ _) (headL_length _ _ _) (by omega) (by rw [bodyL_length]; omega)
  rw [e]
  have l3 : (recW S at_ next xs).length = S.length := by unfold recW; exact setL_length _ _ _ (by rw [List.length_append, headL_length, bodyL_length]; omega)
  exact bring_clean (may_ok (by rw [l3]; exact hn) e2)

/-! ### Records -/
theorem num_le8 {n : Int} (h : U64 n) : num (le n 8) = n := by
  have := num_lek n h.1 8
  rw [this]; exact Int.emod_eq_of_lt h.1 h.2
theorem wrap64_id {n : Int} (h : I64 n) : wrap64 n = n := by
  have := i64_iff.1 h
  unfold wrap64
  omega
theorem setsL_bodyL {xs : List (Int × Int)} (h : ∀ x ∈ xs, 0 ≤ x.1 ∧ I64 x.1 ∧ U64 x.2) : setsL (bodyL xs) = xs := by
  refine List.ext_getElem (by rw [setsL_length, bodyL_length]; omega) fun i h1 h2 => ?_
  have es : (setsL (bodyL xs))[i] = setAt (bodyL xs) i := by simp [setsL]
  rw [es]
  have hx := h xs[i] (List.getElem_mem _)
  have hd : ∀ k : Nat, (bodyL xs).drop (i * 16 + k) = (le xs[i].1 8 ++ le xs[i].2 8 ++ bodyL (xs.drop (i + 1))).drop k := by
    intro k
    have e : bodyL xs = bodyL (xs.take i) ++ (le xs[i].1 8 ++ le xs[i].2 8 ++ bodyL (xs.drop (i + 1))) := by
      have e0 : xs = xs.take i ++ xs[i] :: xs.drop (i + 1) := by simp
      refine (congrArg bodyL e0).trans ?_
      unfold bodyL
      rw [List.map_append, List.flatten_append, List.map_cons, List.flatten_cons]
    have hl : (bodyL (xs.take i)).length = i * 16 := by rw [bodyL_length, List.length_take]; omega
    rw [e, List.drop_append, hl]
    simp
    omega
  have u1 : U64 xs[i].1 := by
    have := i64_iff.1 hx.2.1
    unfold U64; rw [pw8]; omega
  unfold setAt
  have e1 : ((bodyL xs).drop (i * 16)).take 8 = le xs[i].1 8 := by
    have := hd 0
    rw [Nat.add_zero] at this
    rw [this, List.drop_zero, List.append_assoc, List.take_append_of_le_length (by rw [le_length]; omega), List.take_of_length_le (by rw [le_length]; omega)]
  have e2 : ((bodyL xs).drop (i * 16 + 8)).take 8 = le xs[i].2 8 := by
    rw [hd 8, List.append_assoc, List.drop_append, le_length]
    simp only [Nat.sub_self, List.drop_zero]
    rw [List.drop_eq_nil_of_le (by rw [le_length]; omega), List.nil_append, List.take_append_of_le_length (by rw [le_length]; omega), List.take_of_length_le (by rw [le_length]; omega)]
  rw [e1, e2, num_le8 u1, num_le8 hx.2.2, wrap64_id hx.2.1]

/-- A region that begins with a record has it. -/
theorem rec_yes {n at_ words next : Int} {b : List UInt8} {xs : List (Int × Int)} (h1 : 1 ≤ xs.length) (h2 : xs.length ≤ 65535) (hn1 : 1 ≤ next) (hn2 : next ≤ 4294967295) (hm : xs.all (mayB n at_ words) = true) (hx : ∀ x ∈ xs, I64 x.1 ∧ U64 x.2)
    (hb : b.take (8 + xs.length * 16) = headL xs.length next (bodyL xs) ++ bodyL xs) (hl : 8 + xs.length * 16 ≤ b.length) :
    recOk n at_ words b = true ∧ (recQ b : Int) = next ∧ recY b = bodyL xs := by
  have b8 : b.take 8 = headL xs.length next (bodyL xs) := by
    have := congrArg (List.take 8) hb
    rw [List.take_take, show min 8 (8 + xs.length * 16) = 8 by omega] at this
    rw [this, List.take_append_of_le_length (by rw [headL_length]; omega)]
    exact List.take_of_length_le (by rw [headL_length]; omega)
  have bd : (b.drop 8).take (xs.length * 16) = bodyL xs := by
    have := congrArg (List.drop 8) hb
    rw [List.drop_take, show 8 + xs.length * 16 - 8 = xs.length * 16 by omega] at this
    rw [this, List.drop_append, headL_length]
    have e8 : (headL xs.length next (bodyL xs)).drop 8 = [] := List.drop_eq_nil_of_le (by rw [headL_length]; omega)
    rw [e8]; simp
  have c2 : b.take 2 = le xs.length 2 := by
    have := congrArg (List.take 2) b8
    rw [List.take_take, show min 2 8 = 2 by omega] at this
    rw [this]; unfold headL
    rw [List.append_assoc, List.append_assoc, List.take_append_of_le_length (by rw [le_length]; omega), List.take_of_length_le (by rw [le_length]; omega)]
  have c4 : (b.drop 2).take 4 = le next 4 := by
    have := congrArg (List.drop 2) b8
    rw [List.drop_take] at this
    have t2 := congrArg (List.take 4) this
    rw [List.take_take, show min 4 (8 - 2) = 4 by omega] at t2
    rw [t2]; unfold headL
    rw [List.append_assoc, List.append_assoc, List.drop_append, le_length, List.drop_eq_nil_of_le (by rw [le_length]; omega)]
    simp only [List.nil_append, Nat.sub_self, List.drop_zero]
    rw [List.take_append_of_le_length (by rw [le_length]; omega), List.take_of_length_le (by rw [le_length]; omega)]
  have hC : recC b = xs.length := by
    unfold recC; rw [c2, num_lek _ (by omega) 2, show pw ((2 : Nat) : Int) = 65536 from pw2]; omega
  have hQ : (recQ b : Int) = next := by
    unfold recQ; rw [c4, num_lek _ (by omega) 4, show pw ((4 : Nat) : Int) = 4294967296 from pw4]; omega
  have hY : recY b = bodyL xs := by unfold recY; rw [hC]; exact bd
  refine ⟨?_, hQ, hY⟩
  unfold recOk
  rw [hY, hC, b8, hQ, setsL_bodyL (fun x hx' => ⟨?_, hx x hx'⟩), hm]
  · simp; omega
  · have hm' := List.all_eq_true.1 hm x hx'
    unfold mayB at hm'
    simp only [Bool.and_eq_true, decide_eq_true_eq] at hm'
    exact hm'.1.1
/-- A region whose first word is 0 has none. -/
theorem rec_no {n at_ words : Int} {b : List UInt8} (h : b.take 2 = [0, 0]) : recOk n at_ words b = false := by
  have : recC b = 0 := by unfold recC; rw [h]; rfl
  unfold recOk
  rw [this]; simp
end Go.Proofs.YteggkojlpgkhbaaGreat
