/-
  wal: Commit.
-/
import Derived.Test.YtpmljbcgaeodjaaWalY
namespace Go.Proofs.Ytpmljbcgaeodjaa
open Go.RowKit Go.Maps Go.Shelf
set_option linter.unusedVariables false

theorem save_ok {first : Int} {l : List UInt8} {N m : Nat} (hl : l.length = m * 8) (hm : 1 ≤ m) (h0 : 0 ≤ first) (h1 : first * 8 + l.length ≤ N) : ∀ s ∈ saveS first l, s.ok N := by
  intro s hs
  unfold saveS saveP at hs
  have hm8 : l.length / 8 = m := by omega
  rw [List.mem_append] at hs
  rcases hs with hs | hs
  · obtain ⟨i, hi, rfl⟩ := List.mem_map.1 hs
    rw [List.mem_range, hm8] at hi
    exact ⟨by omega, by omega, by simp; omega⟩
  · simp at hs
    rcases hs with rfl | rfl
    · exact ⟨h0, by omega, by omega⟩
    · exact trivial
theorem begE_ok {n at_ words next : Int} {xs : List (Int × Int)} (h : begE n at_ words next xs = 0) : 1 ≤ xs.length ∧ xs.all (mayB n at_ words) = true ∧ (xs.length : Int) ≤ (words - 1) / 2 ∧ next ≤ 4294967295 := by
  unfold begE at h
  split at h
  · omega
  · rename_i h1
    split at h
    · omega
    · rename_i h2
      refine ⟨by omega, ?_, by omega, by omega⟩
      cases hh : xs.all (mayB n at_ words) with
      | true => rfl
      | false => exact absurd (.inr hh) h1
theorem all_ok {n at_ words next : Int} {N : Nat} (hn : n = (N : Int) / 8) (h0 : 0 ≤ at_) (h1 : 1 ≤ words) (h2 : at_ + words ≤ n) {xs : List (Int × Int)} (h : begE n at_ words next xs = 0) : ∀ s ∈ allS at_ next xs, s.ok N := by
  obtain ⟨e1, e2, e3, e4⟩ := begE_ok h
  intro s hs
  unfold allS at hs
  simp only [List.mem_append] at hs
  rcases hs with ((hs | hs) | hs) | hs
  · exact save_ok (m := 1) (le_length _ _) (by omega) h0 (by rw [le_length]; omega) s hs
  · exact save_ok (m := xs.length * 2) (by rw [bodyL_length]; omega) (by omega) (by omega) (by rw [bodyL_length]; omega) s hs
  · exact save_ok (m := 1) (headL_length _ _ _) (by omega) h0 (by rw [headL_length]; omega) s hs
  · exact bring_ok hn e2 s hs
theorem all_length (at_ next : Int) (xs : List (Int × Int)) : (allS at_ next xs).length = xs.length * 4 + 9 := by
  unfold allS
  simp only [List.length_append, saveS_length, bringS_length, headL_length, le_length, bodyL_length]; omega

theorem Dev.log {w w' : World} {B d g cap lb fb p : Nat} {S : List UInt8} {L : Int → Option (List UInt8)} {F : Int → Bool} {at_ words next : Int} (h : Dev w B d g cap lb fb S L F) (hl : LogV w p d at_ words next) (hg : w.grownBy w' (some p)) : Dev w' B d g cap lb fb S L F := by
  have hd : d ≠ p := fun e => by have := h.hd; rw [e, hl] at this; cases this
  have hgr : g ≠ p := fun e => by obtain ⟨cur, h1, _⟩ := h.row; rw [e, hl] at h1; cases h1
  have hlb : lb ≠ p := fun e => by obtain ⟨n, hm⟩ := h.loose; obtain ⟨es, c, hb⟩ := hm.isMap; rw [e, hl] at hb; cases hb
  have hfb : fb ≠ p := fun e => by obtain ⟨n, hm⟩ := h.flush; obtain ⟨es, c, hb⟩ := hm.isMap; rw [e, hl] at hb; cases hb
  exact h.cong (hg.block _ h.dlt (by simpa using hd)) (hg.block _ h.glt (by simpa using hgr)) (hg.block _ h.llt (by simpa using hlb)) (hg.block _ h.flt (by simpa using hfb))

/-- Nothing but the log and the device's row and maps has turned. -/
structure FrP (p g lb fb : Nat) (w w' : World) : Prop where
  os : w'.os = w.os
  tape : w'.tape = w.tape
  output : w'.output = w.output
  size : w.heap.size ≤ w'.heap.size
  block : ∀ i, i < w.heap.size → i ≠ p → i ≠ g → i ≠ lb → i ≠ fb → w'.heap[i]? = w.heap[i]?
theorem FrP.of {p g lb fb : Nat} {w w1 w2 : World} (h : w.grownBy w1 (some p)) (k : Fr g lb fb w1 w2) : FrP p g lb fb w w2 :=
  ⟨k.os.trans h.os, k.tape.trans h.tape, k.output.trans h.output, Nat.le_trans h.size k.size, fun i hi h1 h2 h3 h4 => (k.block i (Nat.lt_of_lt_of_le hi h.size) h2 h3 h4).trans (h.block i hi (by simpa using h1))⟩
theorem FrP.below {p g lb fb : Nat} {w w1 : World} (h : Below w.heap.size w w1) : FrP p g lb fb w w1 :=
  ⟨h.os, h.tape, h.output, h.size, fun i hi _ _ _ _ => h.block i hi⟩
theorem FrP.trans {p g lb fb : Nat} {a b c : World} (h : FrP p g lb fb a b) (k : FrP p g lb fb b c) : FrP p g lb fb a c :=
  ⟨k.os.trans h.os, k.tape.trans h.tape, k.output.trans h.output, Nat.le_trans h.size k.size, fun i hi h1 h2 h3 h4 => (k.block i (Nat.lt_of_lt_of_le hi h.size) h1 h2 h3 h4).trans (h.block i hi h1 h2 h3 h4)⟩
theorem FrP.base {p g lb fb B : Nat} {w w' : World} (h : FrP p g lb fb w w') (hp : B ≤ p) (hg : B ≤ g) (hl : B ≤ lb) (hf : B ≤ fb) (hB : B ≤ w.heap.size) : Below B w w' :=
  ⟨h.os, h.tape, h.output, h.size, fun i hi => h.block i (by omega) (by omega) (by omega) (by omega) (by omega)⟩

/-- What Commit answers, and leaves. -/
def ComPost (er : Int) (w : World) (B p d g cap lb fb : Nat) (at_ words next : Int) (D : DS) (xs : List (Int × Int)) (e : Ending) (w' : World) : Prop :=
  e = .returned (.int .i64 er) ∧ DevS w' B d g cap lb fb (if er = 0 then runS D (allS at_ next xs) else D) ∧ LogV w' p d at_ words (if er = 0 then next + 1 else next) ∧ FrP p g lb fb w w'

set_option maxHeartbeats 2000000 in
theorem commit_any {w : World} {p d n c B g cap lb fb : Nat} {A : Option Addr} {at_ words next N : Int} {xs : List (Int × Int)} {D : DS} (hdev : DevS w B d g cap lb fb D) (hN : N = (D.S.length : Int) / 8) (h0 : 0 ≤ at_) (h1 : 1 ≤ words) (h2 : at_ + words ≤ N)
    (hlog : LogV w p d at_ words next) (hs : RdS w w.heap.size A n c xs) (hn0 : 0 ≤ next) (hn1 : next ≤ 4294967296) :
    Calls Try.prog 11 #[.pointer (some ⟨p, 0, none⟩), .slice A n c] w <| ComPost (begE N at_ words next xs) w B p d g cap lb fb at_ words next D xs := by
  have HB := hid (begin_any hdev hN h0 h1 h2 hlog hs hn0 hn1)
  have HD := hid hdev; have HL := hid hlog; have HNN := hid hN; have HH2 := hid h2
  have hN8 : N ≤ 8192 := by have := Dev.len hdev; omega
  obtain ⟨er, her⟩ : ∃ er, er = begE N at_ words next xs := ⟨_, rfl⟩
  rw [← her] at HB ⊢
  have HER := hid her
  clear hdev hlog hN her hs hn0 hn1 h2
  go_enter Try.func11, Try.ntmps11
  go_wp2_with fail
  refine HB.out.mono ?_
  intro e w1 hb
  unfold BegPost at hb
  by_cases hz : er = 0
  · rw [if_pos hz] at hb
    obtain ⟨v, rfl, hst, hl1, hg1⟩ := hb
    subst hz
    have HST := hid hst; have HL1 := hid hl1; have HG1 := hid hg1
    have hb0 := begE_ok HER.out.symm
    have HX : Hid (xs.length ≤ 4096) := by show xs.length ≤ 4096; have := HH2.out; omega
    clear hst hl1 hg1 hb0
    go_wp2_with fail
    refine (run_any (D := D) (Dev.log HD.out HL.out HG1.out) HST.out (Dev.glt HD.out) (Dev.llt HD.out) (Dev.flt HD.out) (Nat.le_refl _) (all_ok HNN.out h0 h1 HH2.out HER.out.symm) (by rw [all_length]; have := HX.out; omega)).mono ?_
    rintro e w2 ⟨rfl, hd2, hf2⟩
    have HD2 := hid hd2; have HF2 := hid hf2
    clear hd2 hf2
    go_wp2_with fail
    go_ret
    refine ⟨rfl, HD2.out, ?_, FrP.of HG1.out HF2.out⟩
    have k1 : p ≠ g := fun e => by obtain ⟨cur, h1, _⟩ := Dev.row HD.out; have := HL.out; unfold LogV at this; rw [e, h1] at this; cases this
    have k2 : p ≠ lb := fun e => by obtain ⟨n, hm⟩ := Dev.loose HD.out; obtain ⟨es, c, hb⟩ := hm.isMap; have := HL.out; unfold LogV at this; rw [e, hb] at this; cases this
    have k3 : p ≠ fb := fun e => by obtain ⟨n, hm⟩ := Dev.flush HD.out; obtain ⟨es, c, hb⟩ := hm.isMap; have := HL.out; unfold LogV at this; rw [e, hb] at this; cases this
    exact (HF2.out.block _ (row_lt HL1.out) k1 k2 k3).trans HL1.out
  · rw [if_neg hz] at hb
    obtain ⟨rfl, hb1⟩ := hb
    have HB1 := hid hb1
    have HZ := hid hz
    clear hb1 hz
    go_wp2_with fail
    refine (run_any (ss := []) (D := D) (lo := w.heap.size) (base := w.heap.size) (Dev.on HD.out HB1.out) (StR.nil _ _ _ _) (Dev.glt HD.out) (Dev.llt HD.out) (Dev.flt HD.out) (Nat.le_refl _) (fun s hs => by cases hs) (by simp)).mono ?_
    rintro e w2 ⟨rfl, hd2, hf2⟩
    have HD2 := hid hd2; have HF2 := hid hf2
    clear hd2 hf2
    go_wp2_with fail
    go_ret
    have k1 : p ≠ g := fun e => by obtain ⟨cur, h1, _⟩ := Dev.row HD.out; have := HL.out; unfold LogV at this; rw [e, h1] at this; cases this
    have k2 : p ≠ lb := fun e => by obtain ⟨n, hm⟩ := Dev.loose HD.out; obtain ⟨es, c, hb⟩ := hm.isMap; have := HL.out; unfold LogV at this; rw [e, hb] at this; cases this
    have k3 : p ≠ fb := fun e => by obtain ⟨n, hm⟩ := Dev.flush HD.out; obtain ⟨es, c, hb⟩ := hm.isMap; have := HL.out; unfold LogV at this; rw [e, hb] at this; cases this
    refine ⟨rfl, ?_, ?_, FrP.trans (FrP.below HB1.out) (FrP.of (grown_refl _ _) HF2.out)⟩
    · rw [if_neg HZ.out]; exact HD2.out
    · rw [if_neg HZ.out]
      have hl1 := (HB1.out.block _ (row_lt HL.out)).trans HL.out
      exact (HF2.out.block _ (row_lt hl1) k1 k2 k3).trans hl1
end Go.Proofs.Ytpmljbcgaeodjaa
