/-
  Contracts of the document's own answers for layer 1 that work on bytes: Put, Get, Set, Pad.
-/
import Derived.Test.YtacakogncjhlfaaWordG
import Derived.Test.YtacakogncjhlfaaRefA
import Derived.Deep.QuietTactic
import Derived.BigQuiet
namespace Go.Proofs.Ytacakogncjhlfaa
open Go.RowKit
set_option linter.unusedVariables false

/-- What the document's Put answers. -/
def rputL (nn x : Int) : List UInt8 := if fits nn x false then le nn x.toNat else []

theorem conv1 (W : World) (c : UInt8) : (convert 27 9 (.slice (some ⟨W.heap.size, 0, none⟩) 1 1)).run Try.prog (W.alloc (.cells #[bv c] 5)) = .ok (.string ⟨#[c]⟩) (W.alloc (.cells #[bv c] 5)) := by
  obtain ⟨A, cap, hv, hr⟩ := (own_new W [c] 1 rfl (by unfold maxLen; omega)).rd
  cases hv
  exact hr.conv

theorem div_pw (n : Int) (k : Nat) : n / pw k / 256 = n / pw (k + 1 : Nat) := by
  rw [pw_succ, Int.ediv_ediv_of_nonneg (Int.le_of_lt (pw_pos k))]

set_option maxHeartbeats 1000000 in
theorem rput_true (x : Nat) (nn : Int) (w : World) (hn : U64 nn) (hf : fits nn x false = true) (hx : x = 1 ∨ x = 2 ∨ x = 4 ∨ x = 8) :
    Calls Try.prog 30 #[.int .i64 x, .int .u64 nn] w fun e w' => e = .returned (.string ⟨(le nn x).toArray⟩) ∧ Below w.heap.size w w' := by
  have hw : isW x = true := by rcases hx with rfl | rfl | rfl | rfl <;> rfl
  have h0 := hn.1
  have hle : nn ≤ pw x - 1 := by simp [fits] at hf; omega
  have hle' : decide (pw x - 1 < nn) = false := by simp; omega
  clear hf
  go_enter Try.func30, Try.ntmps30
  go_wp2_with fail
  refine (right_any _ _).mono ?_
  rintro e w' ⟨rfl, rfl⟩
  go_wp2_with fail
  refine (top_any _ _ (by omega) (by omega)).mono ?_
  rintro e w' ⟨rfl, rfl⟩
  go_wp2_with fail
  go_loopw [1, 5, 6] (fun n s i wr => ∃ k : Nat, k ≤ x ∧ i = .int .i64 k ∧ s = .string ⟨(le nn k).toArray⟩ ∧ n = .int .u64 (nn / pw k) ∧ Below w.heap.size w wr) (fun _ _ i _ => x - (intOf i).toNat)
  case atStart => exact ⟨0, by omega, rfl, rfl, by simp [pw], B0 _⟩
  case round =>
    obtain ⟨k, hk, rfl, rfl, rfl, hb⟩ := hrel
    by_cases hlt : k < x
    · have hcv := conv1 wr (byteAt nn k)
      rw [bv_byteAt] at hcv
      have hlen : (le nn k).length ≤ 8 := by rw [le_length]; omega
      have hd0 : 0 ≤ nn / pw k := Int.ediv_nonneg h0 (Int.le_of_lt (pw_pos k))
      go_wp2
      refine ⟨⟨k + 1, by omega, by go_num, ?_, ?_, Ba hb _⟩, by simp [intOf]; omega⟩
      · rw [show (⟨#[byteAt nn k]⟩ : ByteArray) = ⟨[byteAt nn k].toArray⟩ from rfl, ByteArray.mk_append_mk]; rfl
      · have hle2 : nn / pw k ≤ nn := Int.ediv_le_self _ h0
        have h2 := hn.2; rw [pw8] at h2
        rw [Int.tdiv_eq_ediv_of_nonneg hd0, ← div_pw, IntKind.wrap_u64, Int.emod_eq_of_lt (by omega) (by omega)]
    · go_wp2
      go_ret
      obtain rfl : k = x := by omega
      exact ⟨rfl, hb⟩

set_option maxHeartbeats 1000000 in
theorem rput_false (x nn : Int) (w : World) (hn : U64 nn) (hf : fits nn x false = false) :
    Calls Try.prog 30 #[.int .i64 x, .int .u64 nn] w fun e w' => e = .returned (.string ⟨#[]⟩) ∧ Below w.heap.size w w' := by
  by_cases hx : isW x = true
  · have hx8 := isW_cases hx
    have hle' : decide (pw x - 1 < nn) = true := by simp [fits, hx] at hf; simp; omega
    have hlt : pw x - 1 < nn := by simpa using hle'
    clear hf
    go_enter Try.func30, Try.ntmps30
    go_wp2_with fail
    refine (right_any _ _).mono ?_
    rintro e w' ⟨rfl, rfl⟩
    go_wp2_with fail
    refine (top_any _ _ (by omega) (by omega)).mono ?_
    rintro e w' ⟨rfl, rfl⟩
    go_wp2_with fail
    go_ret
    exact ⟨rfl, B0 _⟩
  · have hx' : isW x = false := by simpa using hx
    go_enter Try.func30, Try.ntmps30
    go_wp2_with fail
    refine (right_any _ _).mono ?_
    rintro e w' ⟨rfl, rfl⟩
    go_wp2_with fail
    go_ret
    exact ⟨rfl, B0 _⟩

theorem rput_any (x nn : Int) (w : World) (hn : U64 nn) :
    Calls Try.prog 30 #[.int .i64 x, .int .u64 nn] w fun e w' => e = .returned (.string ⟨(rputL nn x).toArray⟩) ∧ Below w.heap.size w w' := by
  cases hf : fits nn x false with
  | true =>
    have hx := fits_w hf
    obtain ⟨k, rfl⟩ := Int.eq_ofNat_of_zero_le (show 0 ≤ x by omega)
    refine (rput_true k nn w hn hf (by omega)).mono ?_
    rintro e w' ⟨rfl, hb⟩
    exact ⟨by simp [rputL, hf], hb⟩
  | false =>
    refine (rput_false x nn w hn hf).mono ?_
    rintro e w' ⟨rfl, hb⟩
    exact ⟨by simp [rputL, hf], hb⟩

theorem num_step {l : List UInt8} {j : Nat} {c : UInt8} {k : Nat} (h : l[j]? = some c) : num ((l.drop j).take (k + 1)) = c.toNat + 256 * num ((l.drop (j + 1)).take k) := by
  obtain ⟨hj, hc⟩ := List.getElem?_eq_some_iff.1 h
  rw [List.drop_eq_getElem_cons hj, hc, List.take_succ_cons]; rfl

set_option maxHeartbeats 1000000 in
theorem rget_true (l : List UInt8) (at_ x : Nat) (w : World) (hm : l.length ≤ 9223372036854775807) (hx : x = 1 ∨ x = 2 ∨ x = 4 ∨ x = 8) (hat : at_ + x ≤ l.length) :
    Calls Try.prog 34 #[.string ⟨l.toArray⟩, .int .i64 at_, .int .i64 x] w fun e w' => e = .returned (.tuple #[.int .u64 (num ((l.drop at_).take x)), .bool true]) ∧ w = w' := by
  have hw : isW x = true := by rcases hx with rfl | rfl | rfl | rfl <;> rfl
  have h1 : decide (l.length < at_) = false := by simp; omega
  have h3 : decide ((at_ : Int) < 0) = false := by simp
  have h2 : decide ((l.length : Int) - at_ < x) = false := by simp; omega
  go_enter Try.func34, Try.ntmps34
  go_wp2_with fail
  refine (right_any _ _).mono ?_
  rintro e w' ⟨rfl, rfl⟩
  go_wp2_with fail
  go_loop [8, 9] (fun s i => ∃ k : Nat, k ≤ x ∧ i = .int .i64 ((x : Int) - 1 - k) ∧ s = .int .u64 (num ((l.drop (at_ + x - k)).take k))) (fun _ i => (1 + intOf i).toNat)
  case atStart => exact ⟨0, by omega, by simp, by simp [num]⟩
  case round =>
    obtain ⟨k, hk, rfl, rfl⟩ := hrel
    by_cases hlt2 : k < x
    · obtain ⟨j, hj⟩ : ∃ j : Nat, (x : Int) - 1 - k = j := ⟨x - 1 - k, by omega⟩
      rw [hj]
      have hjl : (at_ : Int) + j < l.length := by omega
      have HJ := hid hj; clear hj
      go_wp2
      have hj := HJ.out
      refine ⟨⟨k + 1, by omega, by rw [show (x : Int) - 1 - (k + 1 : Nat) = j - 1 by omega], ?_⟩, by simp [intOf]; omega⟩
      have hi : at_ + j < l.length := by omega
      have e1 : at_ + x - (k + 1) = at_ + j := by omega
      have e2 : at_ + x - k = at_ + j + 1 := by omega
      have hs := num_step (k := k) (List.getElem?_eq_getElem hi)
      rw [e1, e2, hs]
      have hb := num_bounds ((l.drop (at_ + j + 1)).take k)
      have hl : ((l.drop (at_ + j + 1)).take k).length = k := by simp; omega
      rw [hl] at hb
      have hp := pw_le7 (k := k) (by omega)
      have hc := l[at_ + j].toNat_lt
      have e3 : ∀ h, (⟨l.toArray⟩ : ByteArray)[at_ + j]'h = l[at_ + j] := fun _ => rfl
      rw [e3]
      generalize num ((l.drop (at_ + j + 1)).take k) = m at *
      rw [IntKind.wrap_u64, IntKind.wrap_u64, IntKind.wrap_u64]
      congr 1
      omega
    · obtain rfl : k = x := by omega
      have e : (k : Int) - 1 - k = -1 := by omega
      rw [e]
      go_wp2
      go_ret2
      exact ⟨by simp, by trivial⟩

set_option maxHeartbeats 1000000 in
theorem rget_false (l : List UInt8) (at_ x : Int) (w : World) (hm : l.length ≤ 9223372036854775807) (hh : holdsB l.length at_ x = false) :
    Calls Try.prog 34 #[.string ⟨l.toArray⟩, .int .i64 at_, .int .i64 x] w fun e w' => e = .returned (.tuple #[.int .u64 0, .bool false]) ∧ w = w' := by
  by_cases hx : isW x = true
  · have hx8 := isW_cases hx
    by_cases ha : at_ < 0
    · go_enter Try.func34, Try.ntmps34
      go_wp2_with fail
      refine (right_any _ _).mono ?_
      rintro e w' ⟨rfl, rfl⟩
      go_wp2_with fail
      go_ret2
      exact ⟨rfl, rfl⟩
    · obtain ⟨a, rfl⟩ := Int.eq_ofNat_of_zero_le (show 0 ≤ at_ by omega)
      have h3 : decide ((a : Int) < 0) = false := by simp
      have h4 : (l.length : Int) - x < a := by simp [holdsB, hx] at hh; omega
      clear hh ha
      by_cases hb : l.length < a
      · have h1 : decide (l.length < a) = true := by simpa using hb
        go_enter Try.func34, Try.ntmps34
        go_wp2_with fail
        refine (right_any _ _).mono ?_
        rintro e w' ⟨rfl, rfl⟩
        go_wp2_with fail
        go_ret2
        exact ⟨rfl, rfl⟩
      · have h1 : decide (l.length < a) = false := by simp; omega
        have h2 : decide ((l.length : Int) - a < x) = true := by simp; omega
        go_enter Try.func34, Try.ntmps34
        go_wp2_with fail
        refine (right_any _ _).mono ?_
        rintro e w' ⟨rfl, rfl⟩
        go_wp2_with fail
        go_ret2
        exact ⟨rfl, rfl⟩
  · have hx' : isW x = false := by simpa using hx
    go_enter Try.func34, Try.ntmps34
    go_wp2_with fail
    refine (right_any _ _).mono ?_
    rintro e w' ⟨rfl, rfl⟩
    go_wp2_with fail
    go_ret2
    exact ⟨rfl, rfl⟩

theorem rget_any (l : List UInt8) (at_ x : Int) (w : World) (hm : l.length ≤ 9223372036854775807) :
    Calls Try.prog 34 #[.string ⟨l.toArray⟩, .int .i64 at_, .int .i64 x] w fun e w' => e = .returned (.tuple #[.int .u64 (getN l at_ x), .bool (holdsB l.length at_ x)]) ∧ w = w' := by
  cases hh : holdsB l.length at_ x with
  | false =>
    refine (rget_false l at_ x w hm hh).mono ?_
    rintro e w' ⟨rfl, hb⟩
    exact ⟨by simp [getN, hh], hb⟩
  | true =>
    have hh' := hh
    simp [holdsB] at hh'
    have hx := isW_cases hh'.1.1
    obtain ⟨k, rfl⟩ := Int.eq_ofNat_of_zero_le (show 0 ≤ x by omega)
    obtain ⟨a, rfl⟩ := Int.eq_ofNat_of_zero_le (show 0 ≤ at_ by omega)
    refine (rget_true l a k w hm (by omega) (by omega)).mono ?_
    rintro e w' ⟨rfl, hb⟩
    exact ⟨by simp [getN, hh], hb⟩

/-- How long a text in a slot is. -/
def strLen : Value → Nat | .string s => s.size | _ => 0

end Go.Proofs.Ytacakogncjhlfaa
