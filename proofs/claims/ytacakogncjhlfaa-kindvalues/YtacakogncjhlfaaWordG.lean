/-
  The contract of word.Get.
-/
import Derived.Test.YtacakogncjhlfaaWordB
import Derived.Laws.BitsAllLaws
namespace Go.Proofs.Ytacakogncjhlfaa
open Go.RowKit
set_option linter.unusedVariables false

/-- The number that bytes say, the lowest first. -/
def num : List UInt8 → Int
  | [] => 0
  | c :: r => c.toNat + 256 * num r

theorem num_append (a b : List UInt8) : num (a ++ b) = num a + pw a.length * num b := by
  induction a with
  | nil => simp [num, pw]
  | cons c r ih =>
    simp only [List.cons_append, num, ih, List.length_cons, pw_succ]
    rw [Int.mul_add, ← Int.mul_assoc, Int.mul_comm 256 (pw _)]; omega

theorem num_bounds (a : List UInt8) : 0 ≤ num a ∧ num a < pw a.length := by
  induction a with
  | nil => simp [num, pw]
  | cons c r ih =>
    have h := c.toNat_lt
    simp only [num, List.length_cons, pw_succ]; omega

theorem or_step (a c : Int) (k : Nat) (hk : k < 8) (h0 : 0 ≤ a) (ha : a < pw k) (hc0 : 0 ≤ c) (hc : c < 256) :
    bits .or .u64 a (IntKind.u64.wrap (c * 2 ^ (8 * k))) = a + pw k * c := by
  obtain ⟨a, rfl⟩ := Int.eq_ofNat_of_zero_le h0
  obtain ⟨c, rfl⟩ := Int.eq_ofNat_of_zero_le hc0
  rw [two_pw, IntKind.wrap_u64]
  have hp := pw_pos k
  have hp7 := pw_le7 (k := k) (by omega)
  obtain ⟨q, hq⟩ := Int.eq_ofNat_of_zero_le (show 0 ≤ pw k by omega)
  have hq2 : q = 2 ^ (8 * k) := by
    have := two_pw k; rw [hq] at this; exact_mod_cast this.symm
  rw [hq] at ha hp hp7 ⊢
  have h1 : (c : Int) * q ≤ 255 * q := Int.mul_le_mul_of_nonneg_right (by omega) (by omega)
  have h2 : (c : Int) * q = ((c * q : Nat) : Int) := by simp
  rw [Int.emod_eq_of_lt (by rw [h2]; omega) (by omega), h2, u64_or_nat a (c * q) (by omega) (by omega), Nat.or_comm, nat_join (8 * k) (c * q) a (by rw [hq2]; exact Nat.mul_mod_left _ _) (by omega)]
  rw [Nat.mul_comm c q]; simp; omega

theorem take_step {l : List UInt8} {at_ k : Nat} {c : UInt8} (h : l[at_ + k]? = some c) : (l.drop at_).take (k + 1) = (l.drop at_).take k ++ [c] := by
  rw [List.take_add_one, List.getElem?_drop, h]; rfl

set_option maxHeartbeats 1000000 in
theorem get_true (A : Option Addr) (n cap : Nat) (l : List UInt8) (at_ x : Nat) (w : World) (h : Rd w w.heap.size A n cap l) (hh : holdsB n at_ x = true) (hx : x = 1 ∨ x = 2 ∨ x = 4 ∨ x = 8) (hat : at_ + x ≤ n) :
    Calls Try.prog 31 #[.slice A n cap, .int .i64 at_, .int .i64 x] w fun e w' => e = .returned (.tuple #[.int .u64 (num ((l.drop at_).take x)), .bool true]) ∧ Below w.heap.size w w' := by
  have hmax : n ≤ maxLen := Nat.le_trans h.2.1 h.2.2.1
  obtain ⟨b, off, rfl, hlt, hc⟩ := h.2.2.2.2 (by omega)
  have HL := hid h.1
  have HC := hid hc
  clear h hc
  have hmax' : n ≤ 9223372036854775807 := hmax
  go_enter Try.func31, Try.ntmps31
  go_wp2_with fail
  refine (holds_any _ n cap at_ x _ hmax).mono ?_
  rintro e w1 ⟨rfl, hb1⟩
  go_wp2_with fail
  go_loop [8, 16] (fun s i => ∃ k : Nat, k ≤ x ∧ i = .int .i64 k ∧ s = .int .u64 (num ((l.drop at_).take k))) (fun _ i => x - (intOf i).toNat)
  case atStart => exact ⟨0, by omega, rfl, by simp [num]⟩
  case round =>
    obtain ⟨k, hk, rfl, rfl⟩ := hrel
    by_cases hlt2 : k < x
    · have hi : at_ + k < l.length := by have := HL.out; omega
      have hcell : w1.cell? ⟨b, off + (at_ + k), none⟩ = some (.int .u8 (l[at_ + k].toNat)) := (hb1.cell (p := ⟨b, off + (at_ + k), none⟩) hlt).trans (HC.out (at_ + k) hi)
      have hin : (at_ : Int) + k < n := by omega
      obtain ⟨c, hcc⟩ : ∃ c, l[at_ + k]? = some c := ⟨_, List.getElem?_eq_getElem hi⟩
      have e : l[at_ + k] = c := by rw [List.getElem?_eq_getElem hi] at hcc; exact Option.some.inj hcc
      rw [e] at hcell
      have HCC := hid hcc; clear hcc e hi
      have hc0 : 0 ≤ (c.toNat : Int) := by omega
      have hc1 : (c.toNat : Int) < 256 := by have := c.toNat_lt; omega
      go_wp2
      refine ⟨⟨k + 1, by omega, by go_num, ?_⟩, by simp [intOf]; omega⟩
      have hl := HL.out
      have hlen : ((l.drop at_).take k).length = k := by simp; omega
      have hb := num_bounds ((l.drop at_).take k)
      rw [hlen] at hb
      rw [or_step _ _ k (by omega) hb.1 hb.2 hc0 hc1, take_step HCC.out, num_append, hlen]
      simp [num]
    · go_wp2
      go_ret2
      obtain rfl : k = x := by omega
      exact ⟨rfl, hb1⟩

set_option maxHeartbeats 1000000 in
theorem get_false (A : Option Addr) (n cap : Nat) (at_ x : Int) (w : World) (hmax : n ≤ maxLen) (hh : holdsB n at_ x = false) :
    Calls Try.prog 31 #[.slice A n cap, .int .i64 at_, .int .i64 x] w fun e w' => e = .returned (.tuple #[.int .u64 0, .bool false]) ∧ Below w.heap.size w w' := by
  go_enter Try.func31, Try.ntmps31
  go_wp2_with fail
  refine (holds_any _ n cap at_ x _ hmax).mono ?_
  rintro e w1 ⟨rfl, hb1⟩
  go_wp2_with fail
  go_ret2
  exact ⟨rfl, hb1⟩

/-- What Get answers. -/
def getN (l : List UInt8) (at_ x : Int) : Int := if holdsB l.length at_ x then num ((l.drop at_.toNat).take x.toNat) else 0

theorem get_any (A : Option Addr) (n cap : Nat) (l : List UInt8) (at_ x : Int) (w : World) (h : Rd w w.heap.size A n cap l) :
    Calls Try.prog 31 #[.slice A n cap, .int .i64 at_, .int .i64 x] w fun e w' => e = .returned (.tuple #[.int .u64 (getN l at_ x), .bool (holdsB n at_ x)]) ∧ Below w.heap.size w w' := by
  have hl := h.1
  cases hh : holdsB n at_ x with
  | false =>
    refine (get_false A n cap at_ x w (Nat.le_trans h.2.1 h.2.2.1) hh).mono ?_
    rintro e w' ⟨rfl, hb⟩
    exact ⟨by simp [getN, hl, hh], hb⟩
  | true =>
    have hh' := hh
    simp [holdsB] at hh'
    have hx := isW_cases hh'.1.1
    obtain ⟨k, rfl⟩ := Int.eq_ofNat_of_zero_le (show 0 ≤ x by omega)
    obtain ⟨a, rfl⟩ := Int.eq_ofNat_of_zero_le (show 0 ≤ at_ by omega)
    refine (get_true A n cap l a k w h hh (by omega) (by omega)).mono ?_
    rintro e w' ⟨rfl, hb⟩
    exact ⟨by simp [getN, hl, hh], hb⟩
end Go.Proofs.Ytacakogncjhlfaa
