/-
  Contracts of the functions of word that work on bytes: holds, Put, Set, Pad; and of bytes.Clone.
-/
import Derived.Test.YtacakogncjhlfaaWordA
import Derived.Test.YtacakogncjhlfaaLayA
namespace Go.Proofs.Ytacakogncjhlfaa
open Go.RowKit
set_option linter.unusedVariables false

/-- Whether a number of that width stands in so many bytes from at on. -/
def holdsB (len : Nat) (at_ x : Int) : Bool := isW x && decide (0 ≤ at_) && decide (at_ ≤ (len : Int) - x)

set_option maxHeartbeats 1000000 in
theorem holds_any (A : Option Addr) (n cap : Nat) (at_ x : Int) (w : World) (hm : n ≤ maxLen) :
    Calls Try.prog 52 #[.slice A n cap, .int .i64 at_, .int .i64 x] w fun e w' => e = .returned (.bool (holdsB n at_ x)) ∧ Below w.heap.size w w' := by
  unfold maxLen at hm
  by_cases hx : isW x = true
  · have hx8 : 1 ≤ x ∧ x ≤ 8 := by rcases isW_cases hx with rfl | rfl | rfl | rfl <;> omega
    obtain ⟨h1, h8⟩ := hx8
    by_cases ha : 0 ≤ at_
    all_goals
      go_enter Try.func52, Try.ntmps52
      go_wp2_with fail
      refine (widths_any _).mono ?_
      rintro e w1 ⟨rfl, rfl⟩
      go_wp2_with fail
      refine (isWidth_any _ _ _ (by simp) (by simp) (by simp) (by simp)).mono ?_
      rintro e w1 ⟨rfl, rfl⟩
      go_wp2_with fail
      go_ret
    · exact ⟨ret_bool (by simp [holdsB, hx, ha]), B1 _ _⟩
    · exact ⟨ret_bool (by simp [holdsB, hx]; omega), B1 _ _⟩
  · have hx' : isW x = false := by simpa using hx
    go_enter Try.func52, Try.ntmps52
    go_wp2_with fail
    refine (widths_any _).mono ?_
    rintro e w1 ⟨rfl, rfl⟩
    go_wp2_with fail
    refine (isWidth_any _ _ _ (by simp) (by simp) (by simp) (by simp)).mono ?_
    rintro e w1 ⟨rfl, rfl⟩
    go_wp2_with fail
    go_ret
    exact ⟨ret_bool (by simp [holdsB, hx']), B1 _ _⟩

/-- Bytes, and as many bytes 0 behind as it takes to whole words. -/
def padL (l : List UInt8) : List UInt8 := l ++ List.replicate ((l.length + 7) / 8 * 8 - l.length) 0
theorem padL_length (l : List UInt8) : (padL l).length = (l.length + 7) / 8 * 8 := by simp [padL]; omega

set_option maxHeartbeats 1000000 in
theorem clone_any (A : Option Addr) (n cap : Nat) (l : List UInt8) (w : World) (h : Rd w w.heap.size A n cap l) (hm : n ≤ 1000000) :
    Calls Try.prog 48 #[.slice A n cap] w fun e w' => ∃ v, e = .returned v ∧ Own w' w.heap.size v l ∧ Below w.heap.size w w' := by
  have hq := fun W => Lib.run_eql_slice_nil (P := Try.prog) W 27 5 A n cap 0 0 Try.underlying27
  rcases A with _ | ad
  · have h0 := h.2.2.2.1 rfl
    have hn0 : n = 0 := by have := h.2.1; omega
    subst h0; subst hn0
    have hl : l = [] := List.eq_nil_of_length_eq_zero h.1
    subst hl
    clear hq h
    have hq := fun W => Lib.run_eql_slice_nil (P := Try.prog) W 27 5 none 0 0 0 0 Try.underlying27
    go_enter Try.func48, Try.ntmps48
    go_wp2_with fail
    go_ret
    exact ⟨_, rfl, World.ownsRow_nil _ _ _ _, B0 _⟩
  · have H := hid h; clear h
    go_enter Try.func48, Try.ntmps48
    go_wp2_with (at_builtin; refine wpList_append8 rfl (.tmp 5) (.tmp 6) rfl rfl (own_new w [] 0 rfl (by unfold maxLen; omega)) rfl (H.out.on (B1 _ _)) (by simp) (by simp; omega) ?_; intro v' w' how hgr hnil)
    go_ret
    refine ⟨_, rfl, by simpa using how, ?_⟩
    have hg : (w.alloc (Obj.cells #[] 5)).grownBy w' (some w.heap.size) := hgr
    exact (B1 w (Obj.cells #[] 5)).grown hg (by simp) (fun k hk => by cases hk; exact Nat.le_refl _)

set_option maxHeartbeats 1000000 in
theorem put_true (A : Option Addr) (n cap : Nat) (l : List UInt8) (x : Nat) (nn : Int) (w : World) (h : Rd w w.heap.size A n cap l) (hm : n ≤ 1000000) (hn : U64 nn) (hf : fits nn x false = true) (hx : x = 1 ∨ x = 2 ∨ x = 4 ∨ x = 8) :
    Calls Try.prog 29 #[.slice A n cap, .int .i64 x, .int .u64 nn] w fun e w' => ∃ v, e = .returned (.tuple #[v, .bool true]) ∧ Own w' w.heap.size v (l ++ le nn x) ∧ Below w.heap.size w w' := by
  obtain ⟨m, hm'⟩ : ∃ m : Nat, m = n + x := ⟨_, rfl⟩
  have hnm : n ≤ m := by omega
  have hnm2 : n < m := by omega
  have hmk := fun W => run_make8 m ((n : Int) + x) (by omega) (by omega) W
  have hx8 : x ≤ 8 := by omega
  have HM := hid hm'; clear hm'
  have HL := hid h.1
  have H := hid h; clear h
  go_enter Try.func29, Try.ntmps29
  go_wp2_with fail
  refine (fits_any nn x false _ hn).mono ?_
  rintro e w1 ⟨rfl, hb1⟩
  have hcp := run_copy_new (H.out.on hb1) m hnm 3
  go_wp2_with fail
  refine (lay_any w1.heap.size n (m - n) (m - n) x nn (lrow l (m - n)).toArray _ hn (heap_alloc_new w1 _) ?_ hx8 ?_ (Nat.le_refl _)).mono ?_
  · have := HM.out; omega
  · have := HL.out; simp [lrow_length]; omega
  rintro e w2 ⟨rfl, hg, hgr, hsz⟩
  have HG := hid hg; clear hg
  have HS := hid hsz; clear hsz
  have HR := hid hgr; clear hgr
  go_wp2_with fail
  go_ret2
  refine ⟨_, rfl, ?_, ?_⟩
  · have h1 := HM.out; have h2 := HL.out
    have h3 := HG.out
    have e1 : m - n = (le nn x).length := by rw [le_length]; omega
    rw [e1, ← h2, splice_lrow] at h3
    exact own_row h3 hb1.size (by simp [le_length]; omega) (by unfold maxLen; omega)
  · exact (Ba hb1 _).grown HR.out (by simp; have := hb1.size; omega) (fun k hk => by cases hk; exact hb1.size)

set_option maxHeartbeats 1000000 in
theorem put_false (A : Option Addr) (n cap : Nat) (l : List UInt8) (x nn : Int) (w : World) (h : Rd w w.heap.size A n cap l) (hm : n ≤ 1000000) (hn : U64 nn) (hf : fits nn x false = false) :
    Calls Try.prog 29 #[.slice A n cap, .int .i64 x, .int .u64 nn] w fun e w' => ∃ v, e = .returned (.tuple #[v, .bool false]) ∧ Own w' w.heap.size v l ∧ Below w.heap.size w w' := by
  have H := hid h; clear h
  go_enter Try.func29, Try.ntmps29
  go_wp2_with fail
  refine (fits_any nn x false _ hn).mono ?_
  rintro e w1 ⟨rfl, hb1⟩
  go_wp2_with fail
  refine (clone_any A n cap l _ (H.out.on hb1) hm).mono ?_
  rintro e w2 ⟨v, rfl, ho, hb2⟩
  have HO := hid ho; clear ho
  go_wp2_with fail
  go_ret2
  refine ⟨_, rfl, ?_, Bt hb1 hb2⟩
  obtain ⟨h1, h2⟩ := HO.out
  refine ⟨h1, ?_⟩
  rcases h2 with h3 | ⟨g, c, cur, hv, hbase, h4⟩
  · exact .inl h3
  · exact .inr ⟨g, c, cur, hv, Nat.le_trans hb1.size hbase, h4⟩

/-- What Put answers. -/
def putL (l : List UInt8) (nn x : Int) : List UInt8 := if fits nn x false then l ++ le nn x.toNat else l

theorem fits_w {nn x : Int} {b : Bool} (h : fits nn x b = true) : x = 1 ∨ x = 2 ∨ x = 4 ∨ x = 8 := by
  unfold fits at h
  exact isW_cases (Bool.and_eq_true_iff.1 h).1

theorem put_any (A : Option Addr) (n cap : Nat) (l : List UInt8) (x nn : Int) (w : World) (h : Rd w w.heap.size A n cap l) (hm : n ≤ 1000000) (hn : U64 nn) :
    Calls Try.prog 29 #[.slice A n cap, .int .i64 x, .int .u64 nn] w fun e w' => ∃ v, e = .returned (.tuple #[v, .bool (fits nn x false)]) ∧ Own w' w.heap.size v (putL l nn x) ∧ Below w.heap.size w w' := by
  by_cases hf : fits nn x false = true
  · have hx := fits_w hf
    obtain ⟨k, rfl⟩ := Int.eq_ofNat_of_zero_le (show 0 ≤ x by omega)
    refine (put_true A n cap l k nn w h hm hn hf (by omega)).mono ?_
    rintro e w' ⟨v, rfl, h2, h3⟩
    exact ⟨v, by rw [hf], by simpa [putL, hf] using h2, h3⟩
  · have hf' : fits nn x false = false := by simpa using hf
    refine (put_false A n cap l x nn w h hm hn hf').mono ?_
    rintro e w' ⟨v, rfl, h2, h3⟩
    exact ⟨v, by rw [hf'], by simpa [putL, hf'] using h2, h3⟩

/-- What Set answers. -/
def setOk (n : Nat) (at_ x nn : Int) : Bool := holdsB n at_ x && fits nn x false

def setR (l : List UInt8) (at_ x nn : Int) : List UInt8 := if setOk l.length at_ x nn then setL l at_.toNat (le nn x.toNat) else []

end Go.Proofs.Ytacakogncjhlfaa
