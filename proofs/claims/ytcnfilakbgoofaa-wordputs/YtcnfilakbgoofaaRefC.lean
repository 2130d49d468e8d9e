/-
  The contract of the document's own Set for layer 1.
-/
import Derived.Test.YtcnfilakbgoofaaRefB
namespace Go.Proofs.Ytcnfilakbgoofaa
open Go.RowKit
set_option linter.unusedVariables false

set_option maxHeartbeats 1000000 in
theorem rset_true (l : List UInt8) (at_ x : Nat) (nn : Int) (w : World) (hm : l.length ≤ 1000000) (hn : U64 nn) (hh : holdsB l.length at_ x = true) (hf : fits nn x false = true) (hx : x = 1 ∨ x = 2 ∨ x = 4 ∨ x = 8) (hat : at_ + x ≤ l.length) :
    Calls Try.prog 14 #[.string ⟨l.toArray⟩, .int .i64 at_, .int .i64 x, .int .u64 nn] w fun e w' => e = .returned (.tuple #[.string ⟨(setL l at_ (le nn x)).toArray⟩, .bool true]) ∧ Below w.heap.size w w' := by
  have hr : rputL nn x = le nn x := by simp [rputL, hf]
  have he := le_ne nn x (by omega)
  have hlen := le_length nn x
  obtain ⟨X, hX⟩ : ∃ X, X = le nn x := ⟨_, rfl⟩
  rw [← hX] at hr he hlen ⊢
  have HX := hid hX; have HR := hid hr; have HLE := hid hlen; have HH := hid hh
  clear hX hr hlen hf hh
  have hX8 : X.length ≤ 8 := by have := HLE.out; omega
  go_enter Try.func14, Try.ntmps14
  go_wp2_with fail
  refine (rget_any l at_ x _ (by omega)).mono ?_
  rintro e w1 ⟨rfl, rfl⟩
  rw [HH.out]
  go_wp2_with fail
  refine (rput_any x nn _ hn).mono ?_
  rintro e w1 ⟨rfl, hb⟩
  rw [HR.out]
  go_wp2_with fail
  go_quiet (fail)
  go_wp2
  go_ret2
  refine ⟨?_, Bd hb nq⟩
  have h1 := HLE.out
  have e : ((⟨l.toArray⟩ : ByteArray).extract 0 at_ ++ ⟨X.toArray⟩ ++ (⟨l.toArray⟩ : ByteArray).extract (at_ + x) l.length) = ⟨(setL l at_ X).toArray⟩ := by
    rw [ByteArray.extract_mk, ByteArray.extract_mk, ByteArray.mk_append_mk, ByteArray.mk_append_mk]
    unfold setL splice
    simp [h1, List.take_of_length_le]
  exact congrArg (fun z => Ending.returned (Value.tuple #[.string z, .bool true])) e

set_option maxHeartbeats 1000000 in
theorem rset_false1 (l : List UInt8) (at_ x : Int) (nn : Int) (w : World) (hm : l.length ≤ 1000000) (hn : U64 nn) (hh : holdsB l.length at_ x = false) :
    Calls Try.prog 14 #[.string ⟨l.toArray⟩, .int .i64 at_, .int .i64 x, .int .u64 nn] w fun e w' => e = .returned (.tuple #[.string ⟨#[]⟩, .bool false]) ∧ Below w.heap.size w w' := by
  go_enter Try.func14, Try.ntmps14
  go_wp2_with fail
  refine (rget_any l at_ x _ (by omega)).mono ?_
  rintro e w1 ⟨rfl, rfl⟩
  rw [hh]
  go_wp2_with fail
  refine (rput_any x nn _ hn).mono ?_
  rintro e w1 ⟨rfl, hb⟩
  go_wp2_with fail
  go_ret2
  exact ⟨rfl, hb⟩

set_option maxHeartbeats 1000000 in
theorem rset_false2 (l : List UInt8) (at_ x : Int) (nn : Int) (w : World) (hm : l.length ≤ 1000000) (hn : U64 nn) (hh : holdsB l.length at_ x = true) (hf : fits nn x false = false) :
    Calls Try.prog 14 #[.string ⟨l.toArray⟩, .int .i64 at_, .int .i64 x, .int .u64 nn] w fun e w' => e = .returned (.tuple #[.string ⟨#[]⟩, .bool false]) ∧ Below w.heap.size w w' := by
  have hr : rputL nn x = [] := by simp [rputL, hf]
  go_enter Try.func14, Try.ntmps14
  go_wp2_with fail
  refine (rget_any l at_ x _ (by omega)).mono ?_
  rintro e w1 ⟨rfl, rfl⟩
  rw [hh]
  go_wp2_with fail
  refine (rput_any x nn _ hn).mono ?_
  rintro e w1 ⟨rfl, hb⟩
  rw [hr]
  go_wp2_with fail
  go_ret2
  exact ⟨rfl, hb⟩

theorem rset_any (l : List UInt8) (at_ x nn : Int) (w : World) (hm : l.length ≤ 1000000) (hn : U64 nn) :
    Calls Try.prog 14 #[.string ⟨l.toArray⟩, .int .i64 at_, .int .i64 x, .int .u64 nn] w fun e w' => e = .returned (.tuple #[.string ⟨(setR l at_ x nn).toArray⟩, .bool (setOk l.length at_ x nn)]) ∧ Below w.heap.size w w' := by
  cases hh : holdsB l.length at_ x with
  | false =>
    refine (rset_false1 l at_ x nn w hm hn hh).mono ?_
    rintro e w' ⟨rfl, hb⟩
    exact ⟨by simp [setR, setOk, hh], hb⟩
  | true =>
    cases hf : fits nn x false with
    | false =>
      refine (rset_false2 l at_ x nn w hm hn hh hf).mono ?_
      rintro e w' ⟨rfl, hb⟩
      exact ⟨by simp [setR, setOk, hf], hb⟩
    | true =>
      have hx := fits_w hf
      have hh' := hh
      simp [holdsB] at hh'
      obtain ⟨k, rfl⟩ := Int.eq_ofNat_of_zero_le (show 0 ≤ x by omega)
      obtain ⟨a, rfl⟩ := Int.eq_ofNat_of_zero_le (show 0 ≤ at_ by omega)
      refine (rset_true l a k nn w hm hn hh hf (by omega) (by omega)).mono ?_
      rintro e w' ⟨rfl, h3⟩
      exact ⟨by simp [setR, setOk, hh, hf], h3⟩
end Go.Proofs.Ytcnfilakbgoofaa
