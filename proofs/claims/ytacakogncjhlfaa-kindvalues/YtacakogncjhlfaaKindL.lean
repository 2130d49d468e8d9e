/-
  alive of layer 5; float64's bits.
-/
import Derived.Test.YtacakogncjhlfaaKindV
import Derived.Laws.Externs
namespace Go.Proofs.Ytacakogncjhlfaa
open Go.RowKit
set_option linter.unusedVariables false
set_option linter.unusedSimpArgs false

theorem al_cast : castR 5 18446744073709551615 ⟨#[]⟩ 5 0 7 0 = .tuple #[.agg #[.int .i64 7, .int .u64 18446744073709551615, .string ⟨#[]⟩], .int .i64 0] := by
  rw [castR_ok (by decide) (by decide)]; rfl
theorem al_enc : (encT 7 18446744073709551615 ⟨#[]⟩ 7 0).toList = [255, 255, 255, 255] ∧ encE 7 18446744073709551615 ⟨#[]⟩ 7 0 = 0 := by
  have h : rightF 7 18446744073709551615 (ByteArray.size ⟨#[]⟩) 7 0 = true := by decide
  refine ⟨?_, by simp [encE, h]⟩
  rw [ByteArray.toList_eq, show encT 7 18446744073709551615 ⟨#[]⟩ 7 0 = encL 18446744073709551615 ⟨#[]⟩ 7 0 by simp [encT, h]]
  decide
theorem al_whole : wholeN 13837084675114480435 = -2 ∧ wholeN 9094988921128908188 = 9223372036854775807 := by decide

set_option maxHeartbeats 1000000 in
theorem alive_any (w : World) :
    Calls Try.prog 11 #[] w fun e w' => e = .returned (.bool true) ∧ Below w.heap.size w w' := by
  have hu : U64 18446744073709551615 := ⟨by decide, by rw [pw8]; decide⟩
  have hu1 : U64 13837084675114480435 := ⟨by decide, by rw [pw8]; decide⟩
  have hu2 : U64 9094988921128908188 := ⟨by decide, by rw [pw8]; decide⟩
  go_enter Try.func11, Try.ntmps11
  go_wp2_with fail
  go_at_call 22
  refine (kcast_any _ _ _ _ _ _ _ _ _ _ hu).mono ?_
  rintro e w1 ⟨rfl, hb1⟩
  rw [show (castR 5 18446744073709551615 ⟨#[]⟩ 5 0 7 0) = _ from al_cast]
  go_wp2_with fail
  go_at_call 12
  refine (kencode_any _ _ _ _ _ _ _ hu).mono ?_
  rintro e w2 ⟨A, m, cap, rfl, hrd, hb2⟩
  rw [al_enc.1] at hrd
  rw [al_enc.2]
  have hcv := hrd.conv
  have hf1 := run_fbits 13837084675114480435
  have hf2 := run_fbits 9094988921128908188
  obtain ⟨c0, c1, c2⟩ := ((vb_new w1 7 18446744073709551615 ⟨#[]⟩).on hb2).cells
  go_wp2_with fail
  go_at_call 26
  refine (kwhole_any _ _ hu1).mono ?_
  rintro e w3 ⟨rfl, hb3⟩
  rw [show wholeN (13837084675114480435 : Int).toNat = -2 from al_whole.1]
  go_wp2_with fail
  go_at_call 26
  refine (kwhole_any _ _ hu2).mono ?_
  rintro e w4 ⟨rfl, hb4⟩
  rw [show wholeN (9094988921128908188 : Int).toNat = 9223372036854775807 from al_whole.2]
  go_wp2_with fail
  go_ret
  exact ⟨rfl, Bt (Bt (Bt (Ba hb1 _) hb2) hb3) hb4⟩
end Go.Proofs.Ytacakogncjhlfaa
