/-
  The contract of the statements' own 'alive' of layer 1: it answers true.
-/
import Derived.Test.YtcnfilakbgoofaaWordG
namespace Go.Proofs.Ytcnfilakbgoofaa
open Go.RowKit
set_option linter.unusedVariables false

set_option maxHeartbeats 1000000 in
theorem alive_any (w : World) :
    Calls Try.prog 10 #[] w fun e w' => e = .returned (.bool true) ∧ Below w.heap.size w w' := by
  have h258 : U64 258 := by unfold U64; rw [pw8]; omega
  have h255 : U64 255 := by unfold U64; rw [pw8]; omega
  have hput : putL [] 258 2 = [2, 1] := by decide
  have hpo : fits 258 2 false = true := by decide
  have hget : getN [2, 1] 0 2 = 258 := by decide
  have hgo : holdsB 2 0 2 = true := by decide
  have hsg : sgn 255 1 = 18446744073709551615 := by decide
  have hfi : fits 255 1 true = false := by decide
  have HP := hid hput; have HPO := hid hpo; have HG := hid hget; have HGO := hid hgo; have HSG := hid hsg; have HFI := hid hfi
  clear hput hpo hget hgo hsg hfi
  go_enter Try.func10, Try.ntmps10
  go_wp2_with fail
  refine (put_any none 0 0 [] 2 258 _ (Rd.nil _ _) (by omega) h258).mono ?_
  rintro e w1 ⟨v, rfl, ho, hb1⟩
  rw [HP.out] at ho
  rw [HPO.out]
  obtain ⟨A, cap, hv, hr⟩ := ho.rd
  rw [hv]
  replace hr : Rd w1 w1.heap.size A 2 cap [2, 1] := hr
  clear hv ho
  go_wp2_with fail
  refine (get_any A 2 cap [2, 1] 0 2 _ hr).mono ?_
  rintro e w2 ⟨rfl, hb2⟩
  have hr2 := hr.on hb2
  have hb := Bt hb1 hb2
  clear hr hb1 hb2
  rw [HG.out, HGO.out]
  have hcv := hr2.conv
  go_wp2_with fail
  refine (sign_any 255 1 _ h255).mono ?_
  rintro e w3 ⟨rfl, hb3⟩
  rw [HSG.out]
  go_wp2_with fail
  refine (fits_any 255 1 true _ h255).mono ?_
  rintro e w4 ⟨rfl, hb4⟩
  rw [HFI.out]
  go_wp2_with fail
  refine (pad_any A 2 cap [2, 1] _ ((hr2.on hb3).on hb4) (by omega)).mono ?_
  rintro e w5 ⟨u, rfl, ho, hb5⟩
  obtain ⟨A', cap', hv, hr5⟩ := ho.rd
  rw [hv]
  clear hv ho hr5
  have hfin := Bt (Bt (Bt hb hb3) hb4) hb5
  clear hb hb3 hb4 hb5 hcv hr2
  go_wp2_with fail
  go_ret
  exact ⟨rfl, hfin⟩
end Go.Proofs.Ytcnfilakbgoofaa
