/-
  PmemFences holds: for every script the statement answers true, and nothing that was there has turned.
-/
import Derived.Test.YtfekholamkidkaaPmO
namespace Go.Proofs.Ytfekholamkidkaa
open Go.RowKit Go.Maps Go.Sort
set_option linter.unusedVariables false

theorem looseL_empty {n : Nat} {L : Int → Option (List UInt8)} (h : ∀ k, L k = none) : looseL n L = [] := by
  unfold looseL
  rw [List.filter_eq_nil_iff]
  intro k _; simp [h k]

set_option maxHeartbeats 2000000 in
theorem walk_PmemFences (A : Option Addr) (n c : Nat) (l : List OpV) (w : World) (h : RdO w w.heap.size A n c l) :
    Calls Try.prog 7 #[.slice A n c] w fun e w' => e = .returned (.bool true) ∧ Below w.heap.size w w' := by
  have H := hid h; clear h
  go_enter Try.func7, Try.ntmps7
  go_wp2_with fail
  refine (made_any H.out).mono ?_
  rintro e w1 (⟨rfl, hb1⟩ | ⟨d, g, cap, lb, fb, S, L, F, rfl, hd1, h80, hb1⟩)
  · have HB1 := hid hb1; clear hb1
    go_wp2_with fail
    refine (alive_any _).mono ?_
    rintro e w2 ⟨rfl, hb2⟩
    go_wp2_with fail
    go_ret
    exact ⟨rfl, Bt HB1.out hb2⟩
  · have HD1 := hid hd1; have HB1 := hid hb1; have H80 := hid h80; clear hd1 hb1 h80
    go_wp2_with fail
    refine (bytes_any HD1.out).mono ?_
    rintro e w2 ⟨v2, rfl, ho2, hb2⟩
    obtain ⟨A2, c2, hv2, hr2⟩ := ho2.rd
    have hcv2 := hr2.conv
    rw [← hv2] at hcv2
    have HD2 := hid (HD1.out.on hb2); have HB2 := hid (Bt HB1.out hb2)
    clear ho2 hv2 hr2 hb2 HD1 HB1
    go_wp2_with fail
    refine (fence_any HD2.out).mono ?_
    rintro e w3 ⟨rfl, hd3, hf3⟩
    have HD3 := hid hd3; have HB3 := hid (HB2.out.trans (HD2.out.below hf3))
    clear hd3 hf3 HD2 HB2 hcv2
    go_wp2_with fail
    refine (bytes_any HD3.out).mono ?_
    rintro e w4 ⟨v4, rfl, ho4, hb4⟩
    obtain ⟨A4, c4, hv4, hr4⟩ := ho4.rd
    have hcv4 := hr4.conv
    rw [← hv4] at hcv4
    have HD4 := hid (HD3.out.on hb4); have HB4 := hid (Bt HB3.out hb4)
    clear ho4 hv4 hr4 hb4 HD3 HB3
    go_wp2_with fail
    refine (flush_ok HD4.out 0 80 (i64_iff.2 (by decide)) (i64_iff.2 (by decide)) (by rw [H80.out]; decide)).mono ?_
    rintro e w5 ⟨rfl, hd5, hf5⟩
    have HD5 := hid hd5; have HB5 := hid (HB4.out.trans (HD4.out.below hf5))
    clear hd5 hf5 HB4 hcv4
    go_wp2_with fail
    refine (fence_any HD5.out).mono ?_
    rintro e w6 ⟨rfl, hd6, hf6⟩
    have HLN : Hid (∀ k, feL (feL L F) (flF (fun _ => false) (feL L F) (spA 0 80) (spB 0 80)) k = none) := by
      intro k
      rw [show spA 0 80 = 0 by decide, show spB 0 80 = 10 by decide]
      cases hl : feL L F k with
      | none => simp [feL] at hl ⊢; intro _; exact hl
      | some x =>
        have h1 := HD4.out.keyL k x hl
        have h2 := H80.out
        have : flF (fun _ => false) (feL L F) 0 10 k = true := by simp [flF, hl]; omega
        simp only [feL] at this ⊢
        simp [this]
    have HD6 := hid hd6; have HB6 := hid (HB5.out.trans (HD5.out.below hf6))
    clear hd6 hf6 HD5 HB5 HD4
    go_wp2_with fail
    refine (alive_any _).mono ?_
    rintro e w7 ⟨rfl, hb7⟩
    have HD7 := hid (HD6.out.on hb7); have HB7 := hid (Bt HB6.out hb7)
    clear hb7 HD6 HB6
    go_wp2_with fail
    refine (loose_any HD7.out).mono ?_
    rintro e w8 ⟨v8, rfl, hr8, hb8⟩
    rw [looseL_empty HLN.out] at hr8
    obtain ⟨A8, c8, hv8, _⟩ := rdI_of_row hr8 (by simp)
    subst hv8
    have HD8 := hid (HD7.out.on hb8); have HB8 := hid (Bt HB7.out hb8)
    clear hr8 hb8 HD7 HB7
    go_wp2_with fail
    refine (bytes_any HD8.out).mono ?_
    rintro e w9 ⟨v9, rfl, ho9, hb9⟩
    obtain ⟨A9, c9, hv9, hr9⟩ := ho9.rd
    have hcv9 := hr9.conv
    rw [← hv9] at hcv9
    have HB9 := hid (Bt HB8.out hb9)
    clear ho9 hv9 hr9 hb9 HD8 HB8
    go_wp2_with fail
    go_ret
    exact ⟨rfl, HB9.out⟩
end Go.Proofs.Ytfekholamkidkaa
