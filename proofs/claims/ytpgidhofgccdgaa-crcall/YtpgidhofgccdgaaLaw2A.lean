/-
  The contract of the statements' own 'alive' of layer 2: it answers true.
-/
import Derived.Test.YtpgidhofgccdgaaCrcB
import Derived.Lib.SlBytesConst
namespace Go.Proofs.Ytpgidhofgccdgaa
open Go.RowKit
set_option linter.unusedVariables false

theorem crc_known : crcB 0#16 [49, 50, 51, 52, 53, 54, 55, 56, 57] = 12739#16 := by decide +kernel

/-- Bytes of a text that the program names. -/
theorem rd_lit (w : World) (xs : List UInt8) (m : Nat) (hm : xs.length = m) (hmax : m ≤ maxLen) (fr : Nat × Nat) :
    Rd (w.alloc (.cells (xs.map bv).toArray 5 fr)) (w.alloc (.cells (xs.map bv).toArray 5 fr)).heap.size (some ⟨w.heap.size, 0, none⟩) m m xs := by
  subst hm
  refine ⟨rfl, Nat.le_refl _, hmax, (fun h => by cases h), fun _ => ⟨w.heap.size, 0, rfl, by simp, fun i hi => ?_⟩⟩
  rw [World.cell?_alloc_mark]
  simp [hi]

theorem rd_ab (w : World) : Rd (w.alloc (.cells #[.int .u8 97, .int .u8 98] 5 (2, 3))) (w.alloc (.cells #[.int .u8 97, .int .u8 98] 5 (2, 3))).heap.size (some ⟨w.heap.size, 0, none⟩) 2 2 [97, 98] := by
  have h := rd_lit w [97, 98] 2 rfl (by unfold maxLen; omega) (2, 3)
  rw [show (([97, 98] : List UInt8).map bv).toArray = #[.int .u8 97, .int .u8 98] by kernel_rfl] at h
  exact h
theorem rd_19 (w : World) : Rd (w.alloc (.cells #[.int .u8 49, .int .u8 50, .int .u8 51, .int .u8 52, .int .u8 53, .int .u8 54, .int .u8 55, .int .u8 56, .int .u8 57] 5 (9, 10))) (w.alloc (.cells #[.int .u8 49, .int .u8 50, .int .u8 51, .int .u8 52, .int .u8 53, .int .u8 54, .int .u8 55, .int .u8 56, .int .u8 57] 5 (9, 10))).heap.size (some ⟨w.heap.size, 0, none⟩) 9 9 [49, 50, 51, 52, 53, 54, 55, 56, 57] := by
  have h := rd_lit w [49, 50, 51, 52, 53, 54, 55, 56, 57] 9 rfl (by unfold maxLen; omega) (9, 10)
  rw [show (([49, 50, 51, 52, 53, 54, 55, 56, 57] : List UInt8).map bv).toArray = #[.int .u8 49, .int .u8 50, .int .u8 51, .int .u8 52, .int .u8 53, .int .u8 54, .int .u8 55, .int .u8 56, .int .u8 57] by kernel_rfl] at h
  exact h

set_option maxHeartbeats 1000000 in
theorem alive_any (w : World) :
    Calls Try.prog 8 #[] w fun e w' => e = .returned (.bool true) ∧ Below w.heap.size w w' := by
  have kc := fun (W : World) (C : Array Value) (n c : Nat) => Lib.run_convert_bytes_const (P := Try.prog) W 22 5 C n c Try.underlying22 Try.underlying5
  have HK := hid crc_known
  have HS := hid (open_sealed [97, 98])
  have HSL := hid (openL_sealed [97, 98])
  obtain ⟨ab, hab⟩ : ∃ ab : List UInt8, ab = [97, 98] := ⟨_, rfl⟩
  have hab2 : ab.length = 2 := by rw [hab]; rfl
  have HAB := hid hab; have HAB2 := hid hab2
  rw [← hab] at HS HSL
  clear hab hab2
  obtain ⟨dg, hdg⟩ : ∃ dg : List UInt8, dg = [49, 50, 51, 52, 53, 54, 55, 56, 57] := ⟨_, rfl⟩
  rw [← hdg] at HK
  have HDG := hid hdg
  clear hdg
  go_enter Try.func8, Try.ntmps8
  go_wp2_with fail
  have HR := hid (rd_ab w)
  rw [← HAB.out] at HR
  refine (seal_any _ 2 2 ab _ HR.out (by omega)).mono ?_
  rintro e w1 ⟨v, rfl, ho, hb1⟩
  obtain ⟨A, cap, hv, hr⟩ := ho.rd
  rw [hv]
  have e : (ab ++ sumL ab).length = 4 := by simp [sumL_length, HAB2.out]
  have HR1 : Hid (Rd w1 w1.heap.size A 4 cap (ab ++ sumL ab)) := by
    rw [e] at hr; exact hr
  rw [e]
  clear hv hr ho e HR
  go_wp2_with fail
  refine (open_any _ 4 cap _ _ HR1.out (by omega)).mono ?_
  rintro e w2 ⟨v2, rfl, ho, hb2⟩
  rw [HS.out]
  rw [HSL.out] at ho
  have HV := hid ho
  have hbA := Bt (Ba (B0 w) _) (Bt hb1 hb2)
  clear ho HR1 hb1 hb2
  go_wp2_with fail
  have HR9 := hid (rd_19 w2)
  rw [← HDG.out] at HR9
  refine (sum1 (by simp) HR9.out).mono ?_
  rintro e w3 ⟨rfl, hb3⟩
  rw [HK.out]
  have hb3' := Bt (B1 w2 _) hb3
  obtain ⟨A4, c4, hv4, hr4⟩ := (HV.out.grown hb3').rd
  have hcv := hr4.conv
  rw [← hv4] at hcv
  rw [HAB.out] at hcv
  clear hv4 hr4 HR9 hb3
  have hfin := Bt hbA hb3'
  go_wp2_with fail
  go_ret
  exact ⟨rfl, hfin⟩
end Go.Proofs.Ytpgidhofgccdgaa
