/-
  The walk of CrcZero.
-/
import Derived.Test.YtpgidhofgccdgaaLaw2A
namespace Go.Proofs.Ytpgidhofgccdgaa
open Go.RowKit
set_option linter.unusedVariables false

set_option maxHeartbeats 1000000 in
theorem walk_CrcZero (many : Int) (A : Option Addr) (n cap : Nat) (l : List UInt8) (w : World) (w0 : (Lit.int .i64 many).wf = true) (h : Rd w w.heap.size A n cap l) :
    Calls Try.prog 7 #[.int .i64 many, .slice A n cap] w fun e w' => e = .returned (.bool true) ∧ Below w.heap.size w w' := by
  clear w0
  by_cases hbig : many < 0 ∨ 2000 < many ∨ 2000 < n
  · have h1 : decide (many < 0) = true ∨ (decide (many < 0) = false ∧ decide (2000 < many) = true) ∨ (decide (many < 0) = false ∧ decide (2000 < many) = false ∧ decide ((2000 : Int) < n) = true) := by simp; omega
    have H := hid h; clear h hbig
    rcases h1 with h1 | ⟨h1, h2⟩ | ⟨h1, h2, h3⟩
    all_goals
      go_enter Try.func7, Try.ntmps7
      go_wp2_with fail
      refine (alive_any _).mono ?_
      rintro e w2 ⟨rfl, hb2⟩
      go_wp2_with fail
      go_ret
      exact ⟨rfl, hb2⟩
  · obtain ⟨k, rfl⟩ := Int.eq_ofNat_of_zero_le (show 0 ≤ many by omega)
    have h1 : decide ((k : Int) < 0) = false := by simp
    have h2 : decide (2000 < (k : Int)) = false := by simp; omega
    have h3 : decide ((2000 : Int) < n) = false := by simp; omega
    have hmk := fun W => run_make8 k (k : Int) rfl (by omega) W
    have H := hid h; clear h
    have HZ := hid (crcB_zeros k)
    have HZ2 : Hid (crcB 0#16 (List.replicate k 0 ++ l) = crcB 0#16 l) := show _ = _ by rw [crcB_append, crcB_zeros]
    have hk : k ≤ maxLen := by unfold maxLen; omega
    clear hbig
    go_enter Try.func7, Try.ntmps7
    go_wp2_with fail
    refine (alive_any _).mono ?_
    rintro e w2 ⟨rfl, hb2⟩
    have hz : Rd (w.alloc (.cells (zrow k).toArray 5)) (w.alloc (.cells (zrow k).toArray 5)).heap.size (some ⟨w.heap.size, 0, none⟩) k k (List.replicate k 0) := by
      have h1 := own_new w (List.replicate k 0) k (by simp) hk
      rw [show (List.replicate k (0 : UInt8)).map bv = zrow k by simp [zrow]] at h1
      obtain ⟨A', c', hv, hr⟩ := h1.rd
      simp at hv
      obtain ⟨rfl, rfl⟩ := hv
      simpa using hr
    have HR := hid (hz.on hb2)
    have HB := hid (H.out.on (Bt (B1 w (.cells (zrow k).toArray 5)) hb2))
    have hbA := Bt (B1 w (.cells (zrow k).toArray 5)) hb2
    clear hz hb2
    go_wp2_with fail
    refine (sum1 rfl HR.out).mono ?_
    rintro e w3 ⟨rfl, hb3⟩
    rw [HZ.out]
    have HR3 := hid (HR.out.on hb3)
    have HB3 := hid (HB.out.on hb3)
    go_wp2_with fail
    refine (sum2 rfl HR3.out HB3.out).mono ?_
    rintro e w4 ⟨rfl, hb4⟩
    rw [HZ2.out]
    have HB4 := hid (HB3.out.on hb4)
    go_wp2_with fail
    refine (sum1 rfl HB4.out).mono ?_
    rintro e w5 ⟨rfl, hb5⟩
    have hfin := Bt (Bt (Bt hbA hb3) hb4) hb5
    go_wp2_with fail
    go_ret
    exact ⟨rfl, hfin⟩
end Go.Proofs.Ytpgidhofgccdgaa
