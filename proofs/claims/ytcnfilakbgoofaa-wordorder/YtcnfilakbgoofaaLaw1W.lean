/-
  The walk of WordWide.
-/
import Derived.Test.YtcnfilakbgoofaaLaw1A
namespace Go.Proofs.Ytcnfilakbgoofaa
open Go.RowKit
set_option linter.unusedVariables false

/-- The widths in their order. -/
def wd : Nat → Nat
  | 0 => 1
  | 1 => 2
  | 2 => 4
  | _ => 8
theorem wd_w (k : Nat) : wd k = 1 ∨ wd k = 2 ∨ wd k = 4 ∨ wd k = 8 := by
  rcases k with _ | _ | _ | k <;> simp [wd]
theorem wd_isW (k : Nat) : isW (wd k) = true := by
  rcases wd_w k with h | h | h | h <;> rw [h] <;> rfl
theorem wd_mono {k : Nat} (h : k < 3) : wd k ≤ wd (k + 1) := by
  have : k = 0 ∨ k = 1 ∨ k = 2 := by omega
  rcases this with rfl | rfl | rfl <;> simp [wd]
theorem fits_mono {nn : Int} {k : Nat} (hk : k < 3) (h : fits nn (wd k) false = true) : fits nn (wd (k + 1)) false = true := by
  simp [fits, wd_isW] at h ⊢
  have h1 : pw (wd k) ≤ pw (wd (k + 1)) := by
    have : k = 0 ∨ k = 1 ∨ k = 2 := by omega
    rcases this with rfl | rfl | rfl <;> decide
  omega
theorem le_take (nn : Int) (a b : Nat) (h : a ≤ b) : (le nn b).take a = le nn a := by
  induction b with
  | zero => have : a = 0 := by omega
            subst this; rfl
  | succ b ih =>
    by_cases hab : a = b + 1
    · subst hab; rw [List.take_of_length_le (by rw [le_length]; omega)]
    · rw [le, List.take_append_of_le_length (by rw [le_length]; omega), ih (by omega)]

theorem wdCells (w : World) (k : Nat) (hk : k < 4) : (w.alloc (.cells #[.int .i64 1, .int .i64 2, .int .i64 4, .int .i64 8] 3)).cell? ⟨w.heap.size, k, none⟩ = some (.int .i64 (wd k)) := by
  rw [row_cell (heap_alloc_new w _)]
  have : k = 0 ∨ k = 1 ∨ k = 2 ∨ k = 3 := by omega
  rcases this with rfl | rfl | rfl | rfl <;> rfl

def LastIs (nn : Int) (k : Nat) (s : Value) : Prop := (s = .string ⟨#[]⟩ ∧ (1 ≤ k → fits nn (wd (k - 1)) false = false)) ∨ (1 ≤ k ∧ fits nn (wd (k - 1)) false = true ∧ s = .string ⟨(le nn (wd (k - 1))).toArray⟩)

set_option maxHeartbeats 1000000 in
theorem walk_WordWide (nn : Int) (w : World) (w0 : (Lit.int .u64 nn).wf = true) :
    Calls Try.prog 9 #[.int .u64 nn] w fun e w' => e = .returned (.bool true) ∧ Below w.heap.size w w' := by
  have hn := U64.of_wf w0
  clear w0
  go_enter Try.func9, Try.ntmps9
  go_wp2_with fail
  go_loopw [3, 10] (fun s i wr => ∃ k : Nat, k ≤ 4 ∧ i = .int .i64 k ∧ LastIs nn k s ∧ Below (w.heap.size + 1) (w.alloc (.cells #[.int .i64 1, .int .i64 2, .int .i64 4, .int .i64 8] 3)) wr) (fun _ i _ => 4 - (intOf i).toNat)
  case atStart => exact ⟨0, by omega, rfl, .inl ⟨rfl, by omega⟩, Below.refl _ _⟩
  case round =>
    obtain ⟨k, hk, rfl, hlast, hb⟩ := hrel
    have hsz : w.heap.size + 1 ≤ wr.heap.size := by have := hb.size; simpa using this
    by_cases hlt : k < 4
    · have hcell := (hb.cell (p := ⟨w.heap.size, k, none⟩) (by simp)).trans (wdCells w k hlt)
      have hk4 : (k : Int) < 4 := by omega
      have hxw := wd_w k
      have HM : ∀ (h1 : 1 ≤ k), fits nn (wd (k - 1)) false = true → fits nn (wd k) false = true ∧ wd (k - 1) ≤ wd k := by
        intro h1 h2
        have := fits_mono (nn := nn) (k := k - 1) (by omega) h2
        have h3 := wd_mono (k := k - 1) (by omega)
        rw [show k - 1 + 1 = k by omega] at this h3
        exact ⟨this, h3⟩
      have HM := hid HM
      rcases hlast with ⟨rfl, hno⟩ | ⟨hk1, hyes, rfl⟩
      · have HNO := hid hno; clear hno
        cases hf : fits nn (wd k) false with
        | true =>
          have HF := hid hf; clear hf
          go_wp2_with fail
          refine (put_any none 0 0 [] (wd k) nn _ (Rd.nil _ _) (by omega) hn).mono ?_
          rintro e w1 ⟨v, rfl, ho, hb1⟩
          rw [HF.out]
          go_wp2_with fail
          refine (fits_any nn (wd k) false _ hn).mono ?_
          rintro e w2 ⟨rfl, hb2⟩
          rw [HF.out]
          obtain ⟨A, cap, hv, hr⟩ := (ho.grown hb2).rd
          have hcv := hr.conv
          rw [← hv] at hcv
          clear hv hr ho
          go_wp2_with fail
          refine ⟨⟨k + 1, by omega, by go_num, ?_, hb.trans ((Bt hb1 hb2).mono hsz)⟩, by simp [intOf]; omega⟩
          refine .inr ⟨by omega, by simpa using HF.out, ?_⟩
          simp [putL, HF.out]
        | false =>
          have HF := hid hf; clear hf
          go_wp2_with fail
          refine (put_any none 0 0 [] (wd k) nn _ (Rd.nil _ _) (by omega) hn).mono ?_
          rintro e w1 ⟨v, rfl, ho, hb1⟩
          rw [HF.out]
          go_wp2_with fail
          refine (fits_any nn (wd k) false _ hn).mono ?_
          rintro e w2 ⟨rfl, hb2⟩
          rw [HF.out]
          clear ho
          go_wp2_with fail
          refine ⟨⟨k + 1, by omega, by go_num, ?_, hb.trans ((Bt hb1 hb2).mono hsz)⟩, by simp [intOf]; omega⟩
          exact .inl ⟨rfl, fun _ => by simpa using HF.out⟩
      · have h2 := HM.out hk1 hyes
        have HF := hid h2.1
        have hpq := h2.2
        have hne := le_ne nn (wd (k - 1)) (by have := wd_w (k - 1); omega)
        have hlen : (le nn (wd (k - 1))).length = wd (k - 1) := le_length _ _
        obtain ⟨X, hX⟩ : ∃ X, X = le nn (wd (k - 1)) := ⟨_, rfl⟩
        rw [← hX] at hne hlen ⊢
        have hXl : X.length ≤ wd k := by omega
        have HX := hid hX; have HXL := hid hlen
        clear hX hlen h2 hyes
        go_wp2_with fail
        refine (put_any none 0 0 [] (wd k) nn _ (Rd.nil _ _) (by omega) hn).mono ?_
        rintro e w1 ⟨v, rfl, ho, hb1⟩
        rw [HF.out]
        go_wp2_with fail
        refine (fits_any nn (wd k) false _ hn).mono ?_
        rintro e w2 ⟨rfl, hb2⟩
        rw [HF.out]
        have ho2 := ho.grown hb2
        have hput : putL [] nn (wd k) = le nn (wd k) := by simp [putL, HF.out]
        rw [hput] at ho2
        obtain ⟨g, cap, hv, hlc, hbase, hgl, hr⟩ := ho2.shape (by rw [le_length]; omega)
        rw [le_length] at hv hlc hr
        rw [hv]
        have hcv := hr.conv
        have hcv2 := (hr.take (m := X.length) hXl).conv
        have htk : (le nn (wd k)).take X.length = X := by
          rw [HXL.out, le_take _ _ _ hpq, ← HX.out]
        rw [htk] at hcv2
        have HPUT := hid hput
        clear hv hr ho ho2 htk hput
        go_wp2_with fail
        refine ⟨⟨k + 1, by omega, by go_num, ?_, hb.trans ((Bt hb1 hb2).mono hsz)⟩, by simp [intOf]; omega⟩
        exact .inr ⟨by omega, by simpa using HF.out, rfl⟩
    · obtain rfl : k = 4 := by omega
      have hf8 : fits nn (wd (4 - 1)) false = true := by
        have h2 := hn.2
        simp [fits, wd_isW]
        exact h2
      rcases hlast with ⟨rfl, hno⟩ | ⟨hk1, hyes, rfl⟩
      · have := hno (by omega); rw [hf8] at this; cases this
      · have hne := le_ne nn (wd (4 - 1)) (by decide)
        clear hyes hf8
        obtain ⟨X, hX⟩ : ∃ X, X = le nn (wd (4 - 1)) := ⟨_, rfl⟩
        rw [← hX] at hne ⊢
        clear hX
        go_wp2_with fail
        refine (alive_any _).mono ?_
        rintro e w1 ⟨rfl, hb1⟩
        go_wp2_with fail
        go_ret
        exact ⟨rfl, (B1 w _).trans (hb.trans (hb1.mono hsz) |>.mono (by omega))⟩
end Go.Proofs.Ytcnfilakbgoofaa
