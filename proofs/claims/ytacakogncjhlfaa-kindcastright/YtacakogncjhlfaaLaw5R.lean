/-
  KindCastRight: the walk.
-/
import Derived.Test.YtacakogncjhlfaaLaw5M
namespace Go.Proofs.Ytacakogncjhlfaa
open Go.RowKit
set_option linter.unusedVariables false
set_option linter.unusedSimpArgs false

set_option maxHeartbeats 2000000 in
theorem cr_long (vk n : Int) (t nm : ByteArray) (k g : Int) (nm' : ByteArray) (k' g' : Int) (w : World) (hl : decide (1000 < (t.size : Int)) = true) :
    Calls Try.prog 9 #[.agg #[.int .i64 vk, .int .u64 n, .string t], .agg #[.string nm, .int .i64 k, .int .i64 g], .agg #[.string nm', .int .i64 k', .int .i64 g']] w fun e w' => e = .returned (.bool true) ∧ Below w.heap.size w w' := by
  go_enter Try.func9, Try.ntmps9
  go_wp2_with fail
  go_at_call 11
  refine (alive_any _).mono ?_
  rintro e w1 ⟨rfl, hb1⟩
  go_wp2_with fail
  go_ret
  exact ⟨rfl, Bt (Ba (Ba (B1 _ _) _) _) hb1⟩
set_option maxHeartbeats 2000000 in
theorem cr_50 (vk n : Int) (t nm : ByteArray) (k g : Int) (nm' : ByteArray) (k' g' : Int) (w : World) (hn : U64 n) (hl : decide (1000 < (t.size : Int)) = false) (HC : Hid (castR vk n t k g k' g' = .tuple #[.agg #[.int .i64 0, .int .u64 0, .string ⟨#[]⟩], .int .i64 50])) (HR : Hid (rightF vk n t.size k g = false)) :
    Calls Try.prog 9 #[.agg #[.int .i64 vk, .int .u64 n, .string t], .agg #[.string nm, .int .i64 k, .int .i64 g], .agg #[.string nm', .int .i64 k', .int .i64 g']] w fun e w' => e = .returned (.bool true) ∧ Below w.heap.size w w' := by
  go_enter Try.func9, Try.ntmps9
  go_wp2_with fail
  go_at_call 22
  refine (kcast_any _ _ _ _ _ _ _ _ _ _ hn).mono ?_
  rintro e w1 ⟨rfl, hb1⟩
  rw [HC.out]
  have V0 := ((vb_new w vk n t).alloc (.cells #[.string nm, .int .i64 k, .int .i64 g] 26)).alloc (.cells #[.string nm', .int .i64 k', .int .i64 g'] 26)
  have F0 := (fb_new2 w (.cells #[.int .i64 vk, .int .u64 n, .string t] 24) nm k g).alloc (.cells #[.string nm', .int .i64 k', .int .i64 g'] 26)
  have T0 := fb_new3 w (.cells #[.int .i64 vk, .int .u64 n, .string t] 24) (.cells #[.string nm, .int .i64 k, .int .i64 g] 26) nm' k' g'
  have hbw0 := Ba (Ba (B1 w (.cells #[.int .i64 vk, .int .u64 n, .string t] 24)) (.cells #[.string nm, .int .i64 k, .int .i64 g] 26)) (.cells #[.string nm', .int .i64 k', .int .i64 g'] 26)
  have V1 := V0.on hb1
  have F1 := F0.on hb1
  have T1 := T0.on hb1
  have hbw1 := Bt hbw0 hb1
  have V2 := V1.alloc (.cells #[.int .i64 0, .int .u64 0, .string ⟨#[]⟩] 24)
  have F2 := F1.alloc (.cells #[.int .i64 0, .int .u64 0, .string ⟨#[]⟩] 24)
  have T2 := T1.alloc (.cells #[.int .i64 0, .int .u64 0, .string ⟨#[]⟩] 24)
  have hbw2 := Ba hbw1 (.cells #[.int .i64 0, .int .u64 0, .string ⟨#[]⟩] 24)
  have X0 := vb_new w1 0 0 ⟨#[]⟩
  clear hb1
  obtain ⟨a0, a1, a2⟩ := V1.cells
  obtain ⟨a3, a4, a5⟩ := F1.cells
  have la := V1.lt
  have lb := F1.lt
  go_wp2_with fail
  clear a0 a1 a2 a3 a4 a5
  go_at_call 16
  refine (kright_any _ _ _ _ _ _ _ hn).mono ?_
  rintro e w2 ⟨rfl, hb2⟩
  rw [HR.out]
  have V3 := V2.on hb2
  have F3 := F2.on hb2
  have T3 := T2.on hb2
  have X3 := X0.on hb2
  have hbw3 := Bt hbw2 hb2
  go_wp2_with fail
  go_at_call 11
  refine (alive_any _).mono ?_
  rintro e w3 ⟨rfl, hb3⟩
  have V4 := V3.on hb3
  have F4 := F3.on hb3
  have T4 := T3.on hb3
  have X4 := X3.on hb3
  have hbw4 := Bt hbw3 hb3
  obtain ⟨Xx, Xy, Xz⟩ := X4.cells
  have Xl := X4.lt
  go_wp2_with fail
  go_ret
  exact ⟨rfl, hbw4⟩
set_option maxHeartbeats 2000000 in
theorem cr_51 (vk n : Int) (t nm : ByteArray) (k g : Int) (nm' : ByteArray) (k' g' : Int) (w : World) (hn : U64 n) (hl : decide (1000 < (t.size : Int)) = false) (HC : Hid (castR vk n t k g k' g' = .tuple #[.agg #[.int .i64 0, .int .u64 0, .string ⟨#[]⟩], .int .i64 51])) (HR : Hid (rightF vk n t.size k g = true)) (HK : Hid (castsF k g k' g' = false)) :
    Calls Try.prog 9 #[.agg #[.int .i64 vk, .int .u64 n, .string t], .agg #[.string nm, .int .i64 k, .int .i64 g], .agg #[.string nm', .int .i64 k', .int .i64 g']] w fun e w' => e = .returned (.bool true) ∧ Below w.heap.size w w' := by
  go_enter Try.func9, Try.ntmps9
  go_wp2_with fail
  go_at_call 22
  refine (kcast_any _ _ _ _ _ _ _ _ _ _ hn).mono ?_
  rintro e w1 ⟨rfl, hb1⟩
  rw [HC.out]
  have V0 := ((vb_new w vk n t).alloc (.cells #[.string nm, .int .i64 k, .int .i64 g] 26)).alloc (.cells #[.string nm', .int .i64 k', .int .i64 g'] 26)
  have F0 := (fb_new2 w (.cells #[.int .i64 vk, .int .u64 n, .string t] 24) nm k g).alloc (.cells #[.string nm', .int .i64 k', .int .i64 g'] 26)
  have T0 := fb_new3 w (.cells #[.int .i64 vk, .int .u64 n, .string t] 24) (.cells #[.string nm, .int .i64 k, .int .i64 g] 26) nm' k' g'
  have hbw0 := Ba (Ba (B1 w (.cells #[.int .i64 vk, .int .u64 n, .string t] 24)) (.cells #[.string nm, .int .i64 k, .int .i64 g] 26)) (.cells #[.string nm', .int .i64 k', .int .i64 g'] 26)
  have V1 := V0.on hb1
  have F1 := F0.on hb1
  have T1 := T0.on hb1
  have hbw1 := Bt hbw0 hb1
  have V2 := V1.alloc (.cells #[.int .i64 0, .int .u64 0, .string ⟨#[]⟩] 24)
  have F2 := F1.alloc (.cells #[.int .i64 0, .int .u64 0, .string ⟨#[]⟩] 24)
  have T2 := T1.alloc (.cells #[.int .i64 0, .int .u64 0, .string ⟨#[]⟩] 24)
  have hbw2 := Ba hbw1 (.cells #[.int .i64 0, .int .u64 0, .string ⟨#[]⟩] 24)
  have X0 := vb_new w1 0 0 ⟨#[]⟩
  clear hb1
  obtain ⟨a0, a1, a2⟩ := V1.cells
  obtain ⟨a3, a4, a5⟩ := F1.cells
  have la := V1.lt
  have lb := F1.lt
  go_wp2_with fail
  clear a0 a1 a2 a3 a4 a5
  go_at_call 16
  refine (kright_any _ _ _ _ _ _ _ hn).mono ?_
  rintro e w2 ⟨rfl, hb2⟩
  rw [HR.out]
  have V3 := V2.on hb2
  have F3 := F2.on hb2
  have T3 := T2.on hb2
  have X3 := X0.on hb2
  have hbw3 := Bt hbw2 hb2
  obtain ⟨Fx, Fy, Fz⟩ := F3.cells
  have Fl := F3.lt
  obtain ⟨Tx, Ty, Tz⟩ := T3.cells
  have Tl := T3.lt
  go_wp2_with fail
  go_at_call 24
  refine (kcasts_any _ _ _ _ _ _ _).mono ?_
  rintro e w3 ⟨rfl, hb3⟩
  rw [HK.out]
  have V4 := V3.on hb3
  have F4 := F3.on hb3
  have T4 := T3.on hb3
  have X4 := X3.on hb3
  have hbw4 := Bt hbw3 hb3
  clear Tx Ty Tz Tl
  clear Fx Fy Fz Fl
  go_wp2_with fail
  go_at_call 11
  refine (alive_any _).mono ?_
  rintro e w4 ⟨rfl, hb4⟩
  have V5 := V4.on hb4
  have F5 := F4.on hb4
  have T5 := T4.on hb4
  have X5 := X4.on hb4
  have hbw5 := Bt hbw4 hb4
  obtain ⟨Xx, Xy, Xz⟩ := X5.cells
  have Xl := X5.lt
  go_wp2_with fail
  go_ret
  exact ⟨rfl, hbw5⟩
set_option maxHeartbeats 2000000 in
theorem cr_ok (vk n : Int) (t nm : ByteArray) (k g : Int) (nm' : ByteArray) (k' g' : Int) (w : World) (hn : U64 n) (hl : decide (1000 < (t.size : Int)) = false) (N : Int) (X : ByteArray) (HC : Hid (castR vk n t k g k' g' = .tuple #[.agg #[.int .i64 k', .int .u64 N, .string X], .int .i64 0])) (HR : Hid (rightF vk n t.size k g = true)) (HK : Hid (castsF k g k' g' = true)) (HN : Hid (U64 N)) (HX : Hid (rightF k' N X.size k' g' = true)) (hx : ((X.size : Int) == g') = true) :
    Calls Try.prog 9 #[.agg #[.int .i64 vk, .int .u64 n, .string t], .agg #[.string nm, .int .i64 k, .int .i64 g], .agg #[.string nm', .int .i64 k', .int .i64 g']] w fun e w' => e = .returned (.bool true) ∧ Below w.heap.size w w' := by
  go_enter Try.func9, Try.ntmps9
  go_wp2_with fail
  go_at_call 22
  refine (kcast_any _ _ _ _ _ _ _ _ _ _ hn).mono ?_
  rintro e w1 ⟨rfl, hb1⟩
  rw [HC.out]
  have V0 := ((vb_new w vk n t).alloc (.cells #[.string nm, .int .i64 k, .int .i64 g] 26)).alloc (.cells #[.string nm', .int .i64 k', .int .i64 g'] 26)
  have F0 := (fb_new2 w (.cells #[.int .i64 vk, .int .u64 n, .string t] 24) nm k g).alloc (.cells #[.string nm', .int .i64 k', .int .i64 g'] 26)
  have T0 := fb_new3 w (.cells #[.int .i64 vk, .int .u64 n, .string t] 24) (.cells #[.string nm, .int .i64 k, .int .i64 g] 26) nm' k' g'
  have hbw0 := Ba (Ba (B1 w (.cells #[.int .i64 vk, .int .u64 n, .string t] 24)) (.cells #[.string nm, .int .i64 k, .int .i64 g] 26)) (.cells #[.string nm', .int .i64 k', .int .i64 g'] 26)
  have V1 := V0.on hb1
  have F1 := F0.on hb1
  have T1 := T0.on hb1
  have hbw1 := Bt hbw0 hb1
  have V2 := V1.alloc (.cells #[.int .i64 k', .int .u64 N, .string X] 24)
  have F2 := F1.alloc (.cells #[.int .i64 k', .int .u64 N, .string X] 24)
  have T2 := T1.alloc (.cells #[.int .i64 k', .int .u64 N, .string X] 24)
  have hbw2 := Ba hbw1 (.cells #[.int .i64 k', .int .u64 N, .string X] 24)
  have X0 := vb_new w1 k' N X
  clear hb1
  obtain ⟨a0, a1, a2⟩ := V1.cells
  obtain ⟨a3, a4, a5⟩ := F1.cells
  have la := V1.lt
  have lb := F1.lt
  go_wp2_with fail
  clear a0 a1 a2 a3 a4 a5
  go_at_call 16
  refine (kright_any _ _ _ _ _ _ _ hn).mono ?_
  rintro e w2 ⟨rfl, hb2⟩
  rw [HR.out]
  have V3 := V2.on hb2
  have F3 := F2.on hb2
  have T3 := T2.on hb2
  have X3 := X0.on hb2
  have hbw3 := Bt hbw2 hb2
  obtain ⟨Fx, Fy, Fz⟩ := F3.cells
  have Fl := F3.lt
  obtain ⟨Tx, Ty, Tz⟩ := T3.cells
  have Tl := T3.lt
  go_wp2_with fail
  go_at_call 24
  refine (kcasts_any _ _ _ _ _ _ _).mono ?_
  rintro e w3 ⟨rfl, hb3⟩
  rw [HK.out]
  have V4 := V3.on hb3
  have F4 := F3.on hb3
  have T4 := T3.on hb3
  have X4 := X3.on hb3
  have hbw4 := Bt hbw3 hb3
  clear Tx Ty Tz Tl
  clear Fx Fy Fz Fl
  go_wp2_with fail
  go_at_call 11
  refine (alive_any _).mono ?_
  rintro e w4 ⟨rfl, hb4⟩
  have V5 := V4.on hb4
  have F5 := F4.on hb4
  have T5 := T4.on hb4
  have X5 := X4.on hb4
  have hbw5 := Bt hbw4 hb4
  obtain ⟨Xx, Xy, Xz⟩ := X5.cells
  have Xl := X5.lt
  obtain ⟨Tx, Ty, Tz⟩ := T5.cells
  have Tl := T5.lt
  go_wp2_with fail
  go_at_call 16
  refine (kright_any _ _ _ _ _ _ _ HN.out).mono ?_
  rintro e w5 ⟨rfl, hb5⟩
  rw [HX.out]
  have V6 := V5.on hb5
  have F6 := F5.on hb5
  have T6 := T5.on hb5
  have X6 := X5.on hb5
  have hbw6 := Bt hbw5 hb5
  clear Xx Xy Xz Xl
  clear Tx Ty Tz Tl
  obtain ⟨Xx, Xy, Xz⟩ := X6.cells
  have Xl := X6.lt
  obtain ⟨Tx, Ty, Tz⟩ := T6.cells
  have Tl := T6.lt
  go_wp2_with fail
  go_ret
  exact ⟨rfl, hbw6⟩
theorem walk_KindCastRight (vk n : Int) (t nm : ByteArray) (k g : Int) (nm' : ByteArray) (k' g' : Int) (w : World) (hvk : (Lit.int .i64 vk).wf = true) (hnw : (Lit.int .u64 n).wf = true) (htm : t.size ≤ maxLen) (hnm : nm.size ≤ maxLen) (hkw : (Lit.int .i64 k).wf = true) (hgw : (Lit.int .i64 g).wf = true) (hnm' : nm'.size ≤ maxLen) (hkw' : (Lit.int .i64 k').wf = true) (hgw' : (Lit.int .i64 g').wf = true) :
    Calls Try.prog 9 #[.agg #[.int .i64 vk, .int .u64 n, .string t], .agg #[.string nm, .int .i64 k, .int .i64 g], .agg #[.string nm', .int .i64 k', .int .i64 g']] w fun e w' => e = .returned (.bool true) ∧ Below w.heap.size w w' := by
  have hn := U64.of_wf hnw
  cases hl : decide (1000 < (t.size : Int)) with
  | true => exact cr_long vk n t nm k g nm' k' g' w hl
  | false =>
    cases hr : rightF vk n t.size k g with
    | false => exact cr_50 vk n t nm k g nm' k' g' w hn hl (castR_50 hr) hr
    | true =>
      cases hc : castsF k g k' g' with
      | false => exact cr_51 vk n t nm k g nm' k' g' w hn hl (castR_51 hr hc) hr hc
      | true =>
        obtain ⟨h1, h2⟩ := cast_right hn hr hc
        exact cr_ok vk n t nm k g nm' k' g' w hn hl _ _ (castR_ok hr hc) hr hc (castN_U64 hn) h1 (by simpa using h2)
end Go.Proofs.Ytacakogncjhlfaa
