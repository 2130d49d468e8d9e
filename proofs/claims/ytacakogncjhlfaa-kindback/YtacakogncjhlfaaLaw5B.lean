/-
  KindBack: the walk.
-/
import Derived.Test.YtacakogncjhlfaaLaw5M
namespace Go.Proofs.Ytacakogncjhlfaa
open Go.RowKit
set_option linter.unusedVariables false
set_option linter.unusedSimpArgs false

set_option maxHeartbeats 2000000 in
theorem bk_l1 (vk n : Int) (t nm : ByteArray) (k g : Int) (A : Option Addr) (m c : Nat) (l : List UInt8) (w : World) (hl : decide (1000 < (t.size : Int)) = true) :
    Calls Try.prog 6 #[.agg #[.int .i64 vk, .int .u64 n, .string t], .agg #[.string nm, .int .i64 k, .int .i64 g], .slice A m c] w fun e w' => e = .returned (.bool true) ∧ Below w.heap.size w w' := by
  go_enter Try.func6, Try.ntmps6
  go_wp2_with fail
  go_at_call 11
  refine (alive_any _).mono ?_
  rintro e w1 ⟨rfl, hb1⟩
  go_wp2_with fail
  go_ret
  exact ⟨rfl, Bt (Ba (B1 _ _) _) hb1⟩
set_option maxHeartbeats 2000000 in
theorem bk_l2 (vk n : Int) (t nm : ByteArray) (k g : Int) (A : Option Addr) (m c : Nat) (l : List UInt8) (w : World) (hl : decide (1000 < (t.size : Int)) = false) (hm : decide (1000 < (m : Int)) = true) :
    Calls Try.prog 6 #[.agg #[.int .i64 vk, .int .u64 n, .string t], .agg #[.string nm, .int .i64 k, .int .i64 g], .slice A m c] w fun e w' => e = .returned (.bool true) ∧ Below w.heap.size w w' := by
  go_enter Try.func6, Try.ntmps6
  go_wp2_with fail
  go_at_call 11
  refine (alive_any _).mono ?_
  rintro e w1 ⟨rfl, hb1⟩
  go_wp2_with fail
  go_ret
  exact ⟨rfl, Bt (Ba (B1 _ _) _) hb1⟩
set_option maxHeartbeats 2000000 in
theorem bk_11 (vk n : Int) (t nm : ByteArray) (k g : Int) (A : Option Addr) (m c : Nat) (l : List UInt8) (w : World) (hn : U64 n) (hl : decide (1000 < (t.size : Int)) = false) (hm : decide (1000 < (m : Int)) = false) (H : Hid (Rd w w.heap.size A m c l)) (Q : List UInt8) (HE : Hid ((encT vk n t k g).toList = Q ∧ encE vk n t k g = 0)) (HD : Hid (decR Q k g = .tuple #[.agg #[.int .i64 vk, .int .u64 n, .string t], .int .i64 0])) (HL : Hid (longF k g = (Q.length : Int))) (N : Int) (X : ByteArray) (HB : Hid (decR l k g = .tuple #[.agg #[.int .i64 k, .int .u64 N, .string X], .int .i64 0])) (HN : Hid (U64 N)) (HB2 : Hid ((encT k N X k g).toList = l ∧ encE k N X k g = 0)) :
    Calls Try.prog 6 #[.agg #[.int .i64 vk, .int .u64 n, .string t], .agg #[.string nm, .int .i64 k, .int .i64 g], .slice A m c] w fun e w' => e = .returned (.bool true) ∧ Below w.heap.size w w' := by
  go_enter Try.func6, Try.ntmps6
  go_wp2_with fail
  go_at_call 12
  refine (kencode_any _ _ _ _ _ _ _ hn).mono ?_
  rintro e w1 ⟨A1, m1, c1, rfl, hrd, hb1⟩
  rw [HE.out.1] at hrd
  rw [HE.out.2]
  have V0 := (vb_new w vk n t).alloc (.cells #[.string nm, .int .i64 k, .int .i64 g] 26)
  have F0 := fb_new2 w (.cells #[.int .i64 vk, .int .u64 n, .string t] 24) nm k g
  have hbw0 := Ba (B1 w (.cells #[.int .i64 vk, .int .u64 n, .string t] 24)) (.cells #[.string nm, .int .i64 k, .int .i64 g] 26)
  have R0 := H.out.on hbw0
  have V1 := V0.on hb1
  have F1 := F0.on hb1
  have R1 := R0.on hb1
  have hbw1 := Bt hbw0 hb1
  have hq := hrd.1
  obtain ⟨Vx, Vy, Vz⟩ := V1.cells
  have Vl := V1.lt
  obtain ⟨Fx, Fy, Fz⟩ := F1.cells
  have Fl := F1.lt
  go_wp2_with fail
  go_at_call 14
  refine (kdecode_any _ _ _ hrd).mono ?_
  rintro e w2 ⟨rfl, hb2⟩
  rw [HD.out]
  have V2 := V1.on hb2
  have F2 := F1.on hb2
  have R2 := R1.on hb2
  have Q2 := hrd.on hb2
  have hbw2 := Bt hbw1 hb2
  clear Vx Vy Vz Vl
  clear Fx Fy Fz Fl
  obtain ⟨a0, a1, a2⟩ := V2.cells
  obtain ⟨a3, a4, a5⟩ := F2.cells
  have la := V2.lt
  have lb := F2.lt
  have V3 := V2.alloc (.cells #[.int .i64 vk, .int .u64 n, .string t] 24)
  have F3 := F2.alloc (.cells #[.int .i64 vk, .int .u64 n, .string t] 24)
  have R3 := R2.on (B1 _ (.cells #[.int .i64 vk, .int .u64 n, .string t] 24))
  have Q3 := Q2.on (B1 _ (.cells #[.int .i64 vk, .int .u64 n, .string t] 24))
  have hbw3 := Ba hbw2 (.cells #[.int .i64 vk, .int .u64 n, .string t] 24)
  clear hb2
  go_wp2_with fail
  clear a0 a1 a2 a3 a4 a5 la lb
  go_at_call 18
  refine (klong_any _ _ _ _).mono ?_
  rintro e w3 ⟨rfl, hb3⟩
  rw [HL.out, hq]
  have V4 := V3.on hb3
  have F4 := F3.on hb3
  have R4 := R3.on hb3
  have Q4 := Q3.on hb3
  have hbw4 := Bt hbw3 hb3
  obtain ⟨Fx, Fy, Fz⟩ := F4.cells
  have Fl := F4.lt
  go_wp2_with fail
  go_at_call 14
  refine (kdecode_any _ _ _ R4).mono ?_
  rintro e w4 ⟨rfl, hb4⟩
  rw [HB.out]
  have V5 := V4.on hb4
  have F5 := F4.on hb4
  have R5 := R4.on hb4
  have Q5 := Q4.on hb4
  have hbw5 := Bt hbw4 hb4
  clear Fx Fy Fz Fl
  obtain ⟨a3, a4, a5⟩ := F5.cells
  have lb := F5.lt
  have V6 := V5.alloc (.cells #[.int .i64 k, .int .u64 N, .string X] 24)
  have F6 := F5.alloc (.cells #[.int .i64 k, .int .u64 N, .string X] 24)
  have R6 := R5.on (B1 _ (.cells #[.int .i64 k, .int .u64 N, .string X] 24))
  have Q6 := Q5.on (B1 _ (.cells #[.int .i64 k, .int .u64 N, .string X] 24))
  have hbw6 := Ba hbw5 (.cells #[.int .i64 k, .int .u64 N, .string X] 24)
  clear hb4
  go_wp2_with fail
  clear a3 a4 a5 lb
  go_at_call 12
  refine (kencode_any _ _ _ _ _ _ _ HN.out).mono ?_
  rintro e w5 ⟨A5, m5, c5, rfl, hrd5, hb5⟩
  rw [HB2.out.1] at hrd5
  rw [HB2.out.2]
  have V7 := V6.on hb5
  have F7 := F6.on hb5
  have R7 := R6.on hb5
  have Q7 := Q6.on hb5
  have hbw7 := Bt hbw6 hb5
  go_wp2_with fail
  go_at_call 11
  refine (alive_any _).mono ?_
  rintro e w6 ⟨rfl, hb6⟩
  have V8 := V7.on hb6
  have F8 := F7.on hb6
  have R8 := R7.on hb6
  have Q8 := Q7.on hb6
  have S8 := hrd5.on hb6
  have hbw8 := Bt hbw7 hb6
  have cv1 := S8.conv
  have cv2 := R8.conv
  go_wp2_with fail
  go_ret
  exact ⟨rfl, hbw8⟩
set_option maxHeartbeats 2000000 in
theorem bk_10 (vk n : Int) (t nm : ByteArray) (k g : Int) (A : Option Addr) (m c : Nat) (l : List UInt8) (w : World) (hn : U64 n) (hl : decide (1000 < (t.size : Int)) = false) (hm : decide (1000 < (m : Int)) = false) (H : Hid (Rd w w.heap.size A m c l)) (Q : List UInt8) (HE : Hid ((encT vk n t k g).toList = Q ∧ encE vk n t k g = 0)) (HD : Hid (decR Q k g = .tuple #[.agg #[.int .i64 vk, .int .u64 n, .string t], .int .i64 0])) (HL : Hid (longF k g = (Q.length : Int))) (HB : Hid (decR l k g = .tuple #[.agg #[.int .i64 0, .int .u64 0, .string ⟨#[]⟩], .int .i64 50])) :
    Calls Try.prog 6 #[.agg #[.int .i64 vk, .int .u64 n, .string t], .agg #[.string nm, .int .i64 k, .int .i64 g], .slice A m c] w fun e w' => e = .returned (.bool true) ∧ Below w.heap.size w w' := by
  go_enter Try.func6, Try.ntmps6
  go_wp2_with fail
  go_at_call 12
  refine (kencode_any _ _ _ _ _ _ _ hn).mono ?_
  rintro e w1 ⟨A1, m1, c1, rfl, hrd, hb1⟩
  rw [HE.out.1] at hrd
  rw [HE.out.2]
  have V0 := (vb_new w vk n t).alloc (.cells #[.string nm, .int .i64 k, .int .i64 g] 26)
  have F0 := fb_new2 w (.cells #[.int .i64 vk, .int .u64 n, .string t] 24) nm k g
  have hbw0 := Ba (B1 w (.cells #[.int .i64 vk, .int .u64 n, .string t] 24)) (.cells #[.string nm, .int .i64 k, .int .i64 g] 26)
  have R0 := H.out.on hbw0
  have V1 := V0.on hb1
  have F1 := F0.on hb1
  have R1 := R0.on hb1
  have hbw1 := Bt hbw0 hb1
  have hq := hrd.1
  obtain ⟨Vx, Vy, Vz⟩ := V1.cells
  have Vl := V1.lt
  obtain ⟨Fx, Fy, Fz⟩ := F1.cells
  have Fl := F1.lt
  go_wp2_with fail
  go_at_call 14
  refine (kdecode_any _ _ _ hrd).mono ?_
  rintro e w2 ⟨rfl, hb2⟩
  rw [HD.out]
  have V2 := V1.on hb2
  have F2 := F1.on hb2
  have R2 := R1.on hb2
  have Q2 := hrd.on hb2
  have hbw2 := Bt hbw1 hb2
  clear Vx Vy Vz Vl
  clear Fx Fy Fz Fl
  obtain ⟨a0, a1, a2⟩ := V2.cells
  obtain ⟨a3, a4, a5⟩ := F2.cells
  have la := V2.lt
  have lb := F2.lt
  have V3 := V2.alloc (.cells #[.int .i64 vk, .int .u64 n, .string t] 24)
  have F3 := F2.alloc (.cells #[.int .i64 vk, .int .u64 n, .string t] 24)
  have R3 := R2.on (B1 _ (.cells #[.int .i64 vk, .int .u64 n, .string t] 24))
  have Q3 := Q2.on (B1 _ (.cells #[.int .i64 vk, .int .u64 n, .string t] 24))
  have hbw3 := Ba hbw2 (.cells #[.int .i64 vk, .int .u64 n, .string t] 24)
  clear hb2
  go_wp2_with fail
  clear a0 a1 a2 a3 a4 a5 la lb
  go_at_call 18
  refine (klong_any _ _ _ _).mono ?_
  rintro e w3 ⟨rfl, hb3⟩
  rw [HL.out, hq]
  have V4 := V3.on hb3
  have F4 := F3.on hb3
  have R4 := R3.on hb3
  have Q4 := Q3.on hb3
  have hbw4 := Bt hbw3 hb3
  obtain ⟨Fx, Fy, Fz⟩ := F4.cells
  have Fl := F4.lt
  go_wp2_with fail
  go_at_call 14
  refine (kdecode_any _ _ _ R4).mono ?_
  rintro e w4 ⟨rfl, hb4⟩
  rw [HB.out]
  have V5 := V4.on hb4
  have F5 := F4.on hb4
  have R5 := R4.on hb4
  have Q5 := Q4.on hb4
  have hbw5 := Bt hbw4 hb4
  clear Fx Fy Fz Fl
  have V6 := V5.alloc (.cells #[.int .i64 0, .int .u64 0, .string ⟨#[]⟩] 24)
  have F6 := F5.alloc (.cells #[.int .i64 0, .int .u64 0, .string ⟨#[]⟩] 24)
  have R6 := R5.on (B1 _ (.cells #[.int .i64 0, .int .u64 0, .string ⟨#[]⟩] 24))
  have Q6 := Q5.on (B1 _ (.cells #[.int .i64 0, .int .u64 0, .string ⟨#[]⟩] 24))
  have hbw6 := Ba hbw5 (.cells #[.int .i64 0, .int .u64 0, .string ⟨#[]⟩] 24)
  have Z0 := vb_new w4 0 0 ⟨#[]⟩
  clear hb4
  go_wp2_with fail
  go_at_call 11
  refine (alive_any _).mono ?_
  rintro e w5 ⟨rfl, hb5⟩
  have V7 := V6.on hb5
  have F7 := F6.on hb5
  have R7 := R6.on hb5
  have Q7 := Q6.on hb5
  have Z7 := Z0.on hb5
  have hbw7 := Bt hbw6 hb5
  obtain ⟨Zx, Zy, Zz⟩ := Z7.cells
  have Zl := Z7.lt
  go_wp2_with fail
  go_ret
  exact ⟨rfl, hbw7⟩
set_option maxHeartbeats 2000000 in
theorem bk_01 (vk n : Int) (t nm : ByteArray) (k g : Int) (A : Option Addr) (m c : Nat) (l : List UInt8) (w : World) (hn : U64 n) (hl : decide (1000 < (t.size : Int)) = false) (hm : decide (1000 < (m : Int)) = false) (H : Hid (Rd w w.heap.size A m c l)) (HE : Hid (encE vk n t k g = 50)) (N : Int) (X : ByteArray) (HB : Hid (decR l k g = .tuple #[.agg #[.int .i64 k, .int .u64 N, .string X], .int .i64 0])) (HN : Hid (U64 N)) (HB2 : Hid ((encT k N X k g).toList = l ∧ encE k N X k g = 0)) :
    Calls Try.prog 6 #[.agg #[.int .i64 vk, .int .u64 n, .string t], .agg #[.string nm, .int .i64 k, .int .i64 g], .slice A m c] w fun e w' => e = .returned (.bool true) ∧ Below w.heap.size w w' := by
  go_enter Try.func6, Try.ntmps6
  go_wp2_with fail
  go_at_call 12
  refine (kencode_any _ _ _ _ _ _ _ hn).mono ?_
  rintro e w1 ⟨A1, m1, c1, rfl, hrd, hb1⟩
  rw [HE.out]
  have V0 := (vb_new w vk n t).alloc (.cells #[.string nm, .int .i64 k, .int .i64 g] 26)
  have F0 := fb_new2 w (.cells #[.int .i64 vk, .int .u64 n, .string t] 24) nm k g
  have hbw0 := Ba (B1 w (.cells #[.int .i64 vk, .int .u64 n, .string t] 24)) (.cells #[.string nm, .int .i64 k, .int .i64 g] 26)
  have R0 := H.out.on hbw0
  have V1 := V0.on hb1
  have F1 := F0.on hb1
  have R1 := R0.on hb1
  have hbw1 := Bt hbw0 hb1
  obtain ⟨Fx, Fy, Fz⟩ := F1.cells
  have Fl := F1.lt
  go_wp2_with fail
  go_at_call 14
  refine (kdecode_any _ _ _ R1).mono ?_
  rintro e w4 ⟨rfl, hb4⟩
  rw [HB.out]
  have V2 := V1.on hb4
  have F2 := F1.on hb4
  have R2 := R1.on hb4
  have hbw2 := Bt hbw1 hb4
  clear Fx Fy Fz Fl
  obtain ⟨a3, a4, a5⟩ := F2.cells
  have lb := F2.lt
  have V3 := V2.alloc (.cells #[.int .i64 k, .int .u64 N, .string X] 24)
  have F3 := F2.alloc (.cells #[.int .i64 k, .int .u64 N, .string X] 24)
  have R3 := R2.on (B1 _ (.cells #[.int .i64 k, .int .u64 N, .string X] 24))
  have hbw3 := Ba hbw2 (.cells #[.int .i64 k, .int .u64 N, .string X] 24)
  clear hb4
  go_wp2_with fail
  clear a3 a4 a5 lb
  go_at_call 12
  refine (kencode_any _ _ _ _ _ _ _ HN.out).mono ?_
  rintro e w5 ⟨A5, m5, c5, rfl, hrd5, hb5⟩
  rw [HB2.out.1] at hrd5
  rw [HB2.out.2]
  have V4 := V3.on hb5
  have F4 := F3.on hb5
  have R4 := R3.on hb5
  have hbw4 := Bt hbw3 hb5
  go_wp2_with fail
  go_at_call 11
  refine (alive_any _).mono ?_
  rintro e w6 ⟨rfl, hb6⟩
  have V5 := V4.on hb6
  have F5 := F4.on hb6
  have R5 := R4.on hb6
  have S5 := hrd5.on hb6
  have hbw5 := Bt hbw4 hb6
  have cv1 := S5.conv
  have cv2 := R5.conv
  go_wp2_with fail
  go_ret
  exact ⟨rfl, hbw5⟩
set_option maxHeartbeats 2000000 in
theorem bk_00 (vk n : Int) (t nm : ByteArray) (k g : Int) (A : Option Addr) (m c : Nat) (l : List UInt8) (w : World) (hn : U64 n) (hl : decide (1000 < (t.size : Int)) = false) (hm : decide (1000 < (m : Int)) = false) (H : Hid (Rd w w.heap.size A m c l)) (HE : Hid (encE vk n t k g = 50)) (HB : Hid (decR l k g = .tuple #[.agg #[.int .i64 0, .int .u64 0, .string ⟨#[]⟩], .int .i64 50])) :
    Calls Try.prog 6 #[.agg #[.int .i64 vk, .int .u64 n, .string t], .agg #[.string nm, .int .i64 k, .int .i64 g], .slice A m c] w fun e w' => e = .returned (.bool true) ∧ Below w.heap.size w w' := by
  go_enter Try.func6, Try.ntmps6
  go_wp2_with fail
  go_at_call 12
  refine (kencode_any _ _ _ _ _ _ _ hn).mono ?_
  rintro e w1 ⟨A1, m1, c1, rfl, hrd, hb1⟩
  rw [HE.out]
  have V0 := (vb_new w vk n t).alloc (.cells #[.string nm, .int .i64 k, .int .i64 g] 26)
  have F0 := fb_new2 w (.cells #[.int .i64 vk, .int .u64 n, .string t] 24) nm k g
  have hbw0 := Ba (B1 w (.cells #[.int .i64 vk, .int .u64 n, .string t] 24)) (.cells #[.string nm, .int .i64 k, .int .i64 g] 26)
  have R0 := H.out.on hbw0
  have V1 := V0.on hb1
  have F1 := F0.on hb1
  have R1 := R0.on hb1
  have hbw1 := Bt hbw0 hb1
  obtain ⟨Fx, Fy, Fz⟩ := F1.cells
  have Fl := F1.lt
  go_wp2_with fail
  go_at_call 14
  refine (kdecode_any _ _ _ R1).mono ?_
  rintro e w4 ⟨rfl, hb4⟩
  rw [HB.out]
  have V2 := V1.on hb4
  have F2 := F1.on hb4
  have R2 := R1.on hb4
  have hbw2 := Bt hbw1 hb4
  clear Fx Fy Fz Fl
  have V3 := V2.alloc (.cells #[.int .i64 0, .int .u64 0, .string ⟨#[]⟩] 24)
  have F3 := F2.alloc (.cells #[.int .i64 0, .int .u64 0, .string ⟨#[]⟩] 24)
  have R3 := R2.on (B1 _ (.cells #[.int .i64 0, .int .u64 0, .string ⟨#[]⟩] 24))
  have hbw3 := Ba hbw2 (.cells #[.int .i64 0, .int .u64 0, .string ⟨#[]⟩] 24)
  have Z0 := vb_new w4 0 0 ⟨#[]⟩
  clear hb4
  go_wp2_with fail
  go_at_call 11
  refine (alive_any _).mono ?_
  rintro e w5 ⟨rfl, hb5⟩
  have V4 := V3.on hb5
  have F4 := F3.on hb5
  have R4 := R3.on hb5
  have Z4 := Z0.on hb5
  have hbw4 := Bt hbw3 hb5
  obtain ⟨Zx, Zy, Zz⟩ := Z4.cells
  have Zl := Z4.lt
  go_wp2_with fail
  go_ret
  exact ⟨rfl, hbw4⟩
theorem walk_KindBack (vk n : Int) (t nm : ByteArray) (k g : Int) (A : Option Addr) (m c : Nat) (l : List UInt8) (w : World) (hvk : (Lit.int .i64 vk).wf = true) (hnw : (Lit.int .u64 n).wf = true) (htm : t.size ≤ maxLen) (hnm : nm.size ≤ maxLen) (hkw : (Lit.int .i64 k).wf = true) (hgw : (Lit.int .i64 g).wf = true) (h : Rd w w.heap.size A m c l) :
    Calls Try.prog 6 #[.agg #[.int .i64 vk, .int .u64 n, .string t], .agg #[.string nm, .int .i64 k, .int .i64 g], .slice A m c] w fun e w' => e = .returned (.bool true) ∧ Below w.heap.size w w' := by
  have hn := U64.of_wf hnw
  cases hl : decide (1000 < (t.size : Int)) with
  | true => exact bk_l1 vk n t nm k g A m c l w hl
  | false =>
    cases hm : decide (1000 < (m : Int)) with
    | true => exact bk_l2 vk n t nm k g A m c l w hl hm
    | false =>
      cases hr : rightF vk n t.size k g with
      | true =>
        obtain ⟨h1, h2⟩ := dec_enc hn hr
        have he : encE vk n t k g = 0 := by simp [encE, hr]
        cases hd : decB l k g with
        | true =>
          have hd2 := hd
          unfold decB at hd2
          simp only [Bool.and_eq_true, decide_eq_true_eq] at hd2
          exact bk_11 vk n t nm k g A m c l w hn hl hm h _ ⟨rfl, he⟩ h1 h2.symm _ _ (decR_ok hd) (decN_U64 k l) ⟨hd2.2, by simp [encE, hd2.1]⟩
        | false => exact bk_10 vk n t nm k g A m c l w hn hl hm h _ ⟨rfl, he⟩ h1 h2.symm (decR_no hd)
      | false =>
        have he : encE vk n t k g = 50 := by simp [encE, hr]
        cases hd : decB l k g with
        | true =>
          have hd2 := hd
          unfold decB at hd2
          simp only [Bool.and_eq_true, decide_eq_true_eq] at hd2
          exact bk_01 vk n t nm k g A m c l w hn hl hm h he _ _ (decR_ok hd) (decN_U64 k l) ⟨hd2.2, by simp [encE, hd2.1]⟩
        | false => exact bk_00 vk n t nm k g A m c l w hn hl hm h he (decR_no hd)
end Go.Proofs.Ytacakogncjhlfaa
