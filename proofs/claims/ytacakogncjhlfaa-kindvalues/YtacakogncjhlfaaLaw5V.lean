/-
  KindValues: the walk.
-/
import Derived.Test.YtacakogncjhlfaaLaw5M
namespace Go.Proofs.Ytacakogncjhlfaa
open Go.RowKit
set_option linter.unusedVariables false
set_option linter.unusedSimpArgs false

set_option maxHeartbeats 2000000 in
theorem vs_l1 (vk n : Int) (t nm : ByteArray) (k g : Int) (A : Option Addr) (m c : Nat) (l : List UInt8) (w : World) (hl : decide (1000 < (t.size : Int)) = true) :
    Calls Try.prog 3 #[.agg #[.int .i64 vk, .int .u64 n, .string t], .agg #[.string nm, .int .i64 k, .int .i64 g], .slice A m c] w fun e w' => e = .returned (.bool true) ∧ Below w.heap.size w w' := by
  go_enter Try.func3, Try.ntmps3
  go_wp2_with fail
  go_at_call 11
  refine (alive_any _).mono ?_
  rintro e w1 ⟨rfl, hb1⟩
  go_wp2_with fail
  go_ret
  exact ⟨rfl, Bt (Ba (B1 _ _) _) hb1⟩
set_option maxHeartbeats 2000000 in
theorem vs_l2 (vk n : Int) (t nm : ByteArray) (k g : Int) (A : Option Addr) (m c : Nat) (l : List UInt8) (w : World) (hl : decide (1000 < (t.size : Int)) = false) (hm : decide (1000 < (m : Int)) = true) :
    Calls Try.prog 3 #[.agg #[.int .i64 vk, .int .u64 n, .string t], .agg #[.string nm, .int .i64 k, .int .i64 g], .slice A m c] w fun e w' => e = .returned (.bool true) ∧ Below w.heap.size w w' := by
  go_enter Try.func3, Try.ntmps3
  go_wp2_with fail
  go_at_call 11
  refine (alive_any _).mono ?_
  rintro e w1 ⟨rfl, hb1⟩
  go_wp2_with fail
  go_ret
  exact ⟨rfl, Bt (Ba (B1 _ _) _) hb1⟩
set_option maxHeartbeats 2000000 in
theorem vs_ok (vk n : Int) (t nm : ByteArray) (k g : Int) (A : Option Addr) (m c : Nat) (l : List UInt8) (w : World) (hn : U64 n) (hl : decide (1000 < (t.size : Int)) = false) (hm : decide (1000 < (m : Int)) = false) (hl2 : l.length ≤ 1000) (H : Hid (Rd w w.heap.size A m c l)) (Q : ByteArray) (E K N E2 : Int) (X : ByteArray) (HQ : Hid (encT vk n t k g = Q)) (HE : Hid (encE vk n t k g = E)) (HD : Hid (decR l k g = .tuple #[.agg #[.int .i64 K, .int .u64 N, .string X], .int .i64 E2])) :
    Calls Try.prog 3 #[.agg #[.int .i64 vk, .int .u64 n, .string t], .agg #[.string nm, .int .i64 k, .int .i64 g], .slice A m c] w fun e w' => e = .returned (.bool true) ∧ Below w.heap.size w w' := by
  go_enter Try.func3, Try.ntmps3
  go_wp2_with fail
  go_at_call 12
  refine (kencode_any _ _ _ _ _ _ _ hn).mono ?_
  rintro e w1 ⟨A1, m1, c1, rfl, hrd, hb1⟩
  rw [HQ.out] at hrd
  rw [HE.out]
  have V0 := (vb_new w vk n t).alloc (.cells #[.string nm, .int .i64 k, .int .i64 g] 26)
  have F0 := fb_new2 w (.cells #[.int .i64 vk, .int .u64 n, .string t] 24) nm k g
  have hbw0 := Ba (B1 w (.cells #[.int .i64 vk, .int .u64 n, .string t] 24)) (.cells #[.string nm, .int .i64 k, .int .i64 g] 26)
  have R0 := H.out.on hbw0
  have V1 := V0.on hb1
  have F1 := F0.on hb1
  have R1 := R0.on hb1
  have hbw1 := Bt hbw0 hb1
  obtain ⟨Vx, Vy, Vz⟩ := V1.cells
  have Vl := V1.lt
  obtain ⟨Fx, Fy, Fz⟩ := F1.cells
  have Fl := F1.lt
  go_wp2_with fail
  go_at_call 13
  refine (rencode_any _ _ _ _ _ _ _ hn).mono ?_
  rintro e w2 ⟨rfl, hb2⟩
  rw [HQ.out, HE.out]
  have V2 := V1.on hb2
  have F2 := F1.on hb2
  have R2 := R1.on hb2
  have Q2 := hrd.on hb2
  have hbw2 := Bt hbw1 hb2
  clear Vx Vy Vz Vl
  clear Fx Fy Fz Fl
  obtain ⟨Fx, Fy, Fz⟩ := F2.cells
  have Fl := F2.lt
  go_wp2_with fail
  go_at_call 14
  refine (kdecode_any _ _ _ R2).mono ?_
  rintro e w3 ⟨rfl, hb3⟩
  rw [HD.out]
  have V3 := V2.on hb3
  have F3 := F2.on hb3
  have R3 := R2.on hb3
  have Q3 := Q2.on hb3
  have hbw3 := Bt hbw2 hb3
  clear Fx Fy Fz Fl
  obtain ⟨a3, a4, a5⟩ := F3.cells
  have lb := F3.lt
  have V4 := V3.alloc (.cells #[.int .i64 K, .int .u64 N, .string X] 24)
  have F4 := F3.alloc (.cells #[.int .i64 K, .int .u64 N, .string X] 24)
  have R4 := R3.on (B1 _ (.cells #[.int .i64 K, .int .u64 N, .string X] 24))
  have Q4 := Q3.on (B1 _ (.cells #[.int .i64 K, .int .u64 N, .string X] 24))
  have hbw4 := Ba hbw3 (.cells #[.int .i64 K, .int .u64 N, .string X] 24)
  have X0 := vb_new w3 K N X
  clear hb3
  have cvr := R4.conv
  go_wp2_with fail
  clear a3 a4 a5 lb cvr
  go_at_call 15
  refine (rdecode_any _ _ _ _ _ hl2).mono ?_
  rintro e w4 ⟨rfl, hb4⟩
  rw [HD.out]
  have V5 := V4.on hb4
  have F5 := F4.on hb4
  have R5 := R4.on hb4
  have Q5 := Q4.on hb4
  have X5 := X0.on hb4
  have hbw5 := Bt hbw4 hb4
  have V6 := V5.alloc (.cells #[.int .i64 K, .int .u64 N, .string X] 24)
  have F6 := F5.alloc (.cells #[.int .i64 K, .int .u64 N, .string X] 24)
  have R6 := R5.on (B1 _ (.cells #[.int .i64 K, .int .u64 N, .string X] 24))
  have Q6 := Q5.on (B1 _ (.cells #[.int .i64 K, .int .u64 N, .string X] 24))
  have X6 := X5.alloc (.cells #[.int .i64 K, .int .u64 N, .string X] 24)
  have hbw6 := Ba hbw5 (.cells #[.int .i64 K, .int .u64 N, .string X] 24)
  have Y0 := vb_new w4 K N X
  clear hb4
  go_wp2_with fail
  refine reg_begin (by kernel_rfl) (fun w0r hx0r hHeld => ?_)
  have V9 := V6.on hx0r
  have F9 := F6.on hx0r
  have X9 := X6.on hx0r
  have Y9 := Y0.on hx0r
  have Q9 := Q6.on hx0r
  have Vq0 : ∀ w', Ext w0r w' → w'.cell? ⟨w.heap.size, 0, none⟩ = some (.int .i64 vk) := fun w' h => (V9.on h).cells.1
  have Vq1 : ∀ w', Ext w0r w' → w'.cell? ⟨w.heap.size, 1, none⟩ = some (.int .u64 n) := fun w' h => (V9.on h).cells.2.1
  have Vq2 : ∀ w', Ext w0r w' → w'.cell? ⟨w.heap.size, 2, none⟩ = some (.string t) := fun w' h => (V9.on h).cells.2.2
  have Fq0 : ∀ w', Ext w0r w' → w'.cell? ⟨w.heap.size + 1, 0, none⟩ = some (.string nm) := fun w' h => (F9.on h).cells.1
  have Fq1 : ∀ w', Ext w0r w' → w'.cell? ⟨w.heap.size + 1, 1, none⟩ = some (.int .i64 k) := fun w' h => (F9.on h).cells.2.1
  have Fq2 : ∀ w', Ext w0r w' → w'.cell? ⟨w.heap.size + 1, 2, none⟩ = some (.int .i64 g) := fun w' h => (F9.on h).cells.2.2
  have Xq0 : ∀ w', Ext w0r w' → w'.cell? ⟨w3.heap.size, 0, none⟩ = some (.int .i64 K) := fun w' h => (X9.on h).cells.1
  have Xq1 : ∀ w', Ext w0r w' → w'.cell? ⟨w3.heap.size, 1, none⟩ = some (.int .u64 N) := fun w' h => (X9.on h).cells.2.1
  have Xq2 : ∀ w', Ext w0r w' → w'.cell? ⟨w3.heap.size, 2, none⟩ = some (.string X) := fun w' h => (X9.on h).cells.2.2
  have Yq0 : ∀ w', Ext w0r w' → w'.cell? ⟨w4.heap.size, 0, none⟩ = some (.int .i64 K) := fun w' h => (Y9.on h).cells.1
  have Yq1 : ∀ w', Ext w0r w' → w'.cell? ⟨w4.heap.size, 1, none⟩ = some (.int .u64 N) := fun w' h => (Y9.on h).cells.2.1
  have Yq2 : ∀ w', Ext w0r w' → w'.cell? ⟨w4.heap.size, 2, none⟩ = some (.string X) := fun w' h => (Y9.on h).cells.2.2
  have cq : ∀ w', Ext w0r w' → (convert 27 9 (.slice A1 m1 c1)).run Try.prog w' = .ok (.string Q) w' := fun w' h => by have h2 := (Q9.on h).conv; rwa [show (⟨Q.toList.toArray⟩ : ByteArray) = Q by rw [ByteArray.toList_eq]] at h2
  refine wpAnyH_ready (rs := [0]) (by kernel_rfl) (by simp) ?_
  refine AllReadyH.cons at0 (fun K hK => ?_) AllReadyH.nil
  go_simp
  go_at_call 11
  refine (alive_any _).mono ?_
  rintro e w5 ⟨rfl, hb5⟩
  go_wp2_with fail
  refine hK.out _ _ (Ext.trans hHeld hb5) (fun hHeld => ?_)
  clear hK K
  try simp only [Act.put, List.setIfInBounds_toArray, List.set_cons_zero, List.set_cons_succ]
  refine reg_take 1 (v := ?vb1) (atS at0) (by kernel_rfl) (by kernel_rfl) (by kernel_rfl) (by rfl) ?hyb1 hHeld ?restb1
  case hyb1 => (intro w' hSw; go_simp; try with_reducible rfl)
  try simp only [Act.put, List.setIfInBounds_toArray, List.set_cons_zero, List.set_cons_succ]
  refine reg_take 2 (v := ?vb2) (atS (atS at0)) (by kernel_rfl) (by kernel_rfl) (by kernel_rfl) (by rfl) ?hyb2 hHeld ?restb2
  case hyb2 => (intro w' hSw; go_simp; try with_reducible rfl)
  try simp only [Act.put, List.setIfInBounds_toArray, List.set_cons_zero, List.set_cons_succ]
  refine reg_take 3 (v := ?vb3) (atS (atS (atS at0))) (by kernel_rfl) (by kernel_rfl) (by kernel_rfl) (by rfl) ?hyb3 hHeld ?restb3
  case hyb3 => (intro w' hSw; go_simp; try with_reducible rfl)
  try simp only [Act.put, List.setIfInBounds_toArray, List.set_cons_zero, List.set_cons_succ]
  refine reg_take 5 (v := ?vb5) (atS5 at0) (by kernel_rfl) (by kernel_rfl) (by kernel_rfl) (by rfl) ?hyb5 hHeld ?restb5
  case hyb5 => (intro w' hSw; go_simp; try with_reducible rfl)
  try simp only [Act.put, List.setIfInBounds_toArray, List.set_cons_zero, List.set_cons_succ]
  refine reg_take 6 (v := ?vb6) (atS5 (atS at0)) (by kernel_rfl) (by kernel_rfl) (by kernel_rfl) (by rfl) ?hyb6 hHeld ?restb6
  case hyb6 => (intro w' hSw; go_simp; try with_reducible rfl)
  try simp only [Act.put, List.setIfInBounds_toArray, List.set_cons_zero, List.set_cons_succ]
  refine wpAnyH_ready (rs := [4]) (by kernel_rfl) (by simp) ?_
  refine AllReadyH.cons (atS (atS (atS (atS at0)))) (fun K hK => ?_) AllReadyH.nil
  go_simp
  go_at_call 16
  refine (kright_any _ _ _ _ _ _ _ hn).mono ?_
  rintro e w6 ⟨rfl, hb6⟩
  go_wp2_with fail
  refine hK.out _ _ (Ext.trans hHeld hb6) (fun hHeld => ?_)
  clear hK K
  try simp only [Act.put, List.setIfInBounds_toArray, List.set_cons_zero, List.set_cons_succ]
  refine wpAnyH_ready (rs := [7]) (by kernel_rfl) (by simp) ?_
  refine AllReadyH.cons (atS5 (atS (atS at0))) (fun K hK => ?_) AllReadyH.nil
  go_simp
  go_at_call 17
  refine (rright_any _ _ _ _ _ _ _ hn).mono ?_
  rintro e w7 ⟨rfl, hb7⟩
  go_wp2_with fail
  refine hK.out _ _ (Ext.trans hHeld hb7) (fun hHeld => ?_)
  clear hK K
  try simp only [Act.put, List.setIfInBounds_toArray, List.set_cons_zero, List.set_cons_succ]
  refine reg_take 8 (v := ?vb8) (atS5 (atS (atS (atS at0)))) (by kernel_rfl) (by kernel_rfl) (by kernel_rfl) (by rfl) ?hyb8 hHeld ?restb8
  case hyb8 => (intro w' hSw; go_simp; try with_reducible rfl)
  try simp only [Act.put, List.setIfInBounds_toArray, List.set_cons_zero, List.set_cons_succ]
  refine reg_take 9 (v := ?vb9) (atS5 (atS (atS (atS (atS at0))))) (by kernel_rfl) (by kernel_rfl) (by kernel_rfl) (by rfl) ?hyb9 hHeld ?restb9
  case hyb9 => (intro w' hSw; go_simp; try with_reducible rfl)
  try simp only [Act.put, List.setIfInBounds_toArray, List.set_cons_zero, List.set_cons_succ]
  refine reg_take 10 (v := ?vb10) (atS5 (atS5 at0)) (by kernel_rfl) (by kernel_rfl) (by kernel_rfl) (by rfl) ?hyb10 hHeld ?restb10
  case hyb10 => (intro w' hSw; go_simp; try with_reducible rfl)
  try simp only [Act.put, List.setIfInBounds_toArray, List.set_cons_zero, List.set_cons_succ]
  refine reg_take 11 (v := ?vb11) (atS5 (atS5 (atS at0))) (by kernel_rfl) (by kernel_rfl) (by kernel_rfl) (by rfl) ?hyb11 hHeld ?restb11
  case hyb11 => (intro w' hSw; go_simp; try with_reducible rfl)
  try simp only [Act.put, List.setIfInBounds_toArray, List.set_cons_zero, List.set_cons_succ]
  refine reg_take 13 (v := ?vb13) (atS5 (atS5 (atS (atS (atS at0))))) (by kernel_rfl) (by kernel_rfl) (by kernel_rfl) (by rfl) ?hyb13 hHeld ?restb13
  case hyb13 => (intro w' hSw; go_simp; try with_reducible rfl)
  try simp only [Act.put, List.setIfInBounds_toArray, List.set_cons_zero, List.set_cons_succ]
  refine wpAnyH_ready (rs := [12]) (by kernel_rfl) (by simp) ?_
  refine AllReadyH.cons (atS5 (atS5 (atS (atS at0)))) (fun K hK => ?_) AllReadyH.nil
  go_simp
  go_at_call 18
  refine (klong_any _ _ _ _).mono ?_
  rintro e w8 ⟨rfl, hb8⟩
  go_wp2_with fail
  refine hK.out _ _ (Ext.trans hHeld hb8) (fun hHeld => ?_)
  clear hK K
  try simp only [Act.put, List.setIfInBounds_toArray, List.set_cons_zero, List.set_cons_succ]
  refine wpAnyH_ready (rs := [14]) (by kernel_rfl) (by simp) ?_
  refine AllReadyH.cons (atS5 (atS5 (atS (atS (atS (atS at0)))))) (fun K hK => ?_) AllReadyH.nil
  go_simp
  go_at_call 19
  refine (rlong_any _ _ _ _).mono ?_
  rintro e w9 ⟨rfl, hb9⟩
  go_wp2_with fail
  refine hK.out _ _ (Ext.trans hHeld hb9) (fun hHeld => ?_)
  clear hK K
  try simp only [Act.put, List.setIfInBounds_toArray, List.set_cons_zero, List.set_cons_succ]
  refine reg_take 15 (v := ?vb15) (atS5 (atS5 (atS5 at0))) (by kernel_rfl) (by kernel_rfl) (by kernel_rfl) (by rfl) ?hyb15 hHeld ?restb15
  case hyb15 => (intro w' hSw; go_simp; try with_reducible rfl)
  try simp only [Act.put, List.setIfInBounds_toArray, List.set_cons_zero, List.set_cons_succ]
  refine reg_take 16 (v := ?vb16) (atS5 (atS5 (atS5 (atS at0)))) (by kernel_rfl) (by kernel_rfl) (by kernel_rfl) (by rfl) ?hyb16 hHeld ?restb16
  case hyb16 => (intro w' hSw; go_simp; try with_reducible rfl)
  try simp only [Act.put, List.setIfInBounds_toArray, List.set_cons_zero, List.set_cons_succ]
  refine reg_take 17 (v := ?vb17) (atS5 (atS5 (atS5 (atS (atS at0))))) (by kernel_rfl) (by kernel_rfl) (by kernel_rfl) (by rfl) ?hyb17 hHeld ?restb17
  case hyb17 => (intro w' hSw; go_simp; try with_reducible rfl)
  try simp only [Act.put, List.setIfInBounds_toArray, List.set_cons_zero, List.set_cons_succ]
  refine reg_take 18 (v := ?vb18) (atS5 (atS5 (atS5 (atS (atS (atS at0)))))) (by kernel_rfl) (by kernel_rfl) (by kernel_rfl) (by rfl) ?hyb18 hHeld ?restb18
  case hyb18 => (intro w' hSw; go_simp; try with_reducible rfl)
  try simp only [Act.put, List.setIfInBounds_toArray, List.set_cons_zero, List.set_cons_succ]
  refine reg_take 20 (v := ?vb20) (atS5 (atS5 (atS5 (atS5 at0)))) (by kernel_rfl) (by kernel_rfl) (by kernel_rfl) (by rfl) ?hyb20 hHeld ?restb20
  case hyb20 => (intro w' hSw; go_simp; try with_reducible rfl)
  try simp only [Act.put, List.setIfInBounds_toArray, List.set_cons_zero, List.set_cons_succ]
  refine wpAnyH_ready (rs := [19]) (by kernel_rfl) (by simp) ?_
  refine AllReadyH.cons (atS5 (atS5 (atS5 (atS (atS (atS (atS at0))))))) (fun K hK => ?_) AllReadyH.nil
  go_simp
  go_at_call 20
  refine (kzero_any _ _ _ _).mono ?_
  rintro e w10 ⟨rfl, hb10⟩
  go_wp2_with fail
  refine hK.out _ _ (Ext.trans hHeld hb10) (fun hHeld => ?_)
  clear hK K
  try simp only [Act.put, List.setIfInBounds_toArray, List.set_cons_zero, List.set_cons_succ]
  refine wpAnyH_ready (rs := [21]) (by kernel_rfl) (by simp) ?_
  refine AllReadyH.cons (atS5 (atS5 (atS5 (atS5 (atS at0))))) (fun K hK => ?_) AllReadyH.nil
  go_simp
  go_at_call 21
  refine (rzero_any _ _ _ _).mono ?_
  rintro e w11 ⟨rfl, hb11⟩
  go_wp2_with fail
  refine hK.out _ _ (Ext.trans hHeld hb11) (fun hHeld => ?_)
  clear hK K
  try simp only [Act.put, List.setIfInBounds_toArray, List.set_cons_zero, List.set_cons_succ]
  refine reg_take 22 (v := ?vb22) (atS5 (atS5 (atS5 (atS5 (atS (atS at0)))))) (by kernel_rfl) (by kernel_rfl) (by kernel_rfl) (by rfl) ?hyb22 hHeld ?restb22
  case hyb22 => (intro w' hSw; go_simp; try with_reducible rfl)
  try simp only [Act.put, List.setIfInBounds_toArray, List.set_cons_zero, List.set_cons_succ]
  refine reg_take 23 (v := ?vb23) (atS5 (atS5 (atS5 (atS5 (atS (atS (atS at0))))))) (by kernel_rfl) (by kernel_rfl) (by kernel_rfl) (by rfl) ?hyb23 hHeld ?restb23
  case hyb23 => (intro w' hSw; go_simp; try with_reducible rfl)
  try simp only [Act.put, List.setIfInBounds_toArray, List.set_cons_zero, List.set_cons_succ]
  refine reg_take 24 (v := ?vb24) (atS5 (atS5 (atS5 (atS5 (atS (atS (atS (atS at0)))))))) (by kernel_rfl) (by kernel_rfl) (by kernel_rfl) (by rfl) ?hyb24 hHeld ?restb24
  case hyb24 => (intro w' hSw; go_simp; try with_reducible rfl)
  try simp only [Act.put, List.setIfInBounds_toArray, List.set_cons_zero, List.set_cons_succ]
  refine reg_take 25 (v := ?vb25) (atS5 (atS5 (atS5 (atS5 (atS5 at0))))) (by kernel_rfl) (by kernel_rfl) (by kernel_rfl) (by rfl) ?hyb25 hHeld ?restb25
  case hyb25 => (intro w' hSw; go_simp; try with_reducible rfl)
  try simp only [Act.put, List.setIfInBounds_toArray, List.set_cons_zero, List.set_cons_succ]
  refine reg_take 26 (v := ?vb26) (atS5 (atS5 (atS5 (atS5 (atS5 (atS at0)))))) (by kernel_rfl) (by kernel_rfl) (by kernel_rfl) (by rfl) ?hyb26 hHeld ?restb26
  case hyb26 => (intro w' hSw; go_simp; try with_reducible rfl)
  try simp only [Act.put, List.setIfInBounds_toArray, List.set_cons_zero, List.set_cons_succ]
  refine reg_take 27 (v := ?vb27) (atS5 (atS5 (atS5 (atS5 (atS5 (atS (atS at0))))))) (by kernel_rfl) (by kernel_rfl) (by kernel_rfl) (by rfl) ?hyb27 hHeld ?restb27
  case hyb27 => (intro w' hSw; go_simp; try with_reducible rfl)
  try simp only [Act.put, List.setIfInBounds_toArray, List.set_cons_zero, List.set_cons_succ]
  refine reg_take 28 (v := ?vb28) (atS5 (atS5 (atS5 (atS5 (atS5 (atS (atS (atS at0)))))))) (by kernel_rfl) (by kernel_rfl) (by kernel_rfl) (by rfl) ?hyb28 hHeld ?restb28
  case hyb28 => (intro w' hSw; go_simp; try with_reducible rfl)
  try simp only [Act.put, List.setIfInBounds_toArray, List.set_cons_zero, List.set_cons_succ]
  refine reg_take 29 (v := ?vb29) (atS5 (atS5 (atS5 (atS5 (atS5 (atS (atS (atS (atS at0))))))))) (by kernel_rfl) (by kernel_rfl) (by kernel_rfl) (by rfl) ?hyb29 hHeld ?restb29
  case hyb29 => (intro w' hSw; go_simp; try with_reducible rfl)
  try simp only [Act.put, List.setIfInBounds_toArray, List.set_cons_zero, List.set_cons_succ]
  refine reg_take 30 (v := ?vb30) (atS5 (atS5 (atS5 (atS5 (atS5 (atS5 at0)))))) (by kernel_rfl) (by kernel_rfl) (by kernel_rfl) (by rfl) ?hyb30 hHeld ?restb30
  case hyb30 => (intro w' hSw; go_simp; try with_reducible rfl)
  try simp only [Act.put, List.setIfInBounds_toArray, List.set_cons_zero, List.set_cons_succ]
  refine reg_take 31 (v := ?vb31) (atS5 (atS5 (atS5 (atS5 (atS5 (atS5 (atS at0))))))) (by kernel_rfl) (by kernel_rfl) (by kernel_rfl) (by rfl) ?hyb31 hHeld ?restb31
  case hyb31 => (intro w' hSw; go_simp; try with_reducible rfl)
  try simp only [Act.put, List.setIfInBounds_toArray, List.set_cons_zero, List.set_cons_succ]
  refine reg_take 32 (v := ?vb32) (atS5 (atS5 (atS5 (atS5 (atS5 (atS5 (atS (atS at0)))))))) (by kernel_rfl) (by kernel_rfl) (by kernel_rfl) (by rfl) ?hyb32 hHeld ?restb32
  case hyb32 => (intro w' hSw; go_simp; try with_reducible rfl)
  try simp only [Act.put, List.setIfInBounds_toArray, List.set_cons_zero, List.set_cons_succ]
  refine reg_take 33 (v := ?vb33) (atS5 (atS5 (atS5 (atS5 (atS5 (atS5 (atS (atS (atS at0))))))))) (by kernel_rfl) (by kernel_rfl) (by kernel_rfl) (by rfl) ?hyb33 hHeld ?restb33
  case hyb33 => (intro w' hSw; go_simp; try with_reducible rfl)
  try simp only [Act.put, List.setIfInBounds_toArray, List.set_cons_zero, List.set_cons_succ]
  refine reg_take 34 (v := ?vb34) (atS5 (atS5 (atS5 (atS5 (atS5 (atS5 (atS (atS (atS (atS at0)))))))))) (by kernel_rfl) (by kernel_rfl) (by kernel_rfl) (by rfl) ?hyb34 hHeld ?restb34
  case hyb34 => (intro w' hSw; go_simp; try with_reducible rfl)
  try simp only [Act.put, List.setIfInBounds_toArray, List.set_cons_zero, List.set_cons_succ]
  refine reg_take 35 (v := ?vb35) (atS5 (atS5 (atS5 (atS5 (atS5 (atS5 (atS5 at0))))))) (by kernel_rfl) (by kernel_rfl) (by kernel_rfl) (by rfl) ?hyb35 hHeld ?restb35
  case hyb35 => (intro w' hSw; go_simp; try with_reducible rfl)
  try simp only [Act.put, List.setIfInBounds_toArray, List.set_cons_zero, List.set_cons_succ]
  refine reg_take 36 (v := ?vb36) (atS5 (atS5 (atS5 (atS5 (atS5 (atS5 (atS5 (atS at0)))))))) (by kernel_rfl) (by kernel_rfl) (by kernel_rfl) (by rfl) ?hyb36 hHeld ?restb36
  case hyb36 => (intro w' hSw; go_simp; try with_reducible rfl)
  try simp only [Act.put, List.setIfInBounds_toArray, List.set_cons_zero, List.set_cons_succ]
  refine reg_take 37 (v := ?vb37) (atS5 (atS5 (atS5 (atS5 (atS5 (atS5 (atS5 (atS (atS at0))))))))) (by kernel_rfl) (by kernel_rfl) (by kernel_rfl) (by rfl) ?hyb37 hHeld ?restb37
  case hyb37 => (intro w' hSw; go_simp; try with_reducible rfl)
  try simp only [Act.put, List.setIfInBounds_toArray, List.set_cons_zero, List.set_cons_succ]
  refine reg_take 38 (v := ?vb38) (atS5 (atS5 (atS5 (atS5 (atS5 (atS5 (atS5 (atS (atS (atS at0)))))))))) (by kernel_rfl) (by kernel_rfl) (by kernel_rfl) (by rfl) ?hyb38 hHeld ?restb38
  case hyb38 => (intro w' hSw; go_simp; try with_reducible rfl)
  try simp only [Act.put, List.setIfInBounds_toArray, List.set_cons_zero, List.set_cons_succ]
  refine reg_take 39 (v := ?vb39) (atS5 (atS5 (atS5 (atS5 (atS5 (atS5 (atS5 (atS (atS (atS (atS at0))))))))))) (by kernel_rfl) (by kernel_rfl) (by kernel_rfl) (by rfl) ?hyb39 hHeld ?restb39
  case hyb39 => (intro w' hSw; go_simp; try with_reducible rfl)
  try simp only [Act.put, List.setIfInBounds_toArray, List.set_cons_zero, List.set_cons_succ]
  refine reg_take 40 (v := ?vb40) (atS5 (atS5 (atS5 (atS5 (atS5 (atS5 (atS5 (atS5 at0)))))))) (by kernel_rfl) (by kernel_rfl) (by kernel_rfl) (by rfl) ?hyb40 hHeld ?restb40
  case hyb40 => (intro w' hSw; go_simp; try with_reducible rfl)
  try simp only [Act.put, List.setIfInBounds_toArray, List.set_cons_zero, List.set_cons_succ]
  refine reg_take 41 (v := ?vb41) (atS5 (atS5 (atS5 (atS5 (atS5 (atS5 (atS5 (atS5 (atS at0))))))))) (by kernel_rfl) (by kernel_rfl) (by kernel_rfl) (by rfl) ?hyb41 hHeld ?restb41
  case hyb41 => (intro w' hSw; go_simp; try with_reducible rfl)
  try simp only [Act.put, List.setIfInBounds_toArray, List.set_cons_zero, List.set_cons_succ]
  refine reg_take 42 (v := ?vb42) (atS5 (atS5 (atS5 (atS5 (atS5 (atS5 (atS5 (atS5 (atS (atS at0)))))))))) (by kernel_rfl) (by kernel_rfl) (by kernel_rfl) (by rfl) ?hyb42 hHeld ?restb42
  case hyb42 => (intro w' hSw; go_simp; try with_reducible rfl)
  try simp only [Act.put, List.setIfInBounds_toArray, List.set_cons_zero, List.set_cons_succ]
  refine reg_take 43 (v := ?vb43) (atS5 (atS5 (atS5 (atS5 (atS5 (atS5 (atS5 (atS5 (atS (atS (atS at0))))))))))) (by kernel_rfl) (by kernel_rfl) (by kernel_rfl) (by rfl) ?hyb43 hHeld ?restb43
  case hyb43 => (intro w' hSw; go_simp; try with_reducible rfl)
  try simp only [Act.put, List.setIfInBounds_toArray, List.set_cons_zero, List.set_cons_succ]
  refine reg_take 44 (v := ?vb44) (atS5 (atS5 (atS5 (atS5 (atS5 (atS5 (atS5 (atS5 (atS (atS (atS (atS at0)))))))))))) (by kernel_rfl) (by kernel_rfl) (by kernel_rfl) (by rfl) ?hyb44 hHeld ?restb44
  case hyb44 => (intro w' hSw; go_simp; try with_reducible rfl)
  try simp only [Act.put, List.setIfInBounds_toArray, List.set_cons_zero, List.set_cons_succ]
  refine reg_take 45 (v := ?vb45) (atS5 (atS5 (atS5 (atS5 (atS5 (atS5 (atS5 (atS5 (atS5 at0))))))))) (by kernel_rfl) (by kernel_rfl) (by kernel_rfl) (by rfl) ?hyb45 hHeld ?restb45
  case hyb45 => (intro w' hSw; go_simp; try with_reducible rfl)
  try simp only [Act.put, List.setIfInBounds_toArray, List.set_cons_zero, List.set_cons_succ]
  refine wpAnyH_done (by kernel_rfl) ?_ _
  refine NoPanic.normal ?_
  clear Vq0 Vq1 Vq2 Fq0 Fq1 Fq2 Xq0 Xq1 Xq2 Yq0 Yq1 Yq2 cq
  go_wp2_with fail
  go_ret
  exact ⟨rfl, Bt (Bt hbw6 hx0r) hHeld⟩
theorem walk_KindValues (vk n : Int) (t nm : ByteArray) (k g : Int) (A : Option Addr) (m c : Nat) (l : List UInt8) (w : World) (hvk : (Lit.int .i64 vk).wf = true) (hnw : (Lit.int .u64 n).wf = true) (htm : t.size ≤ maxLen) (hnm : nm.size ≤ maxLen) (hkw : (Lit.int .i64 k).wf = true) (hgw : (Lit.int .i64 g).wf = true) (h : Rd w w.heap.size A m c l) :
    Calls Try.prog 3 #[.agg #[.int .i64 vk, .int .u64 n, .string t], .agg #[.string nm, .int .i64 k, .int .i64 g], .slice A m c] w fun e w' => e = .returned (.bool true) ∧ Below w.heap.size w w' := by
  have hn := U64.of_wf hnw
  cases hl : decide (1000 < (t.size : Int)) with
  | true => exact vs_l1 vk n t nm k g A m c l w hl
  | false =>
    cases hm : decide (1000 < (m : Int)) with
    | true => exact vs_l2 vk n t nm k g A m c l w hl hm
    | false =>
      have hl2 : l.length ≤ 1000 := by have := h.1; simp at hm; omega
      cases hd : decB l k g with
      | true => exact vs_ok vk n t nm k g A m c l w hn hl hm hl2 h _ _ _ _ _ _ rfl rfl (decR_ok hd)
      | false => exact vs_ok vk n t nm k g A m c l w hn hl hm hl2 h _ _ _ _ _ _ rfl rfl (decR_no hd)
end Go.Proofs.Ytacakogncjhlfaa
