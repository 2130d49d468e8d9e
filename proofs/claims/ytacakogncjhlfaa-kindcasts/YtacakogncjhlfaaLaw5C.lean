/-
  KindCasts: the walk.
-/
import Derived.Test.YtacakogncjhlfaaLaw5M
namespace Go.Proofs.Ytacakogncjhlfaa
open Go.RowKit
set_option linter.unusedVariables false
set_option linter.unusedSimpArgs false

set_option maxHeartbeats 2000000 in
theorem cs_long (vk n : Int) (t nm : ByteArray) (k g : Int) (nm' : ByteArray) (k' g' : Int) (w : World) (hl : decide (1000 < (t.size : Int)) = true) :
    Calls Try.prog 4 #[.agg #[.int .i64 vk, .int .u64 n, .string t], .agg #[.string nm, .int .i64 k, .int .i64 g], .agg #[.string nm', .int .i64 k', .int .i64 g']] w fun e w' => e = .returned (.bool true) ∧ Below w.heap.size w w' := by
  go_enter Try.func4, Try.ntmps4
  go_wp2_with fail
  go_at_call 11
  refine (alive_any _).mono ?_
  rintro e w1 ⟨rfl, hb1⟩
  go_wp2_with fail
  go_ret
  exact ⟨rfl, Bt (Ba (Ba (B1 _ _) _) _) hb1⟩
set_option maxHeartbeats 2000000 in
theorem cs_ok (vk n : Int) (t nm : ByteArray) (k g : Int) (nm' : ByteArray) (k' g' : Int) (w : World) (hn : U64 n) (hl : decide (1000 < (t.size : Int)) = false) (K N E : Int) (X : ByteArray) (HC : Hid (castR vk n t k g k' g' = .tuple #[.agg #[.int .i64 K, .int .u64 N, .string X], .int .i64 E])) (HN : Hid (U64 N)) (HX : Hid (rightF K N X.size k' g' = true)) (hE : (E != 0) = false) :
    Calls Try.prog 4 #[.agg #[.int .i64 vk, .int .u64 n, .string t], .agg #[.string nm, .int .i64 k, .int .i64 g], .agg #[.string nm', .int .i64 k', .int .i64 g']] w fun e w' => e = .returned (.bool true) ∧ Below w.heap.size w w' := by
  go_enter Try.func4, Try.ntmps4
  go_wp2_with fail
  go_at_call 22
  refine (kcast_any _ _ _ _ _ _ _ _ _ _ hn).mono ?_
  rintro e w1 ⟨rfl, hb1⟩
  rw [HC.out]
  have V0 := ((vb_new w vk n t).alloc (.cells #[.string nm, .int .i64 k, .int .i64 g] 26)).alloc (.cells #[.string nm', .int .i64 k', .int .i64 g'] 26)
  have F0 := (fb_new2 w (.cells #[.int .i64 vk, .int .u64 n, .string t] 24) nm k g).alloc (.cells #[.string nm', .int .i64 k', .int .i64 g'] 26)
  have T0 := fb_new3 w (.cells #[.int .i64 vk, .int .u64 n, .string t] 24) (.cells #[.string nm, .int .i64 k, .int .i64 g] 26) nm' k' g'
  have hbw0 := Ba (Ba (B1 w (.cells #[.int .i64 vk, .int .u64 n, .string t] 24)) (.cells #[.string nm, .int .i64 k, .int .i64 g] 26)) (.cells #[.string nm', .int .i64 k', .int .i64 g'] 26)
  have V1 := V0.on hb1
  have F1 := F0.on hb1
  have T1 := T0.on hb1
  have hbw1 := Bt hbw0 hb1
  have V2 := V1.alloc (.cells #[.int .i64 K, .int .u64 N, .string X] 24)
  have F2 := F1.alloc (.cells #[.int .i64 K, .int .u64 N, .string X] 24)
  have T2 := T1.alloc (.cells #[.int .i64 K, .int .u64 N, .string X] 24)
  have hbw2 := Ba hbw1 (.cells #[.int .i64 K, .int .u64 N, .string X] 24)
  have X0 := vb_new w1 K N X
  clear hb1
  obtain ⟨a0, a1, a2⟩ := V1.cells
  obtain ⟨a3, a4, a5⟩ := F1.cells
  obtain ⟨a6, a7, a8⟩ := T1.cells
  have la := V1.lt
  have lb := F1.lt
  have lc := T1.lt
  go_wp2_with fail
  clear a0 a1 a2 a3 a4 a5 a6 a7 a8
  go_at_call 23
  refine (rcast_any _ _ _ _ _ _ _ _ _ _ hn).mono ?_
  rintro e w2 ⟨rfl, hb2⟩
  rw [HC.out]
  have V3 := V2.on hb2
  have F3 := F2.on hb2
  have T3 := T2.on hb2
  have X3 := X0.on hb2
  have hbw3 := Bt hbw2 hb2
  have V4 := V3.alloc (.cells #[.int .i64 K, .int .u64 N, .string X] 24)
  have F4 := F3.alloc (.cells #[.int .i64 K, .int .u64 N, .string X] 24)
  have T4 := T3.alloc (.cells #[.int .i64 K, .int .u64 N, .string X] 24)
  have X4 := X3.alloc (.cells #[.int .i64 K, .int .u64 N, .string X] 24)
  have hbw4 := Ba hbw3 (.cells #[.int .i64 K, .int .u64 N, .string X] 24)
  have Y0 := vb_new w2 K N X
  clear hb2
  go_wp2_with fail
  refine reg_begin (by kernel_rfl) (fun w0r hx0r hHeld => ?_)
  have F9 := F4.on hx0r
  have T9 := T4.on hx0r
  have X9 := X4.on hx0r
  have Y9 := Y0.on hx0r
  have Fq0 : ∀ w', Ext w0r w' → w'.cell? ⟨w.heap.size + 1, 0, none⟩ = some (.string nm) := fun w' h => (F9.on h).cells.1
  have Fq1 : ∀ w', Ext w0r w' → w'.cell? ⟨w.heap.size + 1, 1, none⟩ = some (.int .i64 k) := fun w' h => (F9.on h).cells.2.1
  have Fq2 : ∀ w', Ext w0r w' → w'.cell? ⟨w.heap.size + 1, 2, none⟩ = some (.int .i64 g) := fun w' h => (F9.on h).cells.2.2
  have Tq0 : ∀ w', Ext w0r w' → w'.cell? ⟨w.heap.size + 1 + 1, 0, none⟩ = some ((.string nm')) := fun w' h => (T9.on h).cells.1
  have Tq1 : ∀ w', Ext w0r w' → w'.cell? ⟨w.heap.size + 1 + 1, 1, none⟩ = some ((.int .i64 k')) := fun w' h => (T9.on h).cells.2.1
  have Tq2 : ∀ w', Ext w0r w' → w'.cell? ⟨w.heap.size + 1 + 1, 2, none⟩ = some ((.int .i64 g')) := fun w' h => (T9.on h).cells.2.2
  have Xq0 : ∀ w', Ext w0r w' → w'.cell? ⟨w1.heap.size, 0, none⟩ = some (.int .i64 K) := fun w' h => (X9.on h).cells.1
  have Xq1 : ∀ w', Ext w0r w' → w'.cell? ⟨w1.heap.size, 1, none⟩ = some (.int .u64 N) := fun w' h => (X9.on h).cells.2.1
  have Xq2 : ∀ w', Ext w0r w' → w'.cell? ⟨w1.heap.size, 2, none⟩ = some (.string X) := fun w' h => (X9.on h).cells.2.2
  have Yq0 : ∀ w', Ext w0r w' → w'.cell? ⟨w2.heap.size, 0, none⟩ = some (.int .i64 K) := fun w' h => (Y9.on h).cells.1
  have Yq1 : ∀ w', Ext w0r w' → w'.cell? ⟨w2.heap.size, 1, none⟩ = some (.int .u64 N) := fun w' h => (Y9.on h).cells.2.1
  have Yq2 : ∀ w', Ext w0r w' → w'.cell? ⟨w2.heap.size, 2, none⟩ = some (.string X) := fun w' h => (Y9.on h).cells.2.2
  refine wpAnyH_ready (rs := [0]) (by kernel_rfl) (by simp) ?_
  refine AllReadyH.cons at0 (fun K hK => ?_) AllReadyH.nil
  go_simp
  go_at_call 11
  refine (alive_any _).mono ?_
  rintro e w3 ⟨rfl, hb3⟩
  go_wp2_with fail
  refine hK.out _ _ (Ext.trans hHeld hb3) (fun hHeld => ?_)
  clear hK K
  try simp only [Act.put, List.setIfInBounds_toArray, List.set_cons_zero, List.set_cons_succ]
  refine reg_take 1 (v := ?vb1) (atS at0) (by kernel_rfl) (by kernel_rfl) (by kernel_rfl) (by rfl) ?hyb1 hHeld ?restb1
  case hyb1 => (intro w' hSw; go_simp; try with_reducible rfl)
  try simp only [Act.put, List.setIfInBounds_toArray, List.set_cons_zero, List.set_cons_succ]
  refine reg_take 2 (v := ?vb2) (atS (atS at0)) (by kernel_rfl) (by kernel_rfl) (by kernel_rfl) (by rfl) ?hyb2 hHeld ?restb2
  case hyb2 => (intro w' hSw; go_simp; try with_reducible rfl)
  try simp only [Act.put, List.setIfInBounds_toArray, List.set_cons_zero, List.set_cons_succ]
  refine reg_take 3 (v := ?vb3) (atS (atS (atS at0))) (by kernel_rfl) (by kernel_rfl) (by kernel_rfl) (by rfl) ?hyb3 hHeld ?restb3
  case hyb3 => (intro w' hSw; go_simp; try with_reducible rfl)
  try simp only [Act.put, List.setIfInBounds_toArray, List.set_cons_zero, List.set_cons_succ]
  refine reg_take 5 (v := ?vb5) (atS5 at0) (by kernel_rfl) (by kernel_rfl) (by kernel_rfl) (by rfl) ?hyb5 hHeld ?restb5
  case hyb5 => (intro w' hSw; go_simp; try with_reducible rfl)
  try simp only [Act.put, List.setIfInBounds_toArray, List.set_cons_zero, List.set_cons_succ]
  refine reg_take 6 (v := ?vb6) (atS5 (atS at0)) (by kernel_rfl) (by kernel_rfl) (by kernel_rfl) (by rfl) ?hyb6 hHeld ?restb6
  case hyb6 => (intro w' hSw; go_simp; try with_reducible rfl)
  try simp only [Act.put, List.setIfInBounds_toArray, List.set_cons_zero, List.set_cons_succ]
  refine wpAnyH_ready (rs := [4]) (by kernel_rfl) (by simp) ?_
  refine AllReadyH.cons (atS (atS (atS (atS at0)))) (fun K hK => ?_) AllReadyH.nil
  go_simp
  go_at_call 24
  refine (kcasts_any _ _ _ _ _ _ _).mono ?_
  rintro e w4 ⟨rfl, hb4⟩
  go_wp2_with fail
  refine hK.out _ _ (Ext.trans hHeld hb4) (fun hHeld => ?_)
  clear hK K
  try simp only [Act.put, List.setIfInBounds_toArray, List.set_cons_zero, List.set_cons_succ]
  refine wpAnyH_ready (rs := [7]) (by kernel_rfl) (by simp) ?_
  refine AllReadyH.cons (atS5 (atS (atS at0))) (fun K hK => ?_) AllReadyH.nil
  go_simp
  go_at_call 25
  refine (rcasts_any _ _ _ _ _ _ _).mono ?_
  rintro e w5 ⟨rfl, hb5⟩
  go_wp2_with fail
  refine hK.out _ _ (Ext.trans hHeld hb5) (fun hHeld => ?_)
  clear hK K
  try simp only [Act.put, List.setIfInBounds_toArray, List.set_cons_zero, List.set_cons_succ]
  refine reg_take 8 (v := ?vb8) (atS5 (atS (atS (atS at0)))) (by kernel_rfl) (by kernel_rfl) (by kernel_rfl) (by rfl) ?hyb8 hHeld ?restb8
  case hyb8 => (intro w' hSw; go_simp; try with_reducible rfl)
  try simp only [Act.put, List.setIfInBounds_toArray, List.set_cons_zero, List.set_cons_succ]
  refine reg_take 9 (v := ?vb9) (atS5 (atS (atS (atS (atS at0))))) (by kernel_rfl) (by kernel_rfl) (by kernel_rfl) (by rfl) ?hyb9 hHeld ?restb9
  case hyb9 => (intro w' hSw; go_simp; try with_reducible rfl)
  try simp only [Act.put, List.setIfInBounds_toArray, List.set_cons_zero, List.set_cons_succ]
  refine reg_take 10 (v := ?vb10) (atS5 (atS5 at0)) (by kernel_rfl) (by kernel_rfl) (by kernel_rfl) (by rfl) ?hyb10 hHeld ?restb10
  case hyb10 => (intro w' hSw; go_simp; try with_reducible rfl)
  try simp only [Act.put, List.setIfInBounds_toArray, List.set_cons_zero, List.set_cons_succ]
  refine reg_take 11 (v := ?vb11) (atS5 (atS5 (atS at0))) (by kernel_rfl) (by kernel_rfl) (by kernel_rfl) (by rfl) ?hyb11 hHeld ?restb11
  case hyb11 => (intro w' hSw; go_simp; try with_reducible rfl)
  try simp only [Act.put, List.setIfInBounds_toArray, List.set_cons_zero, List.set_cons_succ]
  refine reg_take 12 (v := ?vb12) (atS5 (atS5 (atS (atS at0)))) (by kernel_rfl) (by kernel_rfl) (by kernel_rfl) (by rfl) ?hyb12 hHeld ?restb12
  case hyb12 => (intro w' hSw; go_simp; try with_reducible rfl)
  try simp only [Act.put, List.setIfInBounds_toArray, List.set_cons_zero, List.set_cons_succ]
  refine reg_take 13 (v := ?vb13) (atS5 (atS5 (atS (atS (atS at0))))) (by kernel_rfl) (by kernel_rfl) (by kernel_rfl) (by rfl) ?hyb13 hHeld ?restb13
  case hyb13 => (intro w' hSw; go_simp; try with_reducible rfl)
  try simp only [Act.put, List.setIfInBounds_toArray, List.set_cons_zero, List.set_cons_succ]
  refine reg_take 14 (v := ?vb14) (atS5 (atS5 (atS (atS (atS (atS at0)))))) (by kernel_rfl) (by kernel_rfl) (by kernel_rfl) (by rfl) ?hyb14 hHeld ?restb14
  case hyb14 => (intro w' hSw; go_simp; try with_reducible rfl)
  try simp only [Act.put, List.setIfInBounds_toArray, List.set_cons_zero, List.set_cons_succ]
  refine reg_take 15 (v := ?vb15) (atS5 (atS5 (atS5 at0))) (by kernel_rfl) (by kernel_rfl) (by kernel_rfl) (by rfl) ?hyb15 hHeld ?restb15
  case hyb15 => (intro w' hSw; go_simp; try with_reducible rfl)
  try simp only [Act.put, List.setIfInBounds_toArray, List.set_cons_zero, List.set_cons_succ]
  refine reg_take 16 (v := ?vb16) (atS5 (atS5 (atS5 (atS at0)))) (by kernel_rfl) (by kernel_rfl) (by kernel_rfl) (by rfl) ?hyb16 hHeld ?restb16
  case hyb16 => (intro w' hSw; go_simp; try with_reducible rfl)
  try simp only [Act.put, List.setIfInBounds_toArray, List.set_cons_zero, List.set_cons_succ]
  refine reg_take 17 (v := ?vb17) (atS5 (atS5 (atS5 (atS (atS at0))))) (by kernel_rfl) (by kernel_rfl) (by kernel_rfl) (by rfl) ?hyb17 hHeld ?restb17
  case hyb17 => (intro w' hSw; go_simp; try with_reducible rfl)
  try simp only [Act.put, List.setIfInBounds_toArray, List.set_cons_zero, List.set_cons_succ]
  refine reg_take 18 (v := ?vb18) (atS5 (atS5 (atS5 (atS (atS (atS at0)))))) (by kernel_rfl) (by kernel_rfl) (by kernel_rfl) (by rfl) ?hyb18 hHeld ?restb18
  case hyb18 => (intro w' hSw; go_simp; try with_reducible rfl)
  try simp only [Act.put, List.setIfInBounds_toArray, List.set_cons_zero, List.set_cons_succ]
  refine reg_take 19 (v := ?vb19) (atS5 (atS5 (atS5 (atS (atS (atS (atS at0))))))) (by kernel_rfl) (by kernel_rfl) (by kernel_rfl) (by rfl) ?hyb19 hHeld ?restb19
  case hyb19 => (intro w' hSw; go_simp; try with_reducible rfl)
  try simp only [Act.put, List.setIfInBounds_toArray, List.set_cons_zero, List.set_cons_succ]
  refine reg_take 20 (v := ?vb20) (atS5 (atS5 (atS5 (atS5 at0)))) (by kernel_rfl) (by kernel_rfl) (by kernel_rfl) (by rfl) ?hyb20 hHeld ?restb20
  case hyb20 => (intro w' hSw; go_simp; try with_reducible rfl)
  try simp only [Act.put, List.setIfInBounds_toArray, List.set_cons_zero, List.set_cons_succ]
  refine reg_take 21 (v := ?vb21) (atS5 (atS5 (atS5 (atS5 (atS at0))))) (by kernel_rfl) (by kernel_rfl) (by kernel_rfl) (by rfl) ?hyb21 hHeld ?restb21
  case hyb21 => (intro w' hSw; go_simp; try with_reducible rfl)
  try simp only [Act.put, List.setIfInBounds_toArray, List.set_cons_zero, List.set_cons_succ]
  refine reg_take 22 (v := ?vb22) (atS5 (atS5 (atS5 (atS5 (atS (atS at0)))))) (by kernel_rfl) (by kernel_rfl) (by kernel_rfl) (by rfl) ?hyb22 hHeld ?restb22
  case hyb22 => (intro w' hSw; go_simp; try with_reducible rfl)
  try simp only [Act.put, List.setIfInBounds_toArray, List.set_cons_zero, List.set_cons_succ]
  refine reg_take 23 (v := ?vb23) (atS5 (atS5 (atS5 (atS5 (atS (atS (atS at0))))))) (by kernel_rfl) (by kernel_rfl) (by kernel_rfl) (by rfl) ?hyb23 hHeld ?restb23
  case hyb23 => (intro w' hSw; go_simp; try with_reducible rfl)
  try simp only [Act.put, List.setIfInBounds_toArray, List.set_cons_zero, List.set_cons_succ]
  refine reg_take 24 (v := ?vb24) (atS5 (atS5 (atS5 (atS5 (atS (atS (atS (atS at0)))))))) (by kernel_rfl) (by kernel_rfl) (by kernel_rfl) (by rfl) ?hyb24 hHeld ?restb24
  case hyb24 => (intro w' hSw; go_simp; try with_reducible rfl)
  try simp only [Act.put, List.setIfInBounds_toArray, List.set_cons_zero, List.set_cons_succ]
  refine reg_take 25 (v := ?vb25) (atS5 (atS5 (atS5 (atS5 (atS5 at0))))) (by kernel_rfl) (by kernel_rfl) (by kernel_rfl) (by rfl) ?hyb25 hHeld ?restb25
  case hyb25 => (intro w' hSw; go_simp; try with_reducible rfl)
  try simp only [Act.put, List.setIfInBounds_toArray, List.set_cons_zero, List.set_cons_succ]
  refine wpAnyH_ready (rs := [26]) (by kernel_rfl) (by simp) ?_
  refine AllReadyH.cons (atS5 (atS5 (atS5 (atS5 (atS5 (atS at0)))))) (fun K hK => ?_) AllReadyH.nil
  go_simp
  go_at_call 16
  refine (kright_any _ _ _ _ _ _ _ HN.out).mono ?_
  rintro e w6 ⟨rfl, hb6⟩
  rw [HX.out]
  go_wp2_with fail
  refine hK.out _ _ (Ext.trans hHeld hb6) (fun hHeld => ?_)
  clear hK K
  try simp only [Act.put, List.setIfInBounds_toArray, List.set_cons_zero, List.set_cons_succ]
  refine reg_take 27 (v := ?vb27) (atS5 (atS5 (atS5 (atS5 (atS5 (atS (atS at0))))))) (by kernel_rfl) (by kernel_rfl) (by kernel_rfl) (by rfl) ?hyb27 hHeld ?restb27
  case hyb27 => (intro w' hSw; go_simp; try with_reducible rfl)
  try simp only [Act.put, List.setIfInBounds_toArray, List.set_cons_zero, List.set_cons_succ]
  refine reg_take 28 (v := ?vb28) (atS5 (atS5 (atS5 (atS5 (atS5 (atS (atS (atS at0)))))))) (by kernel_rfl) (by kernel_rfl) (by kernel_rfl) (by rfl) ?hyb28 hHeld ?restb28
  case hyb28 => (intro w' hSw; go_simp; try with_reducible rfl)
  try simp only [Act.put, List.setIfInBounds_toArray, List.set_cons_zero, List.set_cons_succ]
  refine reg_take 29 (v := ?vb29) (atS5 (atS5 (atS5 (atS5 (atS5 (atS (atS (atS (atS at0))))))))) (by kernel_rfl) (by kernel_rfl) (by kernel_rfl) (by rfl) ?hyb29 hHeld ?restb29
  case hyb29 => (intro w' hSw; go_simp; try with_reducible rfl)
  try simp only [Act.put, List.setIfInBounds_toArray, List.set_cons_zero, List.set_cons_succ]
  refine wpAnyH_done (by kernel_rfl) ?_ _
  refine NoPanic.normal ?_
  clear Fq0 Fq1 Fq2 Tq0 Tq1 Tq2 Xq0 Xq1 Xq2 Yq0 Yq1 Yq2
  go_wp2_with fail
  go_ret
  exact ⟨rfl, Bt (Bt hbw4 hx0r) hHeld⟩
set_option maxHeartbeats 2000000 in
theorem cs_no (vk n : Int) (t nm : ByteArray) (k g : Int) (nm' : ByteArray) (k' g' : Int) (w : World) (hn : U64 n) (hl : decide (1000 < (t.size : Int)) = false) (K N E : Int) (X : ByteArray) (HC : Hid (castR vk n t k g k' g' = .tuple #[.agg #[.int .i64 K, .int .u64 N, .string X], .int .i64 E])) (hE : (E != 0) = true) :
    Calls Try.prog 4 #[.agg #[.int .i64 vk, .int .u64 n, .string t], .agg #[.string nm, .int .i64 k, .int .i64 g], .agg #[.string nm', .int .i64 k', .int .i64 g']] w fun e w' => e = .returned (.bool true) ∧ Below w.heap.size w w' := by
  go_enter Try.func4, Try.ntmps4
  go_wp2_with fail
  go_at_call 22
  refine (kcast_any _ _ _ _ _ _ _ _ _ _ hn).mono ?_
  rintro e w1 ⟨rfl, hb1⟩
  rw [HC.out]
  have V0 := ((vb_new w vk n t).alloc (.cells #[.string nm, .int .i64 k, .int .i64 g] 26)).alloc (.cells #[.string nm', .int .i64 k', .int .i64 g'] 26)
  have F0 := (fb_new2 w (.cells #[.int .i64 vk, .int .u64 n, .string t] 24) nm k g).alloc (.cells #[.string nm', .int .i64 k', .int .i64 g'] 26)
  have T0 := fb_new3 w (.cells #[.int .i64 vk, .int .u64 n, .string t] 24) (.cells #[.string nm, .int .i64 k, .int .i64 g] 26) nm' k' g'
  have hbw0 := Ba (Ba (B1 w (.cells #[.int .i64 vk, .int .u64 n, .string t] 24)) (.cells #[.string nm, .int .i64 k, .int .i64 g] 26)) (.cells #[.string nm', .int .i64 k', .int .i64 g'] 26)
  have V1 := V0.on hb1
  have F1 := F0.on hb1
  have T1 := T0.on hb1
  have hbw1 := Bt hbw0 hb1
  have V2 := V1.alloc (.cells #[.int .i64 K, .int .u64 N, .string X] 24)
  have F2 := F1.alloc (.cells #[.int .i64 K, .int .u64 N, .string X] 24)
  have T2 := T1.alloc (.cells #[.int .i64 K, .int .u64 N, .string X] 24)
  have hbw2 := Ba hbw1 (.cells #[.int .i64 K, .int .u64 N, .string X] 24)
  have X0 := vb_new w1 K N X
  clear hb1
  obtain ⟨a0, a1, a2⟩ := V1.cells
  obtain ⟨a3, a4, a5⟩ := F1.cells
  obtain ⟨a6, a7, a8⟩ := T1.cells
  have la := V1.lt
  have lb := F1.lt
  have lc := T1.lt
  go_wp2_with fail
  clear a0 a1 a2 a3 a4 a5 a6 a7 a8
  go_at_call 23
  refine (rcast_any _ _ _ _ _ _ _ _ _ _ hn).mono ?_
  rintro e w2 ⟨rfl, hb2⟩
  rw [HC.out]
  have V3 := V2.on hb2
  have F3 := F2.on hb2
  have T3 := T2.on hb2
  have X3 := X0.on hb2
  have hbw3 := Bt hbw2 hb2
  have V4 := V3.alloc (.cells #[.int .i64 K, .int .u64 N, .string X] 24)
  have F4 := F3.alloc (.cells #[.int .i64 K, .int .u64 N, .string X] 24)
  have T4 := T3.alloc (.cells #[.int .i64 K, .int .u64 N, .string X] 24)
  have X4 := X3.alloc (.cells #[.int .i64 K, .int .u64 N, .string X] 24)
  have hbw4 := Ba hbw3 (.cells #[.int .i64 K, .int .u64 N, .string X] 24)
  have Y0 := vb_new w2 K N X
  clear hb2
  go_wp2_with fail
  refine reg_begin (by kernel_rfl) (fun w0r hx0r hHeld => ?_)
  have F9 := F4.on hx0r
  have T9 := T4.on hx0r
  have X9 := X4.on hx0r
  have Y9 := Y0.on hx0r
  have Fq0 : ∀ w', Ext w0r w' → w'.cell? ⟨w.heap.size + 1, 0, none⟩ = some (.string nm) := fun w' h => (F9.on h).cells.1
  have Fq1 : ∀ w', Ext w0r w' → w'.cell? ⟨w.heap.size + 1, 1, none⟩ = some (.int .i64 k) := fun w' h => (F9.on h).cells.2.1
  have Fq2 : ∀ w', Ext w0r w' → w'.cell? ⟨w.heap.size + 1, 2, none⟩ = some (.int .i64 g) := fun w' h => (F9.on h).cells.2.2
  have Tq0 : ∀ w', Ext w0r w' → w'.cell? ⟨w.heap.size + 1 + 1, 0, none⟩ = some ((.string nm')) := fun w' h => (T9.on h).cells.1
  have Tq1 : ∀ w', Ext w0r w' → w'.cell? ⟨w.heap.size + 1 + 1, 1, none⟩ = some ((.int .i64 k')) := fun w' h => (T9.on h).cells.2.1
  have Tq2 : ∀ w', Ext w0r w' → w'.cell? ⟨w.heap.size + 1 + 1, 2, none⟩ = some ((.int .i64 g')) := fun w' h => (T9.on h).cells.2.2
  have Xq0 : ∀ w', Ext w0r w' → w'.cell? ⟨w1.heap.size, 0, none⟩ = some (.int .i64 K) := fun w' h => (X9.on h).cells.1
  have Xq1 : ∀ w', Ext w0r w' → w'.cell? ⟨w1.heap.size, 1, none⟩ = some (.int .u64 N) := fun w' h => (X9.on h).cells.2.1
  have Xq2 : ∀ w', Ext w0r w' → w'.cell? ⟨w1.heap.size, 2, none⟩ = some (.string X) := fun w' h => (X9.on h).cells.2.2
  have Yq0 : ∀ w', Ext w0r w' → w'.cell? ⟨w2.heap.size, 0, none⟩ = some (.int .i64 K) := fun w' h => (Y9.on h).cells.1
  have Yq1 : ∀ w', Ext w0r w' → w'.cell? ⟨w2.heap.size, 1, none⟩ = some (.int .u64 N) := fun w' h => (Y9.on h).cells.2.1
  have Yq2 : ∀ w', Ext w0r w' → w'.cell? ⟨w2.heap.size, 2, none⟩ = some (.string X) := fun w' h => (Y9.on h).cells.2.2
  refine wpAnyH_ready (rs := [0]) (by kernel_rfl) (by simp) ?_
  refine AllReadyH.cons at0 (fun K hK => ?_) AllReadyH.nil
  go_simp
  go_at_call 11
  refine (alive_any _).mono ?_
  rintro e w3 ⟨rfl, hb3⟩
  go_wp2_with fail
  refine hK.out _ _ (Ext.trans hHeld hb3) (fun hHeld => ?_)
  clear hK K
  try simp only [Act.put, List.setIfInBounds_toArray, List.set_cons_zero, List.set_cons_succ]
  refine reg_take 1 (v := ?vc1) (atS at0) (by kernel_rfl) (by kernel_rfl) (by kernel_rfl) (by rfl) ?hyc1 hHeld ?restc1
  case hyc1 => (intro w' hSw; go_simp; try with_reducible rfl)
  try simp only [Act.put, List.setIfInBounds_toArray, List.set_cons_zero, List.set_cons_succ]
  refine reg_take 2 (v := ?vc2) (atS (atS at0)) (by kernel_rfl) (by kernel_rfl) (by kernel_rfl) (by rfl) ?hyc2 hHeld ?restc2
  case hyc2 => (intro w' hSw; go_simp; try with_reducible rfl)
  try simp only [Act.put, List.setIfInBounds_toArray, List.set_cons_zero, List.set_cons_succ]
  refine reg_take 3 (v := ?vc3) (atS (atS (atS at0))) (by kernel_rfl) (by kernel_rfl) (by kernel_rfl) (by rfl) ?hyc3 hHeld ?restc3
  case hyc3 => (intro w' hSw; go_simp; try with_reducible rfl)
  try simp only [Act.put, List.setIfInBounds_toArray, List.set_cons_zero, List.set_cons_succ]
  refine reg_take 5 (v := ?vc5) (atS5 at0) (by kernel_rfl) (by kernel_rfl) (by kernel_rfl) (by rfl) ?hyc5 hHeld ?restc5
  case hyc5 => (intro w' hSw; go_simp; try with_reducible rfl)
  try simp only [Act.put, List.setIfInBounds_toArray, List.set_cons_zero, List.set_cons_succ]
  refine reg_take 6 (v := ?vc6) (atS5 (atS at0)) (by kernel_rfl) (by kernel_rfl) (by kernel_rfl) (by rfl) ?hyc6 hHeld ?restc6
  case hyc6 => (intro w' hSw; go_simp; try with_reducible rfl)
  try simp only [Act.put, List.setIfInBounds_toArray, List.set_cons_zero, List.set_cons_succ]
  refine wpAnyH_ready (rs := [4]) (by kernel_rfl) (by simp) ?_
  refine AllReadyH.cons (atS (atS (atS (atS at0)))) (fun K hK => ?_) AllReadyH.nil
  go_simp
  go_at_call 24
  refine (kcasts_any _ _ _ _ _ _ _).mono ?_
  rintro e w4 ⟨rfl, hb4⟩
  go_wp2_with fail
  refine hK.out _ _ (Ext.trans hHeld hb4) (fun hHeld => ?_)
  clear hK K
  try simp only [Act.put, List.setIfInBounds_toArray, List.set_cons_zero, List.set_cons_succ]
  refine wpAnyH_ready (rs := [7]) (by kernel_rfl) (by simp) ?_
  refine AllReadyH.cons (atS5 (atS (atS at0))) (fun K hK => ?_) AllReadyH.nil
  go_simp
  go_at_call 25
  refine (rcasts_any _ _ _ _ _ _ _).mono ?_
  rintro e w5 ⟨rfl, hb5⟩
  go_wp2_with fail
  refine hK.out _ _ (Ext.trans hHeld hb5) (fun hHeld => ?_)
  clear hK K
  try simp only [Act.put, List.setIfInBounds_toArray, List.set_cons_zero, List.set_cons_succ]
  refine reg_take 8 (v := ?vc8) (atS5 (atS (atS (atS at0)))) (by kernel_rfl) (by kernel_rfl) (by kernel_rfl) (by rfl) ?hyc8 hHeld ?restc8
  case hyc8 => (intro w' hSw; go_simp; try with_reducible rfl)
  try simp only [Act.put, List.setIfInBounds_toArray, List.set_cons_zero, List.set_cons_succ]
  refine reg_take 9 (v := ?vc9) (atS5 (atS (atS (atS (atS at0))))) (by kernel_rfl) (by kernel_rfl) (by kernel_rfl) (by rfl) ?hyc9 hHeld ?restc9
  case hyc9 => (intro w' hSw; go_simp; try with_reducible rfl)
  try simp only [Act.put, List.setIfInBounds_toArray, List.set_cons_zero, List.set_cons_succ]
  refine reg_take 10 (v := ?vc10) (atS5 (atS5 at0)) (by kernel_rfl) (by kernel_rfl) (by kernel_rfl) (by rfl) ?hyc10 hHeld ?restc10
  case hyc10 => (intro w' hSw; go_simp; try with_reducible rfl)
  try simp only [Act.put, List.setIfInBounds_toArray, List.set_cons_zero, List.set_cons_succ]
  refine reg_take 11 (v := ?vc11) (atS5 (atS5 (atS at0))) (by kernel_rfl) (by kernel_rfl) (by kernel_rfl) (by rfl) ?hyc11 hHeld ?restc11
  case hyc11 => (intro w' hSw; go_simp; try with_reducible rfl)
  try simp only [Act.put, List.setIfInBounds_toArray, List.set_cons_zero, List.set_cons_succ]
  refine reg_take 12 (v := ?vc12) (atS5 (atS5 (atS (atS at0)))) (by kernel_rfl) (by kernel_rfl) (by kernel_rfl) (by rfl) ?hyc12 hHeld ?restc12
  case hyc12 => (intro w' hSw; go_simp; try with_reducible rfl)
  try simp only [Act.put, List.setIfInBounds_toArray, List.set_cons_zero, List.set_cons_succ]
  refine reg_take 13 (v := ?vc13) (atS5 (atS5 (atS (atS (atS at0))))) (by kernel_rfl) (by kernel_rfl) (by kernel_rfl) (by rfl) ?hyc13 hHeld ?restc13
  case hyc13 => (intro w' hSw; go_simp; try with_reducible rfl)
  try simp only [Act.put, List.setIfInBounds_toArray, List.set_cons_zero, List.set_cons_succ]
  refine reg_take 14 (v := ?vc14) (atS5 (atS5 (atS (atS (atS (atS at0)))))) (by kernel_rfl) (by kernel_rfl) (by kernel_rfl) (by rfl) ?hyc14 hHeld ?restc14
  case hyc14 => (intro w' hSw; go_simp; try with_reducible rfl)
  try simp only [Act.put, List.setIfInBounds_toArray, List.set_cons_zero, List.set_cons_succ]
  refine reg_take 15 (v := ?vc15) (atS5 (atS5 (atS5 at0))) (by kernel_rfl) (by kernel_rfl) (by kernel_rfl) (by rfl) ?hyc15 hHeld ?restc15
  case hyc15 => (intro w' hSw; go_simp; try with_reducible rfl)
  try simp only [Act.put, List.setIfInBounds_toArray, List.set_cons_zero, List.set_cons_succ]
  refine reg_take 16 (v := ?vc16) (atS5 (atS5 (atS5 (atS at0)))) (by kernel_rfl) (by kernel_rfl) (by kernel_rfl) (by rfl) ?hyc16 hHeld ?restc16
  case hyc16 => (intro w' hSw; go_simp; try with_reducible rfl)
  try simp only [Act.put, List.setIfInBounds_toArray, List.set_cons_zero, List.set_cons_succ]
  refine reg_take 17 (v := ?vc17) (atS5 (atS5 (atS5 (atS (atS at0))))) (by kernel_rfl) (by kernel_rfl) (by kernel_rfl) (by rfl) ?hyc17 hHeld ?restc17
  case hyc17 => (intro w' hSw; go_simp; try with_reducible rfl)
  try simp only [Act.put, List.setIfInBounds_toArray, List.set_cons_zero, List.set_cons_succ]
  refine reg_take 18 (v := ?vc18) (atS5 (atS5 (atS5 (atS (atS (atS at0)))))) (by kernel_rfl) (by kernel_rfl) (by kernel_rfl) (by rfl) ?hyc18 hHeld ?restc18
  case hyc18 => (intro w' hSw; go_simp; try with_reducible rfl)
  try simp only [Act.put, List.setIfInBounds_toArray, List.set_cons_zero, List.set_cons_succ]
  refine reg_take 19 (v := ?vc19) (atS5 (atS5 (atS5 (atS (atS (atS (atS at0))))))) (by kernel_rfl) (by kernel_rfl) (by kernel_rfl) (by rfl) ?hyc19 hHeld ?restc19
  case hyc19 => (intro w' hSw; go_simp; try with_reducible rfl)
  try simp only [Act.put, List.setIfInBounds_toArray, List.set_cons_zero, List.set_cons_succ]
  refine reg_take 20 (v := ?vc20) (atS5 (atS5 (atS5 (atS5 at0)))) (by kernel_rfl) (by kernel_rfl) (by kernel_rfl) (by rfl) ?hyc20 hHeld ?restc20
  case hyc20 => (intro w' hSw; go_simp; try with_reducible rfl)
  try simp only [Act.put, List.setIfInBounds_toArray, List.set_cons_zero, List.set_cons_succ]
  refine reg_take 21 (v := ?vc21) (atS5 (atS5 (atS5 (atS5 (atS at0))))) (by kernel_rfl) (by kernel_rfl) (by kernel_rfl) (by rfl) ?hyc21 hHeld ?restc21
  case hyc21 => (intro w' hSw; go_simp; try with_reducible rfl)
  try simp only [Act.put, List.setIfInBounds_toArray, List.set_cons_zero, List.set_cons_succ]
  refine reg_take 22 (v := ?vc22) (atS5 (atS5 (atS5 (atS5 (atS (atS at0)))))) (by kernel_rfl) (by kernel_rfl) (by kernel_rfl) (by rfl) ?hyc22 hHeld ?restc22
  case hyc22 => (intro w' hSw; go_simp; try with_reducible rfl)
  try simp only [Act.put, List.setIfInBounds_toArray, List.set_cons_zero, List.set_cons_succ]
  refine reg_take 23 (v := ?vc23) (atS5 (atS5 (atS5 (atS5 (atS (atS (atS at0))))))) (by kernel_rfl) (by kernel_rfl) (by kernel_rfl) (by rfl) ?hyc23 hHeld ?restc23
  case hyc23 => (intro w' hSw; go_simp; try with_reducible rfl)
  try simp only [Act.put, List.setIfInBounds_toArray, List.set_cons_zero, List.set_cons_succ]
  refine reg_skip 24 (atS5 (atS5 (atS5 (atS5 (atS (atS (atS (atS at0)))))))) (by kernel_rfl) (by kernel_rfl) (by kernel_rfl) (by rfl) hHeld ?_
  try simp only [Act.put, List.setIfInBounds_toArray, List.set_cons_zero, List.set_cons_succ]
  refine reg_skip 25 (atS5 (atS5 (atS5 (atS5 (atS5 at0))))) (by kernel_rfl) (by kernel_rfl) (by kernel_rfl) (by rfl) hHeld ?_
  try simp only [Act.put, List.setIfInBounds_toArray, List.set_cons_zero, List.set_cons_succ]
  refine reg_skip 26 (atS5 (atS5 (atS5 (atS5 (atS5 (atS at0)))))) (by kernel_rfl) (by kernel_rfl) (by kernel_rfl) (by rfl) hHeld ?_
  try simp only [Act.put, List.setIfInBounds_toArray, List.set_cons_zero, List.set_cons_succ]
  refine reg_take 27 (v := ?vc27) (atS5 (atS5 (atS5 (atS5 (atS5 (atS (atS at0))))))) (by kernel_rfl) (by kernel_rfl) (by kernel_rfl) (by rfl) ?hyc27 hHeld ?restc27
  case hyc27 => (intro w' hSw; go_simp; try with_reducible rfl)
  try simp only [Act.put, List.setIfInBounds_toArray, List.set_cons_zero, List.set_cons_succ]
  refine reg_take 28 (v := ?vc28) (atS5 (atS5 (atS5 (atS5 (atS5 (atS (atS (atS at0)))))))) (by kernel_rfl) (by kernel_rfl) (by kernel_rfl) (by rfl) ?hyc28 hHeld ?restc28
  case hyc28 => (intro w' hSw; go_simp; try with_reducible rfl)
  try simp only [Act.put, List.setIfInBounds_toArray, List.set_cons_zero, List.set_cons_succ]
  refine reg_take 29 (v := ?vc29) (atS5 (atS5 (atS5 (atS5 (atS5 (atS (atS (atS (atS at0))))))))) (by kernel_rfl) (by kernel_rfl) (by kernel_rfl) (by rfl) ?hyc29 hHeld ?restc29
  case hyc29 => (intro w' hSw; go_simp; try with_reducible rfl)
  try simp only [Act.put, List.setIfInBounds_toArray, List.set_cons_zero, List.set_cons_succ]
  refine wpAnyH_done (by kernel_rfl) ?_ _
  refine NoPanic.normal ?_
  clear Fq0 Fq1 Fq2 Tq0 Tq1 Tq2 Xq0 Xq1 Xq2 Yq0 Yq1 Yq2
  go_wp2_with fail
  go_ret
  exact ⟨rfl, Bt (Bt hbw4 hx0r) hHeld⟩
theorem walk_KindCasts (vk n : Int) (t nm : ByteArray) (k g : Int) (nm' : ByteArray) (k' g' : Int) (w : World) (hvk : (Lit.int .i64 vk).wf = true) (hnw : (Lit.int .u64 n).wf = true) (htm : t.size ≤ maxLen) (hnm : nm.size ≤ maxLen) (hkw : (Lit.int .i64 k).wf = true) (hgw : (Lit.int .i64 g).wf = true) (hnm' : nm'.size ≤ maxLen) (hkw' : (Lit.int .i64 k').wf = true) (hgw' : (Lit.int .i64 g').wf = true) :
    Calls Try.prog 4 #[.agg #[.int .i64 vk, .int .u64 n, .string t], .agg #[.string nm, .int .i64 k, .int .i64 g], .agg #[.string nm', .int .i64 k', .int .i64 g']] w fun e w' => e = .returned (.bool true) ∧ Below w.heap.size w w' := by
  have hn := U64.of_wf hnw
  cases hl : decide (1000 < (t.size : Int)) with
  | true => exact cs_long vk n t nm k g nm' k' g' w hl
  | false =>
    cases hr : rightF vk n t.size k g with
    | false => exact cs_no vk n t nm k g nm' k' g' w hn hl _ _ _ _ (castR_50 hr) (by decide)
    | true =>
      cases hc : castsF k g k' g' with
      | false => exact cs_no vk n t nm k g nm' k' g' w hn hl _ _ _ _ (castR_51 hr hc) (by decide)
      | true => exact cs_ok vk n t nm k g nm' k' g' w hn hl _ _ _ _ (castR_ok hr hc) (castN_U64 hn) (cast_right hn hr hc).1 (by decide)
end Go.Proofs.Ytacakogncjhlfaa
