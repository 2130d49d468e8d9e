/-
  Contract of the document's Casts (written by tools/kindc.py).
-/
import Derived.Test.YtaegencmnmjgbaaGreatM4

namespace Go.Proofs.YtaegencmnmjgbaaGreat
open Go.RowKit
set_option linter.unusedVariables false
set_option linter.unusedSimpArgs false
set_option maxHeartbeats 2000000 in
theorem rcasts_m1 (nm nm' : ByteArray) (k g k' g' : Int) (w : World) (hm : mayF k g = false) :
    Calls Tryz.prog 117 #[.agg #[.string nm, .int .i64 k, .int .i64 g], .agg #[.string nm', .int .i64 k', .int .i64 g']] w fun e w' => e = .returned (.bool (false)) ∧ Below w.heap.size w w' := by
  go_enter Tryz.func117, Tryz.ntmps117
  go_wp2_with fail
  go_at_call 113
  refine (rmay_any _ _ _ _).mono ?_
  rintro e w1 ⟨rfl, hb1⟩
  rw [hm]
  go_wp2_with fail
  go_ret
  exact ⟨rfl, Bt (Ba (B1 _ _) _) hb1⟩
set_option maxHeartbeats 2000000 in
theorem rcasts_m2 (nm nm' : ByteArray) (k g k' g' : Int) (w : World) (hm : mayF k g = true) (hm' : mayF k' g' = false) :
    Calls Tryz.prog 117 #[.agg #[.string nm, .int .i64 k, .int .i64 g], .agg #[.string nm', .int .i64 k', .int .i64 g']] w fun e w' => e = .returned (.bool (false)) ∧ Below w.heap.size w w' := by
  go_enter Tryz.func117, Tryz.ntmps117
  go_wp2_with fail
  go_at_call 113
  refine (rmay_any _ _ _ _).mono ?_
  rintro e w1 ⟨rfl, hb1⟩
  rw [hm]
  obtain ⟨d0, d1, d2⟩ := ((fb_new2 w _ nm' k' g').on hb1).cells
  go_wp2_with fail
  go_at_call 113
  refine (rmay_any _ _ _ _).mono ?_
  rintro e w2 ⟨rfl, hb2⟩
  rw [hm']
  go_wp2_with fail
  go_ret
  exact ⟨rfl, Bt (Bt (Ba (B1 _ _) _) hb1) hb2⟩
set_option maxHeartbeats 2000000 in
theorem rcasts_L1 (nm nm' : ByteArray) (k g k' g' : Int) (w : World) (hm : mayF k g = true) (hm' : mayF k' g' = true) (hc : k = k') :
    Calls Tryz.prog 117 #[.agg #[.string nm, .int .i64 k, .int .i64 g], .agg #[.string nm', .int .i64 k', .int .i64 g']] w fun e w' => e = .returned (.bool (true)) ∧ Below w.heap.size w w' := by
  subst hc
  go_enter Tryz.func117, Tryz.ntmps117
  go_wp2_with fail
  go_at_call 113
  refine (rmay_any _ _ _ _).mono ?_
  rintro e w1 ⟨rfl, hb1⟩
  rw [hm]
  obtain ⟨d0, d1, d2⟩ := ((fb_new2 w _ nm' k g').on hb1).cells
  go_wp2_with fail
  go_at_call 113
  refine (rmay_any _ _ _ _).mono ?_
  rintro e w2 ⟨rfl, hb2⟩
  rw [hm']
  go_wp2_with fail
  refine reg_begin (by kernel_rfl) (fun w0r hx0r hHeld => ?_)
  have hF0 : FB w0r w.heap.size nm k g := ((((fb_new w nm k g).alloc _).on hb1).on hb2).on hx0r
  have hF0' : FB w0r (w.heap.size + 1) nm' k g' := (((fb_new2 w _ nm' k g').on hb1).on hb2).on hx0r
  have q0 : ∀ w', Ext w0r w' → w'.cell? ⟨w.heap.size, 0, none⟩ = some (.string nm) := fun w' h => (hF0.on h).cells.1
  have q1 : ∀ w', Ext w0r w' → w'.cell? ⟨w.heap.size, 1, none⟩ = some (.int .i64 k) := fun w' h => (hF0.on h).cells.2.1
  have q2 : ∀ w', Ext w0r w' → w'.cell? ⟨w.heap.size, 2, none⟩ = some (.int .i64 g) := fun w' h => (hF0.on h).cells.2.2
  have p0 : ∀ w', Ext w0r w' → w'.cell? ⟨w.heap.size + 1, 0, none⟩ = some (.string nm') := fun w' h => (hF0'.on h).cells.1
  have p1 : ∀ w', Ext w0r w' → w'.cell? ⟨w.heap.size + 1, 1, none⟩ = some (.int .i64 k) := fun w' h => (hF0'.on h).cells.2.1
  have p2 : ∀ w', Ext w0r w' → w'.cell? ⟨w.heap.size + 1, 2, none⟩ = some (.int .i64 g') := fun w' h => (hF0'.on h).cells.2.2
  refine reg_take 0 (v := ?vb0) at0 (by kernel_rfl) (by kernel_rfl) (by kernel_rfl) (by rfl) ?hyb0 hHeld ?restb0
  case hyb0 => (intro w' hSw; go_simp; try with_reducible rfl)
  try simp only [Act.put, List.setIfInBounds_toArray, List.set_cons_zero, List.set_cons_succ]
  refine reg_take 2 (v := ?vb2) (atS (atS at0)) (by kernel_rfl) (by kernel_rfl) (by kernel_rfl) (by rfl) ?hyb2 hHeld ?restb2
  case hyb2 => (intro w' hSw; go_simp; try with_reducible rfl)
  try simp only [Act.put, List.setIfInBounds_toArray, List.set_cons_zero, List.set_cons_succ]
  refine wpAnyH_ready (rs := [1]) (by kernel_rfl) (by simp) ?_
  refine AllReadyH.cons (atS at0) (fun K hK => ?_) AllReadyH.nil
  go_simp
  go_at_call 76
  refine (rlong_any _ _ _ _).mono ?_
  rintro e w3 ⟨rfl, hb3⟩
  go_wp2_with fail
  refine hK.out _ _ hb3 (fun hHeld => ?_)
  clear hK K
  try simp only [Act.put, List.setIfInBounds_toArray, List.set_cons_zero, List.set_cons_succ]
  refine reg_on hb3 (fun hHeld => ?_)
  refine wpAnyH_ready (rs := [3]) (by kernel_rfl) (by simp) ?_
  refine AllReadyH.cons (atS (atS (atS at0))) (fun K hK => ?_) AllReadyH.nil
  go_simp
  go_at_call 76
  refine (rlong_any _ _ _ _).mono ?_
  rintro e w4 ⟨rfl, hb4⟩
  go_wp2_with fail
  refine hK.out _ _ hb4 (fun hHeld => ?_)
  clear hK K
  try simp only [Act.put, List.setIfInBounds_toArray, List.set_cons_zero, List.set_cons_succ]
  refine reg_on hb4 (fun hHeld => ?_)
  refine reg_take 4 (v := ?vb4) (atS (atS (atS (atS at0)))) (by kernel_rfl) (by kernel_rfl) (by kernel_rfl) (by rfl) ?hyb4 hHeld ?restb4
  case hyb4 => (intro w' hSw; go_simp; try with_reducible rfl)
  try simp only [Act.put, List.setIfInBounds_toArray, List.set_cons_zero, List.set_cons_succ]
  refine reg_take 5 (v := ?vb5) (atS5 at0) (by kernel_rfl) (by kernel_rfl) (by kernel_rfl) (by rfl) ?hyb5 hHeld ?restb5
  case hyb5 => (intro w' hSw; go_simp; try with_reducible rfl)
  try simp only [Act.put, List.setIfInBounds_toArray, List.set_cons_zero, List.set_cons_succ]
  refine wpAnyH_done (by kernel_rfl) ?_ _
  refine NoPanic.normal ?_
  clear q0 q1 q2 p0 p1 p2
  obtain ⟨c0, c1, c2⟩ := ((hF0.on hb3).on hb4).cells
  obtain ⟨d0', d1', d2'⟩ := ((hF0'.on hb3).on hb4).cells
  have hbb : Below w.heap.size w w4 := Bt (Bt (Bt (Bt (Bt (Ba (B1 _ _) _) hb1) hb2) hx0r) hb3) hb4
  clear hb1 hb2 hx0r hb3 hb4 hF0 hF0' d0 d1 d2
  go_wp2_with fail
  go_ret
  exact ⟨rfl, hbb⟩
set_option maxHeartbeats 2000000 in
theorem rcasts_L2 (nm nm' : ByteArray) (k g k' g' : Int) (w : World) (hm : mayF k g = true) (hm' : mayF k' g' = true) (hc : k ≠ k' ∧ k ≤ 4 ∧ k' ≤ 8) :
    Calls Tryz.prog 117 #[.agg #[.string nm, .int .i64 k, .int .i64 g], .agg #[.string nm', .int .i64 k', .int .i64 g']] w fun e w' => e = .returned (.bool (decide (longF k g < longF k' g'))) ∧ Below w.heap.size w w' := by
  have beq : (k == k') = false := by simp; omega
  have bk4 : decide (k ≤ 4) = true := by simp; omega
  have bl8 : decide (k' ≤ 8) = true := by simp; omega
  clear hc
  go_enter Tryz.func117, Tryz.ntmps117
  go_wp2_with fail
  go_at_call 113
  refine (rmay_any _ _ _ _).mono ?_
  rintro e w1 ⟨rfl, hb1⟩
  rw [hm]
  obtain ⟨d0, d1, d2⟩ := ((fb_new2 w _ nm' k' g').on hb1).cells
  go_wp2_with fail
  go_at_call 113
  refine (rmay_any _ _ _ _).mono ?_
  rintro e w2 ⟨rfl, hb2⟩
  rw [hm']
  go_wp2_with fail
  refine reg_begin (by kernel_rfl) (fun w0r hx0r hHeld => ?_)
  have hF0 : FB w0r w.heap.size nm k g := ((((fb_new w nm k g).alloc _).on hb1).on hb2).on hx0r
  have hF0' : FB w0r (w.heap.size + 1) nm' k' g' := (((fb_new2 w _ nm' k' g').on hb1).on hb2).on hx0r
  have q0 : ∀ w', Ext w0r w' → w'.cell? ⟨w.heap.size, 0, none⟩ = some (.string nm) := fun w' h => (hF0.on h).cells.1
  have q1 : ∀ w', Ext w0r w' → w'.cell? ⟨w.heap.size, 1, none⟩ = some (.int .i64 k) := fun w' h => (hF0.on h).cells.2.1
  have q2 : ∀ w', Ext w0r w' → w'.cell? ⟨w.heap.size, 2, none⟩ = some (.int .i64 g) := fun w' h => (hF0.on h).cells.2.2
  have p0 : ∀ w', Ext w0r w' → w'.cell? ⟨w.heap.size + 1, 0, none⟩ = some (.string nm') := fun w' h => (hF0'.on h).cells.1
  have p1 : ∀ w', Ext w0r w' → w'.cell? ⟨w.heap.size + 1, 1, none⟩ = some (.int .i64 k') := fun w' h => (hF0'.on h).cells.2.1
  have p2 : ∀ w', Ext w0r w' → w'.cell? ⟨w.heap.size + 1, 2, none⟩ = some (.int .i64 g') := fun w' h => (hF0'.on h).cells.2.2
  refine reg_take 0 (v := ?vc0) at0 (by kernel_rfl) (by kernel_rfl) (by kernel_rfl) (by rfl) ?hyc0 hHeld ?restc0
  case hyc0 => (intro w' hSw; go_simp; try with_reducible rfl)
  try simp only [Act.put, List.setIfInBounds_toArray, List.set_cons_zero, List.set_cons_succ]
  refine reg_take 2 (v := ?vc2) (atS (atS at0)) (by kernel_rfl) (by kernel_rfl) (by kernel_rfl) (by rfl) ?hyc2 hHeld ?restc2
  case hyc2 => (intro w' hSw; go_simp; try with_reducible rfl)
  try simp only [Act.put, List.setIfInBounds_toArray, List.set_cons_zero, List.set_cons_succ]
  refine wpAnyH_ready (rs := [1]) (by kernel_rfl) (by simp) ?_
  refine AllReadyH.cons (atS at0) (fun K hK => ?_) AllReadyH.nil
  go_simp
  go_at_call 76
  refine (rlong_any _ _ _ _).mono ?_
  rintro e w3 ⟨rfl, hb3⟩
  go_wp2_with fail
  refine hK.out _ _ hb3 (fun hHeld => ?_)
  clear hK K
  try simp only [Act.put, List.setIfInBounds_toArray, List.set_cons_zero, List.set_cons_succ]
  refine reg_on hb3 (fun hHeld => ?_)
  refine wpAnyH_ready (rs := [3]) (by kernel_rfl) (by simp) ?_
  refine AllReadyH.cons (atS (atS (atS at0))) (fun K hK => ?_) AllReadyH.nil
  go_simp
  go_at_call 76
  refine (rlong_any _ _ _ _).mono ?_
  rintro e w4 ⟨rfl, hb4⟩
  go_wp2_with fail
  refine hK.out _ _ hb4 (fun hHeld => ?_)
  clear hK K
  try simp only [Act.put, List.setIfInBounds_toArray, List.set_cons_zero, List.set_cons_succ]
  refine reg_on hb4 (fun hHeld => ?_)
  refine reg_take 4 (v := ?vc4) (atS (atS (atS (atS at0)))) (by kernel_rfl) (by kernel_rfl) (by kernel_rfl) (by rfl) ?hyc4 hHeld ?restc4
  case hyc4 => (intro w' hSw; go_simp; try with_reducible rfl)
  try simp only [Act.put, List.setIfInBounds_toArray, List.set_cons_zero, List.set_cons_succ]
  refine reg_take 5 (v := ?vc5) (atS5 at0) (by kernel_rfl) (by kernel_rfl) (by kernel_rfl) (by rfl) ?hyc5 hHeld ?restc5
  case hyc5 => (intro w' hSw; go_simp; try with_reducible rfl)
  try simp only [Act.put, List.setIfInBounds_toArray, List.set_cons_zero, List.set_cons_succ]
  refine wpAnyH_done (by kernel_rfl) ?_ _
  refine NoPanic.normal ?_
  clear q0 q1 q2 p0 p1 p2
  obtain ⟨c0, c1, c2⟩ := ((hF0.on hb3).on hb4).cells
  obtain ⟨d0', d1', d2'⟩ := ((hF0'.on hb3).on hb4).cells
  have hbb : Below w.heap.size w w4 := Bt (Bt (Bt (Bt (Bt (Ba (B1 _ _) _) hb1) hb2) hx0r) hb3) hb4
  clear hb1 hb2 hx0r hb3 hb4 hF0 hF0' d0 d1 d2
  go_wp2_with fail
  go_ret
  exact ⟨rfl, hbb⟩
set_option maxHeartbeats 2000000 in
theorem rcasts_L3 (nm nm' : ByteArray) (k g k' g' : Int) (w : World) (hm : mayF k g = true) (hm' : mayF k' g' = true) (hc : k ≤ 4 ∧ k' = 10) :
    Calls Tryz.prog 117 #[.agg #[.string nm, .int .i64 k, .int .i64 g], .agg #[.string nm', .int .i64 k', .int .i64 g']] w fun e w' => e = .returned (.bool (true)) ∧ Below w.heap.size w w' := by
  have beq : (k == k') = false := by simp; omega
  have bk4 : decide (k ≤ 4) = true := by simp; omega
  have bl8 : decide (k' ≤ 8) = false := by simp; omega
  have bk9 : (k == 9) = false := by simp; omega
  have bk5 : decide (5 ≤ k) = false := by simp; omega
  have bk8 : decide (k ≤ 8) = true := by simp; omega
  have bl10 : (k' == 10) = true := by simp; omega
  clear hc
  go_enter Tryz.func117, Tryz.ntmps117
  go_wp2_with fail
  go_at_call 113
  refine (rmay_any _ _ _ _).mono ?_
  rintro e w1 ⟨rfl, hb1⟩
  rw [hm]
  obtain ⟨d0, d1, d2⟩ := ((fb_new2 w _ nm' k' g').on hb1).cells
  go_wp2_with fail
  go_at_call 113
  refine (rmay_any _ _ _ _).mono ?_
  rintro e w2 ⟨rfl, hb2⟩
  rw [hm']
  go_wp2_with fail
  refine reg_begin (by kernel_rfl) (fun w0r hx0r hHeld => ?_)
  have hF0 : FB w0r w.heap.size nm k g := ((((fb_new w nm k g).alloc _).on hb1).on hb2).on hx0r
  have hF0' : FB w0r (w.heap.size + 1) nm' k' g' := (((fb_new2 w _ nm' k' g').on hb1).on hb2).on hx0r
  have q0 : ∀ w', Ext w0r w' → w'.cell? ⟨w.heap.size, 0, none⟩ = some (.string nm) := fun w' h => (hF0.on h).cells.1
  have q1 : ∀ w', Ext w0r w' → w'.cell? ⟨w.heap.size, 1, none⟩ = some (.int .i64 k) := fun w' h => (hF0.on h).cells.2.1
  have q2 : ∀ w', Ext w0r w' → w'.cell? ⟨w.heap.size, 2, none⟩ = some (.int .i64 g) := fun w' h => (hF0.on h).cells.2.2
  have p0 : ∀ w', Ext w0r w' → w'.cell? ⟨w.heap.size + 1, 0, none⟩ = some (.string nm') := fun w' h => (hF0'.on h).cells.1
  have p1 : ∀ w', Ext w0r w' → w'.cell? ⟨w.heap.size + 1, 1, none⟩ = some (.int .i64 k') := fun w' h => (hF0'.on h).cells.2.1
  have p2 : ∀ w', Ext w0r w' → w'.cell? ⟨w.heap.size + 1, 2, none⟩ = some (.int .i64 g') := fun w' h => (hF0'.on h).cells.2.2
  refine reg_take 0 (v := ?vd0) at0 (by kernel_rfl) (by kernel_rfl) (by kernel_rfl) (by rfl) ?hyd0 hHeld ?restd0
  case hyd0 => (intro w' hSw; go_simp; try with_reducible rfl)
  try simp only [Act.put, List.setIfInBounds_toArray, List.set_cons_zero, List.set_cons_succ]
  refine reg_take 2 (v := ?vd2) (atS (atS at0)) (by kernel_rfl) (by kernel_rfl) (by kernel_rfl) (by rfl) ?hyd2 hHeld ?restd2
  case hyd2 => (intro w' hSw; go_simp; try with_reducible rfl)
  try simp only [Act.put, List.setIfInBounds_toArray, List.set_cons_zero, List.set_cons_succ]
  refine wpAnyH_ready (rs := [1]) (by kernel_rfl) (by simp) ?_
  refine AllReadyH.cons (atS at0) (fun K hK => ?_) AllReadyH.nil
  go_simp
  go_at_call 76
  refine (rlong_any _ _ _ _).mono ?_
  rintro e w3 ⟨rfl, hb3⟩
  go_wp2_with fail
  refine hK.out _ _ hb3 (fun hHeld => ?_)
  clear hK K
  try simp only [Act.put, List.setIfInBounds_toArray, List.set_cons_zero, List.set_cons_succ]
  refine reg_on hb3 (fun hHeld => ?_)
  refine wpAnyH_ready (rs := [3]) (by kernel_rfl) (by simp) ?_
  refine AllReadyH.cons (atS (atS (atS at0))) (fun K hK => ?_) AllReadyH.nil
  go_simp
  go_at_call 76
  refine (rlong_any _ _ _ _).mono ?_
  rintro e w4 ⟨rfl, hb4⟩
  go_wp2_with fail
  refine hK.out _ _ hb4 (fun hHeld => ?_)
  clear hK K
  try simp only [Act.put, List.setIfInBounds_toArray, List.set_cons_zero, List.set_cons_succ]
  refine reg_on hb4 (fun hHeld => ?_)
  refine reg_take 4 (v := ?vd4) (atS (atS (atS (atS at0)))) (by kernel_rfl) (by kernel_rfl) (by kernel_rfl) (by rfl) ?hyd4 hHeld ?restd4
  case hyd4 => (intro w' hSw; go_simp; try with_reducible rfl)
  try simp only [Act.put, List.setIfInBounds_toArray, List.set_cons_zero, List.set_cons_succ]
  refine reg_take 5 (v := ?vd5) (atS5 at0) (by kernel_rfl) (by kernel_rfl) (by kernel_rfl) (by rfl) ?hyd5 hHeld ?restd5
  case hyd5 => (intro w' hSw; go_simp; try with_reducible rfl)
  try simp only [Act.put, List.setIfInBounds_toArray, List.set_cons_zero, List.set_cons_succ]
  refine wpAnyH_done (by kernel_rfl) ?_ _
  refine NoPanic.normal ?_
  clear q0 q1 q2 p0 p1 p2
  obtain ⟨c0, c1, c2⟩ := ((hF0.on hb3).on hb4).cells
  obtain ⟨d0', d1', d2'⟩ := ((hF0'.on hb3).on hb4).cells
  have hbb : Below w.heap.size w w4 := Bt (Bt (Bt (Bt (Bt (Ba (B1 _ _) _) hb1) hb2) hx0r) hb3) hb4
  clear hb1 hb2 hx0r hb3 hb4 hF0 hF0' d0 d1 d2
  go_wp2_with fail
  go_ret
  exact ⟨rfl, hbb⟩
set_option maxHeartbeats 2000000 in
theorem rcasts_L4 (nm nm' : ByteArray) (k g k' g' : Int) (w : World) (hm : mayF k g = true) (hm' : mayF k' g' = true) (hc : k ≤ 4 ∧ 8 < k' ∧ k' ≠ 10) :
    Calls Tryz.prog 117 #[.agg #[.string nm, .int .i64 k, .int .i64 g], .agg #[.string nm', .int .i64 k', .int .i64 g']] w fun e w' => e = .returned (.bool (false)) ∧ Below w.heap.size w w' := by
  have beq : (k == k') = false := by simp; omega
  have bk4 : decide (k ≤ 4) = true := by simp; omega
  have bl8 : decide (k' ≤ 8) = false := by simp; omega
  have bk9 : (k == 9) = false := by simp; omega
  have bk5 : decide (5 ≤ k) = false := by simp; omega
  have bk8 : decide (k ≤ 8) = true := by simp; omega
  have bl10 : (k' == 10) = false := by simp; omega
  have bk10 : (k == 10) = false := by simp; omega
  clear hc
  go_enter Tryz.func117, Tryz.ntmps117
  go_wp2_with fail
  go_at_call 113
  refine (rmay_any _ _ _ _).mono ?_
  rintro e w1 ⟨rfl, hb1⟩
  rw [hm]
  obtain ⟨d0, d1, d2⟩ := ((fb_new2 w _ nm' k' g').on hb1).cells
  go_wp2_with fail
  go_at_call 113
  refine (rmay_any _ _ _ _).mono ?_
  rintro e w2 ⟨rfl, hb2⟩
  rw [hm']
  go_wp2_with fail
  refine reg_begin (by kernel_rfl) (fun w0r hx0r hHeld => ?_)
  have hF0 : FB w0r w.heap.size nm k g := ((((fb_new w nm k g).alloc _).on hb1).on hb2).on hx0r
  have hF0' : FB w0r (w.heap.size + 1) nm' k' g' := (((fb_new2 w _ nm' k' g').on hb1).on hb2).on hx0r
  have q0 : ∀ w', Ext w0r w' → w'.cell? ⟨w.heap.size, 0, none⟩ = some (.string nm) := fun w' h => (hF0.on h).cells.1
  have q1 : ∀ w', Ext w0r w' → w'.cell? ⟨w.heap.size, 1, none⟩ = some (.int .i64 k) := fun w' h => (hF0.on h).cells.2.1
  have q2 : ∀ w', Ext w0r w' → w'.cell? ⟨w.heap.size, 2, none⟩ = some (.int .i64 g) := fun w' h => (hF0.on h).cells.2.2
  have p0 : ∀ w', Ext w0r w' → w'.cell? ⟨w.heap.size + 1, 0, none⟩ = some (.string nm') := fun w' h => (hF0'.on h).cells.1
  have p1 : ∀ w', Ext w0r w' → w'.cell? ⟨w.heap.size + 1, 1, none⟩ = some (.int .i64 k') := fun w' h => (hF0'.on h).cells.2.1
  have p2 : ∀ w', Ext w0r w' → w'.cell? ⟨w.heap.size + 1, 2, none⟩ = some (.int .i64 g') := fun w' h => (hF0'.on h).cells.2.2
  refine reg_take 0 (v := ?ve0) at0 (by kernel_rfl) (by kernel_rfl) (by kernel_rfl) (by rfl) ?hye0 hHeld ?reste0
  case hye0 => (intro w' hSw; go_simp; try with_reducible rfl)
  try simp only [Act.put, List.setIfInBounds_toArray, List.set_cons_zero, List.set_cons_succ]
  refine reg_take 2 (v := ?ve2) (atS (atS at0)) (by kernel_rfl) (by kernel_rfl) (by kernel_rfl) (by rfl) ?hye2 hHeld ?reste2
  case hye2 => (intro w' hSw; go_simp; try with_reducible rfl)
  try simp only [Act.put, List.setIfInBounds_toArray, List.set_cons_zero, List.set_cons_succ]
  refine wpAnyH_ready (rs := [1]) (by kernel_rfl) (by simp) ?_
  refine AllReadyH.cons (atS at0) (fun K hK => ?_) AllReadyH.nil
  go_simp
  go_at_call 76
  refine (rlong_any _ _ _ _).mono ?_
  rintro e w3 ⟨rfl, hb3⟩
  go_wp2_with fail
  refine hK.out _ _ hb3 (fun hHeld => ?_)
  clear hK K
  try simp only [Act.put, List.setIfInBounds_toArray, List.set_cons_zero, List.set_cons_succ]
  refine reg_on hb3 (fun hHeld => ?_)
  refine wpAnyH_ready (rs := [3]) (by kernel_rfl) (by simp) ?_
  refine AllReadyH.cons (atS (atS (atS at0))) (fun K hK => ?_) AllReadyH.nil
  go_simp
  go_at_call 76
  refine (rlong_any _ _ _ _).mono ?_
  rintro e w4 ⟨rfl, hb4⟩
  go_wp2_with fail
  refine hK.out _ _ hb4 (fun hHeld => ?_)
  clear hK K
  try simp only [Act.put, List.setIfInBounds_toArray, List.set_cons_zero, List.set_cons_succ]
  refine reg_on hb4 (fun hHeld => ?_)
  refine reg_take 4 (v := ?ve4) (atS (atS (atS (atS at0)))) (by kernel_rfl) (by kernel_rfl) (by kernel_rfl) (by rfl) ?hye4 hHeld ?reste4
  case hye4 => (intro w' hSw; go_simp; try with_reducible rfl)
  try simp only [Act.put, List.setIfInBounds_toArray, List.set_cons_zero, List.set_cons_succ]
  refine reg_take 5 (v := ?ve5) (atS5 at0) (by kernel_rfl) (by kernel_rfl) (by kernel_rfl) (by rfl) ?hye5 hHeld ?reste5
  case hye5 => (intro w' hSw; go_simp; try with_reducible rfl)
  try simp only [Act.put, List.setIfInBounds_toArray, List.set_cons_zero, List.set_cons_succ]
  refine wpAnyH_done (by kernel_rfl) ?_ _
  refine NoPanic.normal ?_
  clear q0 q1 q2 p0 p1 p2
  obtain ⟨c0, c1, c2⟩ := ((hF0.on hb3).on hb4).cells
  obtain ⟨d0', d1', d2'⟩ := ((hF0'.on hb3).on hb4).cells
  have hbb : Below w.heap.size w w4 := Bt (Bt (Bt (Bt (Bt (Ba (B1 _ _) _) hb1) hb2) hx0r) hb3) hb4
  clear hb1 hb2 hx0r hb3 hb4 hF0 hF0' d0 d1 d2
  go_wp2_with fail
  go_ret
  exact ⟨rfl, hbb⟩
set_option maxHeartbeats 2000000 in
theorem rcasts_L5 (nm nm' : ByteArray) (k g k' g' : Int) (w : World) (hm : mayF k g = true) (hm' : mayF k' g' = true) (hc : k = 9 ∧ k' ≤ 8) :
    Calls Tryz.prog 117 #[.agg #[.string nm, .int .i64 k, .int .i64 g], .agg #[.string nm', .int .i64 k', .int .i64 g']] w fun e w' => e = .returned (.bool (decide (longF k g < longF k' g') || decide (k' = 1))) ∧ Below w.heap.size w w' := by
  have beq : (k == k') = false := by simp; omega
  have bk4 : decide (k ≤ 4) = false := by simp; omega
  have bk9 : (k == 9) = true := by simp; omega
  have bl8 : decide (k' ≤ 8) = true := by simp; omega
  clear hc
  have hq : (decide (longF k g < longF k' g') || decide (k' = 1)) = if decide (longF k g < longF k' g') then true else (k' == 1) := by
    cases decide (longF k g < longF k' g') <;> simp
    rfl
  rw [hq]
  by_cases hmo : decide (longF k g < longF k' g') = true
  · rw [if_pos hmo]
    go_enter Tryz.func117, Tryz.ntmps117
    go_wp2_with fail
    go_at_call 113
    refine (rmay_any _ _ _ _).mono ?_
    rintro e w1 ⟨rfl, hb1⟩
    rw [hm]
    obtain ⟨d0, d1, d2⟩ := ((fb_new2 w _ nm' k' g').on hb1).cells
    go_wp2_with fail
    go_at_call 113
    refine (rmay_any _ _ _ _).mono ?_
    rintro e w2 ⟨rfl, hb2⟩
    rw [hm']
    go_wp2_with fail
    refine reg_begin (by kernel_rfl) (fun w0r hx0r hHeld => ?_)
    have hF0 : FB w0r w.heap.size nm k g := ((((fb_new w nm k g).alloc _).on hb1).on hb2).on hx0r
    have hF0' : FB w0r (w.heap.size + 1) nm' k' g' := (((fb_new2 w _ nm' k' g').on hb1).on hb2).on hx0r
    have q0 : ∀ w', Ext w0r w' → w'.cell? ⟨w.heap.size, 0, none⟩ = some (.string nm) := fun w' h => (hF0.on h).cells.1
    have q1 : ∀ w', Ext w0r w' → w'.cell? ⟨w.heap.size, 1, none⟩ = some (.int .i64 k) := fun w' h => (hF0.on h).cells.2.1
    have q2 : ∀ w', Ext w0r w' → w'.cell? ⟨w.heap.size, 2, none⟩ = some (.int .i64 g) := fun w' h => (hF0.on h).cells.2.2
    have p0 : ∀ w', Ext w0r w' → w'.cell? ⟨w.heap.size + 1, 0, none⟩ = some (.string nm') := fun w' h => (hF0'.on h).cells.1
    have p1 : ∀ w', Ext w0r w' → w'.cell? ⟨w.heap.size + 1, 1, none⟩ = some (.int .i64 k') := fun w' h => (hF0'.on h).cells.2.1
    have p2 : ∀ w', Ext w0r w' → w'.cell? ⟨w.heap.size + 1, 2, none⟩ = some (.int .i64 g') := fun w' h => (hF0'.on h).cells.2.2
    refine reg_take 0 (v := ?vf0) at0 (by kernel_rfl) (by kernel_rfl) (by kernel_rfl) (by rfl) ?hyf0 hHeld ?restf0
    case hyf0 => (intro w' hSw; go_simp; try with_reducible rfl)
    try simp only [Act.put, List.setIfInBounds_toArray, List.set_cons_zero, List.set_cons_succ]
    refine reg_take 2 (v := ?vf2) (atS (atS at0)) (by kernel_rfl) (by kernel_rfl) (by kernel_rfl) (by rfl) ?hyf2 hHeld ?restf2
    case hyf2 => (intro w' hSw; go_simp; try with_reducible rfl)
    try simp only [Act.put, List.setIfInBounds_toArray, List.set_cons_zero, List.set_cons_succ]
    refine wpAnyH_ready (rs := [1]) (by kernel_rfl) (by simp) ?_
    refine AllReadyH.cons (atS at0) (fun K hK => ?_) AllReadyH.nil
    go_simp
    go_at_call 76
    refine (rlong_any _ _ _ _).mono ?_
    rintro e w3 ⟨rfl, hb3⟩
    go_wp2_with fail
    refine hK.out _ _ hb3 (fun hHeld => ?_)
    clear hK K
    try simp only [Act.put, List.setIfInBounds_toArray, List.set_cons_zero, List.set_cons_succ]
    refine reg_on hb3 (fun hHeld => ?_)
    refine wpAnyH_ready (rs := [3]) (by kernel_rfl) (by simp) ?_
    refine AllReadyH.cons (atS (atS (atS at0))) (fun K hK => ?_) AllReadyH.nil
    go_simp
    go_at_call 76
    refine (rlong_any _ _ _ _).mono ?_
    rintro e w4 ⟨rfl, hb4⟩
    go_wp2_with fail
    refine hK.out _ _ hb4 (fun hHeld => ?_)
    clear hK K
    try simp only [Act.put, List.setIfInBounds_toArray, List.set_cons_zero, List.set_cons_succ]
    refine reg_on hb4 (fun hHeld => ?_)
    refine reg_take 4 (v := ?vf4) (atS (atS (atS (atS at0)))) (by kernel_rfl) (by kernel_rfl) (by kernel_rfl) (by rfl) ?hyf4 hHeld ?restf4
    case hyf4 => (intro w' hSw; go_simp; try with_reducible rfl)
    try simp only [Act.put, List.setIfInBounds_toArray, List.set_cons_zero, List.set_cons_succ]
    refine reg_take 5 (v := ?vf5) (atS5 at0) (by kernel_rfl) (by kernel_rfl) (by kernel_rfl) (by rfl) ?hyf5 hHeld ?restf5
    case hyf5 => (intro w' hSw; go_simp; try with_reducible rfl)
    try simp only [Act.put, List.setIfInBounds_toArray, List.set_cons_zero, List.set_cons_succ]
    refine wpAnyH_done (by kernel_rfl) ?_ _
    refine NoPanic.normal ?_
    clear q0 q1 q2 p0 p1 p2
    obtain ⟨c0, c1, c2⟩ := ((hF0.on hb3).on hb4).cells
    obtain ⟨d0', d1', d2'⟩ := ((hF0'.on hb3).on hb4).cells
    have hbb : Below w.heap.size w w4 := Bt (Bt (Bt (Bt (Bt (Ba (B1 _ _) _) hb1) hb2) hx0r) hb3) hb4
    clear hb1 hb2 hx0r hb3 hb4 hF0 hF0' d0 d1 d2
    go_wp2_with fail
    go_ret
    exact ⟨rfl, hbb⟩
  · rw [if_neg hmo]
    have hmo : decide (longF k g < longF k' g') = false := by simpa using hmo
    go_enter Tryz.func117, Tryz.ntmps117
    go_wp2_with fail
    go_at_call 113
    refine (rmay_any _ _ _ _).mono ?_
    rintro e w1 ⟨rfl, hb1⟩
    rw [hm]
    obtain ⟨d0, d1, d2⟩ := ((fb_new2 w _ nm' k' g').on hb1).cells
    go_wp2_with fail
    go_at_call 113
    refine (rmay_any _ _ _ _).mono ?_
    rintro e w2 ⟨rfl, hb2⟩
    rw [hm']
    go_wp2_with fail
    refine reg_begin (by kernel_rfl) (fun w0r hx0r hHeld => ?_)
    have hF0 : FB w0r w.heap.size nm k g := ((((fb_new w nm k g).alloc _).on hb1).on hb2).on hx0r
    have hF0' : FB w0r (w.heap.size + 1) nm' k' g' := (((fb_new2 w _ nm' k' g').on hb1).on hb2).on hx0r
    have q0 : ∀ w', Ext w0r w' → w'.cell? ⟨w.heap.size, 0, none⟩ = some (.string nm) := fun w' h => (hF0.on h).cells.1
    have q1 : ∀ w', Ext w0r w' → w'.cell? ⟨w.heap.size, 1, none⟩ = some (.int .i64 k) := fun w' h => (hF0.on h).cells.2.1
    have q2 : ∀ w', Ext w0r w' → w'.cell? ⟨w.heap.size, 2, none⟩ = some (.int .i64 g) := fun w' h => (hF0.on h).cells.2.2
    have p0 : ∀ w', Ext w0r w' → w'.cell? ⟨w.heap.size + 1, 0, none⟩ = some (.string nm') := fun w' h => (hF0'.on h).cells.1
    have p1 : ∀ w', Ext w0r w' → w'.cell? ⟨w.heap.size + 1, 1, none⟩ = some (.int .i64 k') := fun w' h => (hF0'.on h).cells.2.1
    have p2 : ∀ w', Ext w0r w' → w'.cell? ⟨w.heap.size + 1, 2, none⟩ = some (.int .i64 g') := fun w' h => (hF0'.on h).cells.2.2
    refine reg_take 0 (v := ?vg0) at0 (by kernel_rfl) (by kernel_rfl) (by kernel_rfl) (by rfl) ?hyg0 hHeld ?restg0
    case hyg0 => (intro w' hSw; go_simp; try with_reducible rfl)
    try simp only [Act.put, List.setIfInBounds_toArray, List.set_cons_zero, List.set_cons_succ]
    refine reg_take 2 (v := ?vg2) (atS (atS at0)) (by kernel_rfl) (by kernel_rfl) (by kernel_rfl) (by rfl) ?hyg2 hHeld ?restg2
    case hyg2 => (intro w' hSw; go_simp; try with_reducible rfl)
    try simp only [Act.put, List.setIfInBounds_toArray, List.set_cons_zero, List.set_cons_succ]
    refine wpAnyH_ready (rs := [1]) (by kernel_rfl) (by simp) ?_
    refine AllReadyH.cons (atS at0) (fun K hK => ?_) AllReadyH.nil
    go_simp
    go_at_call 76
    refine (rlong_any _ _ _ _).mono ?_
    rintro e w3 ⟨rfl, hb3⟩
    go_wp2_with fail
    refine hK.out _ _ hb3 (fun hHeld => ?_)
    clear hK K
    try simp only [Act.put, List.setIfInBounds_toArray, List.set_cons_zero, List.set_cons_succ]
    refine reg_on hb3 (fun hHeld => ?_)
    refine wpAnyH_ready (rs := [3]) (by kernel_rfl) (by simp) ?_
    refine AllReadyH.cons (atS (atS (atS at0))) (fun K hK => ?_) AllReadyH.nil
    go_simp
    go_at_call 76
    refine (rlong_any _ _ _ _).mono ?_
    rintro e w4 ⟨rfl, hb4⟩
    go_wp2_with fail
    refine hK.out _ _ hb4 (fun hHeld => ?_)
    clear hK K
    try simp only [Act.put, List.setIfInBounds_toArray, List.set_cons_zero, List.set_cons_succ]
    refine reg_on hb4 (fun hHeld => ?_)
    refine reg_take 4 (v := ?vg4) (atS (atS (atS (atS at0)))) (by kernel_rfl) (by kernel_rfl) (by kernel_rfl) (by rfl) ?hyg4 hHeld ?restg4
    case hyg4 => (intro w' hSw; go_simp; try with_reducible rfl)
    try simp only [Act.put, List.setIfInBounds_toArray, List.set_cons_zero, List.set_cons_succ]
    refine reg_take 5 (v := ?vg5) (atS5 at0) (by kernel_rfl) (by kernel_rfl) (by kernel_rfl) (by rfl) ?hyg5 hHeld ?restg5
    case hyg5 => (intro w' hSw; go_simp; try with_reducible rfl)
    try simp only [Act.put, List.setIfInBounds_toArray, List.set_cons_zero, List.set_cons_succ]
    refine wpAnyH_done (by kernel_rfl) ?_ _
    refine NoPanic.normal ?_
    clear q0 q1 q2 p0 p1 p2
    obtain ⟨c0, c1, c2⟩ := ((hF0.on hb3).on hb4).cells
    obtain ⟨d0', d1', d2'⟩ := ((hF0'.on hb3).on hb4).cells
    have hbb : Below w.heap.size w w4 := Bt (Bt (Bt (Bt (Bt (Ba (B1 _ _) _) hb1) hb2) hx0r) hb3) hb4
    clear hb1 hb2 hx0r hb3 hb4 hF0 hF0' d0 d1 d2
    go_wp2_with fail
    go_ret
    exact ⟨rfl, hbb⟩
set_option maxHeartbeats 2000000 in
theorem rcasts_L7 (nm nm' : ByteArray) (k g k' g' : Int) (w : World) (hm : mayF k g = true) (hm' : mayF k' g' = true) (hc : k = 9 ∧ 9 < k') :
    Calls Tryz.prog 117 #[.agg #[.string nm, .int .i64 k, .int .i64 g], .agg #[.string nm', .int .i64 k', .int .i64 g']] w fun e w' => e = .returned (.bool (false)) ∧ Below w.heap.size w w' := by
  have beq : (k == k') = false := by simp; omega
  have bk4 : decide (k ≤ 4) = false := by simp; omega
  have bk9 : (k == 9) = true := by simp; omega
  have bl8 : decide (k' ≤ 8) = false := by simp; omega
  have bk5 : decide (5 ≤ k) = true := by simp; omega
  have bk8 : decide (k ≤ 8) = false := by simp; omega
  have bk10 : (k == 10) = false := by simp; omega
  clear hc
  go_enter Tryz.func117, Tryz.ntmps117
  go_wp2_with fail
  go_at_call 113
  refine (rmay_any _ _ _ _).mono ?_
  rintro e w1 ⟨rfl, hb1⟩
  rw [hm]
  obtain ⟨d0, d1, d2⟩ := ((fb_new2 w _ nm' k' g').on hb1).cells
  go_wp2_with fail
  go_at_call 113
  refine (rmay_any _ _ _ _).mono ?_
  rintro e w2 ⟨rfl, hb2⟩
  rw [hm']
  go_wp2_with fail
  refine reg_begin (by kernel_rfl) (fun w0r hx0r hHeld => ?_)
  have hF0 : FB w0r w.heap.size nm k g := ((((fb_new w nm k g).alloc _).on hb1).on hb2).on hx0r
  have hF0' : FB w0r (w.heap.size + 1) nm' k' g' := (((fb_new2 w _ nm' k' g').on hb1).on hb2).on hx0r
  have q0 : ∀ w', Ext w0r w' → w'.cell? ⟨w.heap.size, 0, none⟩ = some (.string nm) := fun w' h => (hF0.on h).cells.1
  have q1 : ∀ w', Ext w0r w' → w'.cell? ⟨w.heap.size, 1, none⟩ = some (.int .i64 k) := fun w' h => (hF0.on h).cells.2.1
  have q2 : ∀ w', Ext w0r w' → w'.cell? ⟨w.heap.size, 2, none⟩ = some (.int .i64 g) := fun w' h => (hF0.on h).cells.2.2
  have p0 : ∀ w', Ext w0r w' → w'.cell? ⟨w.heap.size + 1, 0, none⟩ = some (.string nm') := fun w' h => (hF0'.on h).cells.1
  have p1 : ∀ w', Ext w0r w' → w'.cell? ⟨w.heap.size + 1, 1, none⟩ = some (.int .i64 k') := fun w' h => (hF0'.on h).cells.2.1
  have p2 : ∀ w', Ext w0r w' → w'.cell? ⟨w.heap.size + 1, 2, none⟩ = some (.int .i64 g') := fun w' h => (hF0'.on h).cells.2.2
  refine reg_take 0 (v := ?vh0) at0 (by kernel_rfl) (by kernel_rfl) (by kernel_rfl) (by rfl) ?hyh0 hHeld ?resth0
  case hyh0 => (intro w' hSw; go_simp; try with_reducible rfl)
  try simp only [Act.put, List.setIfInBounds_toArray, List.set_cons_zero, List.set_cons_succ]
  refine reg_take 2 (v := ?vh2) (atS (atS at0)) (by kernel_rfl) (by kernel_rfl) (by kernel_rfl) (by rfl) ?hyh2 hHeld ?resth2
  case hyh2 => (intro w' hSw; go_simp; try with_reducible rfl)
  try simp only [Act.put, List.setIfInBounds_toArray, List.set_cons_zero, List.set_cons_succ]
  refine wpAnyH_ready (rs := [1]) (by kernel_rfl) (by simp) ?_
  refine AllReadyH.cons (atS at0) (fun K hK => ?_) AllReadyH.nil
  go_simp
  go_at_call 76
  refine (rlong_any _ _ _ _).mono ?_
  rintro e w3 ⟨rfl, hb3⟩
  go_wp2_with fail
  refine hK.out _ _ hb3 (fun hHeld => ?_)
  clear hK K
  try simp only [Act.put, List.setIfInBounds_toArray, List.set_cons_zero, List.set_cons_succ]
  refine reg_on hb3 (fun hHeld => ?_)
  refine wpAnyH_ready (rs := [3]) (by kernel_rfl) (by simp) ?_
  refine AllReadyH.cons (atS (atS (atS at0))) (fun K hK => ?_) AllReadyH.nil
  go_simp
  go_at_call 76
  refine (rlong_any _ _ _ _).mono ?_
  rintro e w4 ⟨rfl, hb4⟩
  go_wp2_with fail
  refine hK.out _ _ hb4 (fun hHeld => ?_)
  clear hK K
  try simp only [Act.put, List.setIfInBounds_toArray, List.set_cons_zero, List.set_cons_succ]
  refine reg_on hb4 (fun hHeld => ?_)
  refine reg_take 4 (v := ?vh4) (atS (atS (atS (atS at0)))) (by kernel_rfl) (by kernel_rfl) (by kernel_rfl) (by rfl) ?hyh4 hHeld ?resth4
  case hyh4 => (intro w' hSw; go_simp; try with_reducible rfl)
  try simp only [Act.put, List.setIfInBounds_toArray, List.set_cons_zero, List.set_cons_succ]
  refine reg_take 5 (v := ?vh5) (atS5 at0) (by kernel_rfl) (by kernel_rfl) (by kernel_rfl) (by rfl) ?hyh5 hHeld ?resth5
  case hyh5 => (intro w' hSw; go_simp; try with_reducible rfl)
  try simp only [Act.put, List.setIfInBounds_toArray, List.set_cons_zero, List.set_cons_succ]
  refine wpAnyH_done (by kernel_rfl) ?_ _
  refine NoPanic.normal ?_
  clear q0 q1 q2 p0 p1 p2
  obtain ⟨c0, c1, c2⟩ := ((hF0.on hb3).on hb4).cells
  obtain ⟨d0', d1', d2'⟩ := ((hF0'.on hb3).on hb4).cells
  have hbb : Below w.heap.size w w4 := Bt (Bt (Bt (Bt (Bt (Ba (B1 _ _) _) hb1) hb2) hx0r) hb3) hb4
  clear hb1 hb2 hx0r hb3 hb4 hF0 hF0' d0 d1 d2
  go_wp2_with fail
  go_ret
  exact ⟨rfl, hbb⟩
set_option maxHeartbeats 2000000 in
theorem rcasts_L8 (nm nm' : ByteArray) (k g k' g' : Int) (w : World) (hm : mayF k g = true) (hm' : mayF k' g' = true) (hc : k ≠ k' ∧ 5 ≤ k ∧ k ≤ 8 ∧ 5 ≤ k' ∧ k' ≤ 8) :
    Calls Tryz.prog 117 #[.agg #[.string nm, .int .i64 k, .int .i64 g], .agg #[.string nm', .int .i64 k', .int .i64 g']] w fun e w' => e = .returned (.bool (decide (longF k g < longF k' g'))) ∧ Below w.heap.size w w' := by
  have beq : (k == k') = false := by simp; omega
  have bk4 : decide (k ≤ 4) = false := by simp; omega
  have bk9 : (k == 9) = false := by simp; omega
  have bk5 : decide (5 ≤ k) = true := by simp; omega
  have bk8 : decide (k ≤ 8) = true := by simp; omega
  have bl5 : decide (5 ≤ k') = true := by simp; omega
  have bl8 : decide (k' ≤ 8) = true := by simp; omega
  clear hc
  go_enter Tryz.func117, Tryz.ntmps117
  go_wp2_with fail
  go_at_call 113
  refine (rmay_any _ _ _ _).mono ?_
  rintro e w1 ⟨rfl, hb1⟩
  rw [hm]
  obtain ⟨d0, d1, d2⟩ := ((fb_new2 w _ nm' k' g').on hb1).cells
  go_wp2_with fail
  go_at_call 113
  refine (rmay_any _ _ _ _).mono ?_
  rintro e w2 ⟨rfl, hb2⟩
  rw [hm']
  go_wp2_with fail
  refine reg_begin (by kernel_rfl) (fun w0r hx0r hHeld => ?_)
  have hF0 : FB w0r w.heap.size nm k g := ((((fb_new w nm k g).alloc _).on hb1).on hb2).on hx0r
  have hF0' : FB w0r (w.heap.size + 1) nm' k' g' := (((fb_new2 w _ nm' k' g').on hb1).on hb2).on hx0r
  have q0 : ∀ w', Ext w0r w' → w'.cell? ⟨w.heap.size, 0, none⟩ = some (.string nm) := fun w' h => (hF0.on h).cells.1
  have q1 : ∀ w', Ext w0r w' → w'.cell? ⟨w.heap.size, 1, none⟩ = some (.int .i64 k) := fun w' h => (hF0.on h).cells.2.1
  have q2 : ∀ w', Ext w0r w' → w'.cell? ⟨w.heap.size, 2, none⟩ = some (.int .i64 g) := fun w' h => (hF0.on h).cells.2.2
  have p0 : ∀ w', Ext w0r w' → w'.cell? ⟨w.heap.size + 1, 0, none⟩ = some (.string nm') := fun w' h => (hF0'.on h).cells.1
  have p1 : ∀ w', Ext w0r w' → w'.cell? ⟨w.heap.size + 1, 1, none⟩ = some (.int .i64 k') := fun w' h => (hF0'.on h).cells.2.1
  have p2 : ∀ w', Ext w0r w' → w'.cell? ⟨w.heap.size + 1, 2, none⟩ = some (.int .i64 g') := fun w' h => (hF0'.on h).cells.2.2
  refine reg_take 0 (v := ?vi0) at0 (by kernel_rfl) (by kernel_rfl) (by kernel_rfl) (by rfl) ?hyi0 hHeld ?resti0
  case hyi0 => (intro w' hSw; go_simp; try with_reducible rfl)
  try simp only [Act.put, List.setIfInBounds_toArray, List.set_cons_zero, List.set_cons_succ]
  refine reg_take 2 (v := ?vi2) (atS (atS at0)) (by kernel_rfl) (by kernel_rfl) (by kernel_rfl) (by rfl) ?hyi2 hHeld ?resti2
  case hyi2 => (intro w' hSw; go_simp; try with_reducible rfl)
  try simp only [Act.put, List.setIfInBounds_toArray, List.set_cons_zero, List.set_cons_succ]
  refine wpAnyH_ready (rs := [1]) (by kernel_rfl) (by simp) ?_
  refine AllReadyH.cons (atS at0) (fun K hK => ?_) AllReadyH.nil
  go_simp
  go_at_call 76
  refine (rlong_any _ _ _ _).mono ?_
  rintro e w3 ⟨rfl, hb3⟩
  go_wp2_with fail
  refine hK.out _ _ hb3 (fun hHeld => ?_)
  clear hK K
  try simp only [Act.put, List.setIfInBounds_toArray, List.set_cons_zero, List.set_cons_succ]
  refine reg_on hb3 (fun hHeld => ?_)
  refine wpAnyH_ready (rs := [3]) (by kernel_rfl) (by simp) ?_
  refine AllReadyH.cons (atS (atS (atS at0))) (fun K hK => ?_) AllReadyH.nil
  go_simp
  go_at_call 76
  refine (rlong_any _ _ _ _).mono ?_
  rintro e w4 ⟨rfl, hb4⟩
  go_wp2_with fail
  refine hK.out _ _ hb4 (fun hHeld => ?_)
  clear hK K
  try simp only [Act.put, List.setIfInBounds_toArray, List.set_cons_zero, List.set_cons_succ]
  refine reg_on hb4 (fun hHeld => ?_)
  refine reg_take 4 (v := ?vi4) (atS (atS (atS (atS at0)))) (by kernel_rfl) (by kernel_rfl) (by kernel_rfl) (by rfl) ?hyi4 hHeld ?resti4
  case hyi4 => (intro w' hSw; go_simp; try with_reducible rfl)
  try simp only [Act.put, List.setIfInBounds_toArray, List.set_cons_zero, List.set_cons_succ]
  refine reg_take 5 (v := ?vi5) (atS5 at0) (by kernel_rfl) (by kernel_rfl) (by kernel_rfl) (by rfl) ?hyi5 hHeld ?resti5
  case hyi5 => (intro w' hSw; go_simp; try with_reducible rfl)
  try simp only [Act.put, List.setIfInBounds_toArray, List.set_cons_zero, List.set_cons_succ]
  refine wpAnyH_done (by kernel_rfl) ?_ _
  refine NoPanic.normal ?_
  clear q0 q1 q2 p0 p1 p2
  obtain ⟨c0, c1, c2⟩ := ((hF0.on hb3).on hb4).cells
  obtain ⟨d0', d1', d2'⟩ := ((hF0'.on hb3).on hb4).cells
  have hbb : Below w.heap.size w w4 := Bt (Bt (Bt (Bt (Bt (Ba (B1 _ _) _) hb1) hb2) hx0r) hb3) hb4
  clear hb1 hb2 hx0r hb3 hb4 hF0 hF0' d0 d1 d2
  go_wp2_with fail
  go_ret
  exact ⟨rfl, hbb⟩
set_option maxHeartbeats 2000000 in
theorem rcasts_L9 (nm nm' : ByteArray) (k g k' g' : Int) (w : World) (hm : mayF k g = true) (hm' : mayF k' g' = true) (hc : 5 ≤ k ∧ k ≤ 8 ∧ k' < 5) :
    Calls Tryz.prog 117 #[.agg #[.string nm, .int .i64 k, .int .i64 g], .agg #[.string nm', .int .i64 k', .int .i64 g']] w fun e w' => e = .returned (.bool (false)) ∧ Below w.heap.size w w' := by
  have beq : (k == k') = false := by simp; omega
  have bk4 : decide (k ≤ 4) = false := by simp; omega
  have bk9 : (k == 9) = false := by simp; omega
  have bk5 : decide (5 ≤ k) = true := by simp; omega
  have bk8 : decide (k ≤ 8) = true := by simp; omega
  have bl5 : decide (5 ≤ k') = false := by simp; omega
  have bl10 : (k' == 10) = false := by simp; omega
  have bk10 : (k == 10) = false := by simp; omega
  clear hc
  go_enter Tryz.func117, Tryz.ntmps117
  go_wp2_with fail
  go_at_call 113
  refine (rmay_any _ _ _ _).mono ?_
  rintro e w1 ⟨rfl, hb1⟩
  rw [hm]
  obtain ⟨d0, d1, d2⟩ := ((fb_new2 w _ nm' k' g').on hb1).cells
  go_wp2_with fail
  go_at_call 113
  refine (rmay_any _ _ _ _).mono ?_
  rintro e w2 ⟨rfl, hb2⟩
  rw [hm']
  go_wp2_with fail
  refine reg_begin (by kernel_rfl) (fun w0r hx0r hHeld => ?_)
  have hF0 : FB w0r w.heap.size nm k g := ((((fb_new w nm k g).alloc _).on hb1).on hb2).on hx0r
  have hF0' : FB w0r (w.heap.size + 1) nm' k' g' := (((fb_new2 w _ nm' k' g').on hb1).on hb2).on hx0r
  have q0 : ∀ w', Ext w0r w' → w'.cell? ⟨w.heap.size, 0, none⟩ = some (.string nm) := fun w' h => (hF0.on h).cells.1
  have q1 : ∀ w', Ext w0r w' → w'.cell? ⟨w.heap.size, 1, none⟩ = some (.int .i64 k) := fun w' h => (hF0.on h).cells.2.1
  have q2 : ∀ w', Ext w0r w' → w'.cell? ⟨w.heap.size, 2, none⟩ = some (.int .i64 g) := fun w' h => (hF0.on h).cells.2.2
  have p0 : ∀ w', Ext w0r w' → w'.cell? ⟨w.heap.size + 1, 0, none⟩ = some (.string nm') := fun w' h => (hF0'.on h).cells.1
  have p1 : ∀ w', Ext w0r w' → w'.cell? ⟨w.heap.size + 1, 1, none⟩ = some (.int .i64 k') := fun w' h => (hF0'.on h).cells.2.1
  have p2 : ∀ w', Ext w0r w' → w'.cell? ⟨w.heap.size + 1, 2, none⟩ = some (.int .i64 g') := fun w' h => (hF0'.on h).cells.2.2
  refine reg_take 0 (v := ?vj0) at0 (by kernel_rfl) (by kernel_rfl) (by kernel_rfl) (by rfl) ?hyj0 hHeld ?restj0
  case hyj0 => (intro w' hSw; go_simp; try with_reducible rfl)
  try simp only [Act.put, List.setIfInBounds_toArray, List.set_cons_zero, List.set_cons_succ]
  refine reg_take 2 (v := ?vj2) (atS (atS at0)) (by kernel_rfl) (by kernel_rfl) (by kernel_rfl) (by rfl) ?hyj2 hHeld ?restj2
  case hyj2 => (intro w' hSw; go_simp; try with_reducible rfl)
  try simp only [Act.put, List.setIfInBounds_toArray, List.set_cons_zero, List.set_cons_succ]
  refine wpAnyH_ready (rs := [1]) (by kernel_rfl) (by simp) ?_
  refine AllReadyH.cons (atS at0) (fun K hK => ?_) AllReadyH.nil
  go_simp
  go_at_call 76
  refine (rlong_any _ _ _ _).mono ?_
  rintro e w3 ⟨rfl, hb3⟩
  go_wp2_with fail
  refine hK.out _ _ hb3 (fun hHeld => ?_)
  clear hK K
  try simp only [Act.put, List.setIfInBounds_toArray, List.set_cons_zero, List.set_cons_succ]
  refine reg_on hb3 (fun hHeld => ?_)
  refine wpAnyH_ready (rs := [3]) (by kernel_rfl) (by simp) ?_
  refine AllReadyH.cons (atS (atS (atS at0))) (fun K hK => ?_) AllReadyH.nil
  go_simp
  go_at_call 76
  refine (rlong_any _ _ _ _).mono ?_
  rintro e w4 ⟨rfl, hb4⟩
  go_wp2_with fail
  refine hK.out _ _ hb4 (fun hHeld => ?_)
  clear hK K
  try simp only [Act.put, List.setIfInBounds_toArray, List.set_cons_zero, List.set_cons_succ]
  refine reg_on hb4 (fun hHeld => ?_)
  refine reg_take 4 (v := ?vj4) (atS (atS (atS (atS at0)))) (by kernel_rfl) (by kernel_rfl) (by kernel_rfl) (by rfl) ?hyj4 hHeld ?restj4
  case hyj4 => (intro w' hSw; go_simp; try with_reducible rfl)
  try simp only [Act.put, List.setIfInBounds_toArray, List.set_cons_zero, List.set_cons_succ]
  refine reg_take 5 (v := ?vj5) (atS5 at0) (by kernel_rfl) (by kernel_rfl) (by kernel_rfl) (by rfl) ?hyj5 hHeld ?restj5
  case hyj5 => (intro w' hSw; go_simp; try with_reducible rfl)
  try simp only [Act.put, List.setIfInBounds_toArray, List.set_cons_zero, List.set_cons_succ]
  refine wpAnyH_done (by kernel_rfl) ?_ _
  refine NoPanic.normal ?_
  clear q0 q1 q2 p0 p1 p2
  obtain ⟨c0, c1, c2⟩ := ((hF0.on hb3).on hb4).cells
  obtain ⟨d0', d1', d2'⟩ := ((hF0'.on hb3).on hb4).cells
  have hbb : Below w.heap.size w w4 := Bt (Bt (Bt (Bt (Bt (Ba (B1 _ _) _) hb1) hb2) hx0r) hb3) hb4
  clear hb1 hb2 hx0r hb3 hb4 hF0 hF0' d0 d1 d2
  go_wp2_with fail
  go_ret
  exact ⟨rfl, hbb⟩
set_option maxHeartbeats 2000000 in
theorem rcasts_L10 (nm nm' : ByteArray) (k g k' g' : Int) (w : World) (hm : mayF k g = true) (hm' : mayF k' g' = true) (hc : 5 ≤ k ∧ k ≤ 8 ∧ k' = 10) :
    Calls Tryz.prog 117 #[.agg #[.string nm, .int .i64 k, .int .i64 g], .agg #[.string nm', .int .i64 k', .int .i64 g']] w fun e w' => e = .returned (.bool (true)) ∧ Below w.heap.size w w' := by
  have beq : (k == k') = false := by simp; omega
  have bk4 : decide (k ≤ 4) = false := by simp; omega
  have bk9 : (k == 9) = false := by simp; omega
  have bk5 : decide (5 ≤ k) = true := by simp; omega
  have bk8 : decide (k ≤ 8) = true := by simp; omega
  have bl5 : decide (5 ≤ k') = true := by simp; omega
  have bl8 : decide (k' ≤ 8) = false := by simp; omega
  have bl10 : (k' == 10) = true := by simp; omega
  clear hc
  go_enter Tryz.func117, Tryz.ntmps117
  go_wp2_with fail
  go_at_call 113
  refine (rmay_any _ _ _ _).mono ?_
  rintro e w1 ⟨rfl, hb1⟩
  rw [hm]
  obtain ⟨d0, d1, d2⟩ := ((fb_new2 w _ nm' k' g').on hb1).cells
  go_wp2_with fail
  go_at_call 113
  refine (rmay_any _ _ _ _).mono ?_
  rintro e w2 ⟨rfl, hb2⟩
  rw [hm']
  go_wp2_with fail
  refine reg_begin (by kernel_rfl) (fun w0r hx0r hHeld => ?_)
  have hF0 : FB w0r w.heap.size nm k g := ((((fb_new w nm k g).alloc _).on hb1).on hb2).on hx0r
  have hF0' : FB w0r (w.heap.size + 1) nm' k' g' := (((fb_new2 w _ nm' k' g').on hb1).on hb2).on hx0r
  have q0 : ∀ w', Ext w0r w' → w'.cell? ⟨w.heap.size, 0, none⟩ = some (.string nm) := fun w' h => (hF0.on h).cells.1
  have q1 : ∀ w', Ext w0r w' → w'.cell? ⟨w.heap.size, 1, none⟩ = some (.int .i64 k) := fun w' h => (hF0.on h).cells.2.1
  have q2 : ∀ w', Ext w0r w' → w'.cell? ⟨w.heap.size, 2, none⟩ = some (.int .i64 g) := fun w' h => (hF0.on h).cells.2.2
  have p0 : ∀ w', Ext w0r w' → w'.cell? ⟨w.heap.size + 1, 0, none⟩ = some (.string nm') := fun w' h => (hF0'.on h).cells.1
  have p1 : ∀ w', Ext w0r w' → w'.cell? ⟨w.heap.size + 1, 1, none⟩ = some (.int .i64 k') := fun w' h => (hF0'.on h).cells.2.1
  have p2 : ∀ w', Ext w0r w' → w'.cell? ⟨w.heap.size + 1, 2, none⟩ = some (.int .i64 g') := fun w' h => (hF0'.on h).cells.2.2
  refine reg_take 0 (v := ?vk0) at0 (by kernel_rfl) (by kernel_rfl) (by kernel_rfl) (by rfl) ?hyk0 hHeld ?restk0
  case hyk0 => (intro w' hSw; go_simp; try with_reducible rfl)
  try simp only [Act.put, List.setIfInBounds_toArray, List.set_cons_zero, List.set_cons_succ]
  refine reg_take 2 (v := ?vk2) (atS (atS at0)) (by kernel_rfl) (by kernel_rfl) (by kernel_rfl) (by rfl) ?hyk2 hHeld ?restk2
  case hyk2 => (intro w' hSw; go_simp; try with_reducible rfl)
  try simp only [Act.put, List.setIfInBounds_toArray, List.set_cons_zero, List.set_cons_succ]
  refine wpAnyH_ready (rs := [1]) (by kernel_rfl) (by simp) ?_
  refine AllReadyH.cons (atS at0) (fun K hK => ?_) AllReadyH.nil
  go_simp
  go_at_call 76
  refine (rlong_any _ _ _ _).mono ?_
  rintro e w3 ⟨rfl, hb3⟩
  go_wp2_with fail
  refine hK.out _ _ hb3 (fun hHeld => ?_)
  clear hK K
  try simp only [Act.put, List.setIfInBounds_toArray, List.set_cons_zero, List.set_cons_succ]
  refine reg_on hb3 (fun hHeld => ?_)
  refine wpAnyH_ready (rs := [3]) (by kernel_rfl) (by simp) ?_
  refine AllReadyH.cons (atS (atS (atS at0))) (fun K hK => ?_) AllReadyH.nil
  go_simp
  go_at_call 76
  refine (rlong_any _ _ _ _).mono ?_
  rintro e w4 ⟨rfl, hb4⟩
  go_wp2_with fail
  refine hK.out _ _ hb4 (fun hHeld => ?_)
  clear hK K
  try simp only [Act.put, List.setIfInBounds_toArray, List.set_cons_zero, List.set_cons_succ]
  refine reg_on hb4 (fun hHeld => ?_)
  refine reg_take 4 (v := ?vk4) (atS (atS (atS (atS at0)))) (by kernel_rfl) (by kernel_rfl) (by kernel_rfl) (by rfl) ?hyk4 hHeld ?restk4
  case hyk4 => (intro w' hSw; go_simp; try with_reducible rfl)
  try simp only [Act.put, List.setIfInBounds_toArray, List.set_cons_zero, List.set_cons_succ]
  refine reg_take 5 (v := ?vk5) (atS5 at0) (by kernel_rfl) (by kernel_rfl) (by kernel_rfl) (by rfl) ?hyk5 hHeld ?restk5
  case hyk5 => (intro w' hSw; go_simp; try with_reducible rfl)
  try simp only [Act.put, List.setIfInBounds_toArray, List.set_cons_zero, List.set_cons_succ]
  refine wpAnyH_done (by kernel_rfl) ?_ _
  refine NoPanic.normal ?_
  clear q0 q1 q2 p0 p1 p2
  obtain ⟨c0, c1, c2⟩ := ((hF0.on hb3).on hb4).cells
  obtain ⟨d0', d1', d2'⟩ := ((hF0'.on hb3).on hb4).cells
  have hbb : Below w.heap.size w w4 := Bt (Bt (Bt (Bt (Bt (Ba (B1 _ _) _) hb1) hb2) hx0r) hb3) hb4
  clear hb1 hb2 hx0r hb3 hb4 hF0 hF0' d0 d1 d2
  go_wp2_with fail
  go_ret
  exact ⟨rfl, hbb⟩
set_option maxHeartbeats 2000000 in
theorem rcasts_L11 (nm nm' : ByteArray) (k g k' g' : Int) (w : World) (hm : mayF k g = true) (hm' : mayF k' g' = true) (hc : 5 ≤ k ∧ k ≤ 8 ∧ 8 < k' ∧ k' ≠ 10) :
    Calls Tryz.prog 117 #[.agg #[.string nm, .int .i64 k, .int .i64 g], .agg #[.string nm', .int .i64 k', .int .i64 g']] w fun e w' => e = .returned (.bool (false)) ∧ Below w.heap.size w w' := by
  have beq : (k == k') = false := by simp; omega
  have bk4 : decide (k ≤ 4) = false := by simp; omega
  have bk9 : (k == 9) = false := by simp; omega
  have bk5 : decide (5 ≤ k) = true := by simp; omega
  have bk8 : decide (k ≤ 8) = true := by simp; omega
  have bl5 : decide (5 ≤ k') = true := by simp; omega
  have bl8 : decide (k' ≤ 8) = false := by simp; omega
  have bl10 : (k' == 10) = false := by simp; omega
  have bk10 : (k == 10) = false := by simp; omega
  clear hc
  go_enter Tryz.func117, Tryz.ntmps117
  go_wp2_with fail
  go_at_call 113
  refine (rmay_any _ _ _ _).mono ?_
  rintro e w1 ⟨rfl, hb1⟩
  rw [hm]
  obtain ⟨d0, d1, d2⟩ := ((fb_new2 w _ nm' k' g').on hb1).cells
  go_wp2_with fail
  go_at_call 113
  refine (rmay_any _ _ _ _).mono ?_
  rintro e w2 ⟨rfl, hb2⟩
  rw [hm']
  go_wp2_with fail
  refine reg_begin (by kernel_rfl) (fun w0r hx0r hHeld => ?_)
  have hF0 : FB w0r w.heap.size nm k g := ((((fb_new w nm k g).alloc _).on hb1).on hb2).on hx0r
  have hF0' : FB w0r (w.heap.size + 1) nm' k' g' := (((fb_new2 w _ nm' k' g').on hb1).on hb2).on hx0r
  have q0 : ∀ w', Ext w0r w' → w'.cell? ⟨w.heap.size, 0, none⟩ = some (.string nm) := fun w' h => (hF0.on h).cells.1
  have q1 : ∀ w', Ext w0r w' → w'.cell? ⟨w.heap.size, 1, none⟩ = some (.int .i64 k) := fun w' h => (hF0.on h).cells.2.1
  have q2 : ∀ w', Ext w0r w' → w'.cell? ⟨w.heap.size, 2, none⟩ = some (.int .i64 g) := fun w' h => (hF0.on h).cells.2.2
  have p0 : ∀ w', Ext w0r w' → w'.cell? ⟨w.heap.size + 1, 0, none⟩ = some (.string nm') := fun w' h => (hF0'.on h).cells.1
  have p1 : ∀ w', Ext w0r w' → w'.cell? ⟨w.heap.size + 1, 1, none⟩ = some (.int .i64 k') := fun w' h => (hF0'.on h).cells.2.1
  have p2 : ∀ w', Ext w0r w' → w'.cell? ⟨w.heap.size + 1, 2, none⟩ = some (.int .i64 g') := fun w' h => (hF0'.on h).cells.2.2
  refine reg_take 0 (v := ?vl0) at0 (by kernel_rfl) (by kernel_rfl) (by kernel_rfl) (by rfl) ?hyl0 hHeld ?restl0
  case hyl0 => (intro w' hSw; go_simp; try with_reducible rfl)
  try simp only [Act.put, List.setIfInBounds_toArray, List.set_cons_zero, List.set_cons_succ]
  refine reg_take 2 (v := ?vl2) (atS (atS at0)) (by kernel_rfl) (by kernel_rfl) (by kernel_rfl) (by rfl) ?hyl2 hHeld ?restl2
  case hyl2 => (intro w' hSw; go_simp; try with_reducible rfl)
  try simp only [Act.put, List.setIfInBounds_toArray, List.set_cons_zero, List.set_cons_succ]
  refine wpAnyH_ready (rs := [1]) (by kernel_rfl) (by simp) ?_
  refine AllReadyH.cons (atS at0) (fun K hK => ?_) AllReadyH.nil
  go_simp
  go_at_call 76
  refine (rlong_any _ _ _ _).mono ?_
  rintro e w3 ⟨rfl, hb3⟩
  go_wp2_with fail
  refine hK.out _ _ hb3 (fun hHeld => ?_)
  clear hK K
  try simp only [Act.put, List.setIfInBounds_toArray, List.set_cons_zero, List.set_cons_succ]
  refine reg_on hb3 (fun hHeld => ?_)
  refine wpAnyH_ready (rs := [3]) (by kernel_rfl) (by simp) ?_
  refine AllReadyH.cons (atS (atS (atS at0))) (fun K hK => ?_) AllReadyH.nil
  go_simp
  go_at_call 76
  refine (rlong_any _ _ _ _).mono ?_
  rintro e w4 ⟨rfl, hb4⟩
  go_wp2_with fail
  refine hK.out _ _ hb4 (fun hHeld => ?_)
  clear hK K
  try simp only [Act.put, List.setIfInBounds_toArray, List.set_cons_zero, List.set_cons_succ]
  refine reg_on hb4 (fun hHeld => ?_)
  refine reg_take 4 (v := ?vl4) (atS (atS (atS (atS at0)))) (by kernel_rfl) (by kernel_rfl) (by kernel_rfl) (by rfl) ?hyl4 hHeld ?restl4
  case hyl4 => (intro w' hSw; go_simp; try with_reducible rfl)
  try simp only [Act.put, List.setIfInBounds_toArray, List.set_cons_zero, List.set_cons_succ]
  refine reg_take 5 (v := ?vl5) (atS5 at0) (by kernel_rfl) (by kernel_rfl) (by kernel_rfl) (by rfl) ?hyl5 hHeld ?restl5
  case hyl5 => (intro w' hSw; go_simp; try with_reducible rfl)
  try simp only [Act.put, List.setIfInBounds_toArray, List.set_cons_zero, List.set_cons_succ]
  refine wpAnyH_done (by kernel_rfl) ?_ _
  refine NoPanic.normal ?_
  clear q0 q1 q2 p0 p1 p2
  obtain ⟨c0, c1, c2⟩ := ((hF0.on hb3).on hb4).cells
  obtain ⟨d0', d1', d2'⟩ := ((hF0'.on hb3).on hb4).cells
  have hbb : Below w.heap.size w w4 := Bt (Bt (Bt (Bt (Bt (Ba (B1 _ _) _) hb1) hb2) hx0r) hb3) hb4
  clear hb1 hb2 hx0r hb3 hb4 hF0 hF0' d0 d1 d2
  go_wp2_with fail
  go_ret
  exact ⟨rfl, hbb⟩
set_option maxHeartbeats 2000000 in
theorem rcasts_L12 (nm nm' : ByteArray) (k g k' g' : Int) (w : World) (hm : mayF k g = true) (hm' : mayF k' g' = true) (hc : k = 10 ∧ k' ≠ 10) :
    Calls Tryz.prog 117 #[.agg #[.string nm, .int .i64 k, .int .i64 g], .agg #[.string nm', .int .i64 k', .int .i64 g']] w fun e w' => e = .returned (.bool (decide (k' = 8))) ∧ Below w.heap.size w w' := by
  have beq : (k == k') = false := by simp; omega
  have bk4 : decide (k ≤ 4) = false := by simp; omega
  have bk9 : (k == 9) = false := by simp; omega
  have bk5 : decide (5 ≤ k) = true := by simp; omega
  have bk8 : decide (k ≤ 8) = false := by simp; omega
  have bk10 : (k == 10) = true := by simp; omega
  clear hc
  rw [show decide (k' = 8) = (k' == 8) from rfl]
  go_enter Tryz.func117, Tryz.ntmps117
  go_wp2_with fail
  go_at_call 113
  refine (rmay_any _ _ _ _).mono ?_
  rintro e w1 ⟨rfl, hb1⟩
  rw [hm]
  obtain ⟨d0, d1, d2⟩ := ((fb_new2 w _ nm' k' g').on hb1).cells
  go_wp2_with fail
  go_at_call 113
  refine (rmay_any _ _ _ _).mono ?_
  rintro e w2 ⟨rfl, hb2⟩
  rw [hm']
  go_wp2_with fail
  refine reg_begin (by kernel_rfl) (fun w0r hx0r hHeld => ?_)
  have hF0 : FB w0r w.heap.size nm k g := ((((fb_new w nm k g).alloc _).on hb1).on hb2).on hx0r
  have hF0' : FB w0r (w.heap.size + 1) nm' k' g' := (((fb_new2 w _ nm' k' g').on hb1).on hb2).on hx0r
  have q0 : ∀ w', Ext w0r w' → w'.cell? ⟨w.heap.size, 0, none⟩ = some (.string nm) := fun w' h => (hF0.on h).cells.1
  have q1 : ∀ w', Ext w0r w' → w'.cell? ⟨w.heap.size, 1, none⟩ = some (.int .i64 k) := fun w' h => (hF0.on h).cells.2.1
  have q2 : ∀ w', Ext w0r w' → w'.cell? ⟨w.heap.size, 2, none⟩ = some (.int .i64 g) := fun w' h => (hF0.on h).cells.2.2
  have p0 : ∀ w', Ext w0r w' → w'.cell? ⟨w.heap.size + 1, 0, none⟩ = some (.string nm') := fun w' h => (hF0'.on h).cells.1
  have p1 : ∀ w', Ext w0r w' → w'.cell? ⟨w.heap.size + 1, 1, none⟩ = some (.int .i64 k') := fun w' h => (hF0'.on h).cells.2.1
  have p2 : ∀ w', Ext w0r w' → w'.cell? ⟨w.heap.size + 1, 2, none⟩ = some (.int .i64 g') := fun w' h => (hF0'.on h).cells.2.2
  refine reg_take 0 (v := ?vm0) at0 (by kernel_rfl) (by kernel_rfl) (by kernel_rfl) (by rfl) ?hym0 hHeld ?restm0
  case hym0 => (intro w' hSw; go_simp; try with_reducible rfl)
  try simp only [Act.put, List.setIfInBounds_toArray, List.set_cons_zero, List.set_cons_succ]
  refine reg_take 2 (v := ?vm2) (atS (atS at0)) (by kernel_rfl) (by kernel_rfl) (by kernel_rfl) (by rfl) ?hym2 hHeld ?restm2
  case hym2 => (intro w' hSw; go_simp; try with_reducible rfl)
  try simp only [Act.put, List.setIfInBounds_toArray, List.set_cons_zero, List.set_cons_succ]
  refine wpAnyH_ready (rs := [1]) (by kernel_rfl) (by simp) ?_
  refine AllReadyH.cons (atS at0) (fun K hK => ?_) AllReadyH.nil
  go_simp
  go_at_call 76
  refine (rlong_any _ _ _ _).mono ?_
  rintro e w3 ⟨rfl, hb3⟩
  go_wp2_with fail
  refine hK.out _ _ hb3 (fun hHeld => ?_)
  clear hK K
  try simp only [Act.put, List.setIfInBounds_toArray, List.set_cons_zero, List.set_cons_succ]
  refine reg_on hb3 (fun hHeld => ?_)
  refine wpAnyH_ready (rs := [3]) (by kernel_rfl) (by simp) ?_
  refine AllReadyH.cons (atS (atS (atS at0))) (fun K hK => ?_) AllReadyH.nil
  go_simp
  go_at_call 76
  refine (rlong_any _ _ _ _).mono ?_
  rintro e w4 ⟨rfl, hb4⟩
  go_wp2_with fail
  refine hK.out _ _ hb4 (fun hHeld => ?_)
  clear hK K
  try simp only [Act.put, List.setIfInBounds_toArray, List.set_cons_zero, List.set_cons_succ]
  refine reg_on hb4 (fun hHeld => ?_)
  refine reg_take 4 (v := ?vm4) (atS (atS (atS (atS at0)))) (by kernel_rfl) (by kernel_rfl) (by kernel_rfl) (by rfl) ?hym4 hHeld ?restm4
  case hym4 => (intro w' hSw; go_simp; try with_reducible rfl)
  try simp only [Act.put, List.setIfInBounds_toArray, List.set_cons_zero, List.set_cons_succ]
  refine reg_take 5 (v := ?vm5) (atS5 at0) (by kernel_rfl) (by kernel_rfl) (by kernel_rfl) (by rfl) ?hym5 hHeld ?restm5
  case hym5 => (intro w' hSw; go_simp; try with_reducible rfl)
  try simp only [Act.put, List.setIfInBounds_toArray, List.set_cons_zero, List.set_cons_succ]
  refine wpAnyH_done (by kernel_rfl) ?_ _
  refine NoPanic.normal ?_
  clear q0 q1 q2 p0 p1 p2
  obtain ⟨c0, c1, c2⟩ := ((hF0.on hb3).on hb4).cells
  obtain ⟨d0', d1', d2'⟩ := ((hF0'.on hb3).on hb4).cells
  have hbb : Below w.heap.size w w4 := Bt (Bt (Bt (Bt (Bt (Ba (B1 _ _) _) hb1) hb2) hx0r) hb3) hb4
  clear hb1 hb2 hx0r hb3 hb4 hF0 hF0' d0 d1 d2
  go_wp2_with fail
  go_ret
  exact ⟨rfl, hbb⟩
set_option maxHeartbeats 2000000 in
theorem rcasts_L13 (nm nm' : ByteArray) (k g k' g' : Int) (w : World) (hm : mayF k g = true) (hm' : mayF k' g' = true) (hc : k ≠ k' ∧ 10 < k) :
    Calls Tryz.prog 117 #[.agg #[.string nm, .int .i64 k, .int .i64 g], .agg #[.string nm', .int .i64 k', .int .i64 g']] w fun e w' => e = .returned (.bool (false)) ∧ Below w.heap.size w w' := by
  have beq : (k == k') = false := by simp; omega
  have bk4 : decide (k ≤ 4) = false := by simp; omega
  have bk9 : (k == 9) = false := by simp; omega
  have bk5 : decide (5 ≤ k) = true := by simp; omega
  have bk8 : decide (k ≤ 8) = false := by simp; omega
  have bk10 : (k == 10) = false := by simp; omega
  clear hc
  go_enter Tryz.func117, Tryz.ntmps117
  go_wp2_with fail
  go_at_call 113
  refine (rmay_any _ _ _ _).mono ?_
  rintro e w1 ⟨rfl, hb1⟩
  rw [hm]
  obtain ⟨d0, d1, d2⟩ := ((fb_new2 w _ nm' k' g').on hb1).cells
  go_wp2_with fail
  go_at_call 113
  refine (rmay_any _ _ _ _).mono ?_
  rintro e w2 ⟨rfl, hb2⟩
  rw [hm']
  go_wp2_with fail
  refine reg_begin (by kernel_rfl) (fun w0r hx0r hHeld => ?_)
  have hF0 : FB w0r w.heap.size nm k g := ((((fb_new w nm k g).alloc _).on hb1).on hb2).on hx0r
  have hF0' : FB w0r (w.heap.size + 1) nm' k' g' := (((fb_new2 w _ nm' k' g').on hb1).on hb2).on hx0r
  have q0 : ∀ w', Ext w0r w' → w'.cell? ⟨w.heap.size, 0, none⟩ = some (.string nm) := fun w' h => (hF0.on h).cells.1
  have q1 : ∀ w', Ext w0r w' → w'.cell? ⟨w.heap.size, 1, none⟩ = some (.int .i64 k) := fun w' h => (hF0.on h).cells.2.1
  have q2 : ∀ w', Ext w0r w' → w'.cell? ⟨w.heap.size, 2, none⟩ = some (.int .i64 g) := fun w' h => (hF0.on h).cells.2.2
  have p0 : ∀ w', Ext w0r w' → w'.cell? ⟨w.heap.size + 1, 0, none⟩ = some (.string nm') := fun w' h => (hF0'.on h).cells.1
  have p1 : ∀ w', Ext w0r w' → w'.cell? ⟨w.heap.size + 1, 1, none⟩ = some (.int .i64 k') := fun w' h => (hF0'.on h).cells.2.1
  have p2 : ∀ w', Ext w0r w' → w'.cell? ⟨w.heap.size + 1, 2, none⟩ = some (.int .i64 g') := fun w' h => (hF0'.on h).cells.2.2
  refine reg_take 0 (v := ?vn0) at0 (by kernel_rfl) (by kernel_rfl) (by kernel_rfl) (by rfl) ?hyn0 hHeld ?restn0
  case hyn0 => (intro w' hSw; go_simp; try with_reducible rfl)
  try simp only [Act.put, List.setIfInBounds_toArray, List.set_cons_zero, List.set_cons_succ]
  refine reg_take 2 (v := ?vn2) (atS (atS at0)) (by kernel_rfl) (by kernel_rfl) (by kernel_rfl) (by rfl) ?hyn2 hHeld ?restn2
  case hyn2 => (intro w' hSw; go_simp; try with_reducible rfl)
  try simp only [Act.put, List.setIfInBounds_toArray, List.set_cons_zero, List.set_cons_succ]
  refine wpAnyH_ready (rs := [1]) (by kernel_rfl) (by simp) ?_
  refine AllReadyH.cons (atS at0) (fun K hK => ?_) AllReadyH.nil
  go_simp
  go_at_call 76
  refine (rlong_any _ _ _ _).mono ?_
  rintro e w3 ⟨rfl, hb3⟩
  go_wp2_with fail
  refine hK.out _ _ hb3 (fun hHeld => ?_)
  clear hK K
  try simp only [Act.put, List.setIfInBounds_toArray, List.set_cons_zero, List.set_cons_succ]
  refine reg_on hb3 (fun hHeld => ?_)
  refine wpAnyH_ready (rs := [3]) (by kernel_rfl) (by simp) ?_
  refine AllReadyH.cons (atS (atS (atS at0))) (fun K hK => ?_) AllReadyH.nil
  go_simp
  go_at_call 76
  refine (rlong_any _ _ _ _).mono ?_
  rintro e w4 ⟨rfl, hb4⟩
  go_wp2_with fail
  refine hK.out _ _ hb4 (fun hHeld => ?_)
  clear hK K
  try simp only [Act.put, List.setIfInBounds_toArray, List.set_cons_zero, List.set_cons_succ]
  refine reg_on hb4 (fun hHeld => ?_)
  refine reg_take 4 (v := ?vn4) (atS (atS (atS (atS at0)))) (by kernel_rfl) (by kernel_rfl) (by kernel_rfl) (by rfl) ?hyn4 hHeld ?restn4
  case hyn4 => (intro w' hSw; go_simp; try with_reducible rfl)
  try simp only [Act.put, List.setIfInBounds_toArray, List.set_cons_zero, List.set_cons_succ]
  refine reg_take 5 (v := ?vn5) (atS5 at0) (by kernel_rfl) (by kernel_rfl) (by kernel_rfl) (by rfl) ?hyn5 hHeld ?restn5
  case hyn5 => (intro w' hSw; go_simp; try with_reducible rfl)
  try simp only [Act.put, List.setIfInBounds_toArray, List.set_cons_zero, List.set_cons_succ]
  refine wpAnyH_done (by kernel_rfl) ?_ _
  refine NoPanic.normal ?_
  clear q0 q1 q2 p0 p1 p2
  obtain ⟨c0, c1, c2⟩ := ((hF0.on hb3).on hb4).cells
  obtain ⟨d0', d1', d2'⟩ := ((hF0'.on hb3).on hb4).cells
  have hbb : Below w.heap.size w w4 := Bt (Bt (Bt (Bt (Bt (Ba (B1 _ _) _) hb1) hb2) hx0r) hb3) hb4
  clear hb1 hb2 hx0r hb3 hb4 hF0 hF0' d0 d1 d2
  go_wp2_with fail
  go_ret
  exact ⟨rfl, hbb⟩
set_option maxHeartbeats 2000000 in
theorem rcasts_any (nm nm' : ByteArray) (k g k' g' : Int) (w : World) :
    Calls Tryz.prog 117 #[.agg #[.string nm, .int .i64 k, .int .i64 g], .agg #[.string nm', .int .i64 k', .int .i64 g']] w fun e w' => e = .returned (.bool (castsF k g k' g')) ∧ Below w.heap.size w w' := by
  by_cases hm : mayF k g = true
  · by_cases hm' : mayF k' g' = true
    · have hk : 0 < k ∧ k ≤ 12 := by
        by_cases h : k = 12
        · omega
        · have := (may_cases hm h).2; omega
      have hk' : 0 < k' ∧ k' ≤ 12 := by
        by_cases h : k' = 12
        · omega
        · have := (may_cases hm' h).2; omega
      by_cases c1 : k = k'
      · rw [show castsF k g k' g' = true by subst c1; simp [castsF, hm, hm']]
        exact rcasts_L1 nm nm' k g k' g' w hm hm' c1
      by_cases c2 : k ≤ 4
      · by_cases c3 : k' ≤ 8
        · rw [show castsF k g k' g' = decide (longF k g < longF k' g') by simp [castsF, hm, hm', c1, c2, c3]]
          exact rcasts_L2 nm nm' k g k' g' w hm hm' ⟨c1, c2, c3⟩
        · by_cases c4 : k' = 10
          · rw [show castsF k g k' g' = true by rw [castsF, hm, hm', if_neg c1, if_neg (by omega), if_neg (by omega), if_neg (by omega), if_pos (by omega)]; rfl]
            exact rcasts_L3 nm nm' k g k' g' w hm hm' ⟨c2, c4⟩
          · rw [show castsF k g k' g' = false by rw [castsF, hm, hm', if_neg c1, if_neg (by omega), if_neg (by omega), if_neg (by omega), if_neg (by omega)]; simp; omega]
            exact rcasts_L4 nm nm' k g k' g' w hm hm' ⟨c2, by omega, c4⟩
      by_cases c5 : k = 9
      · by_cases c3 : k' ≤ 8
        · rw [show castsF k g k' g' = (decide (longF k g < longF k' g') || decide (k' = 1)) by rw [castsF, hm, hm', if_neg c1, if_neg (by omega), if_pos (by omega)]; rfl]
          exact rcasts_L5 nm nm' k g k' g' w hm hm' ⟨c5, c3⟩
        · rw [show castsF k g k' g' = false by rw [castsF, hm, hm', if_neg c1, if_neg (by omega), if_neg (by omega), if_neg (by omega), if_neg (by omega)]; simp; omega]
          exact rcasts_L7 nm nm' k g k' g' w hm hm' ⟨c5, by omega⟩
      by_cases c6 : k ≤ 8
      · by_cases c3 : k' ≤ 8
        · by_cases c7 : 5 ≤ k'
          · rw [show castsF k g k' g' = decide (longF k g < longF k' g') by rw [castsF, hm, hm', if_neg c1, if_neg (by omega), if_neg (by omega), if_pos (by omega)]; rfl]
            exact rcasts_L8 nm nm' k g k' g' w hm hm' ⟨c1, by omega, c6, c7, c3⟩
          · rw [show castsF k g k' g' = false by rw [castsF, hm, hm', if_neg c1, if_neg (by omega), if_neg (by omega), if_neg (by omega), if_neg (by omega)]; simp; omega]
            exact rcasts_L9 nm nm' k g k' g' w hm hm' ⟨by omega, c6, by omega⟩
        · by_cases c4 : k' = 10
          · rw [show castsF k g k' g' = true by rw [castsF, hm, hm', if_neg c1, if_neg (by omega), if_neg (by omega), if_neg (by omega), if_pos (by omega)]; rfl]
            exact rcasts_L10 nm nm' k g k' g' w hm hm' ⟨by omega, c6, c4⟩
          · rw [show castsF k g k' g' = false by rw [castsF, hm, hm', if_neg c1, if_neg (by omega), if_neg (by omega), if_neg (by omega), if_neg (by omega)]; simp; omega]
            exact rcasts_L11 nm nm' k g k' g' w hm hm' ⟨by omega, c6, by omega, c4⟩
      by_cases c8 : k = 10
      · rw [show castsF k g k' g' = decide (k' = 8) by rw [castsF, hm, hm', if_neg c1, if_neg (by omega), if_neg (by omega), if_neg (by omega), if_neg (by omega)]; simp [c8]]
        exact rcasts_L12 nm nm' k g k' g' w hm hm' ⟨c8, by omega⟩
      · rw [show castsF k g k' g' = false by rw [castsF, hm, hm', if_neg c1, if_neg (by omega), if_neg (by omega), if_neg (by omega), if_neg (by omega)]; simp [c8]]
        exact rcasts_L13 nm nm' k g k' g' w hm hm' ⟨c1, by omega⟩
    · have hm' : mayF k' g' = false := by simpa using hm'
      rw [show castsF k g k' g' = false by simp [castsF, hm']]
      exact rcasts_m2 nm nm' k g k' g' w hm hm'
  · have hm : mayF k g = false := by simpa using hm
    rw [show castsF k g k' g' = false by simp [castsF, hm]]
    exact rcasts_m1 nm nm' k g k' g' w hm
end Go.Proofs.YtaegencmnmjgbaaGreat
