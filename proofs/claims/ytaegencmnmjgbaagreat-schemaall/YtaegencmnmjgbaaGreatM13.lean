/-
  Contract of kind.Casts (written by tools/kindt.py).
-/
import Derived.Test.YtaegencmnmjgbaaGreatM12

namespace Go.Proofs.YtaegencmnmjgbaaGreat
open Go.RowKit
set_option linter.unusedVariables false
set_option linter.unusedSimpArgs false
def castsP (k k' L L' : Int) : Bool :=
  if k = k' then true else if k' = 10 then amB 1 8 k else if k = 10 then decide (k' = 8) else if k = 9 ∧ amB 1 4 k' = true then decide (L ≤ L') else if k = 9 ∨ amB 1 4 k = true then amB 1 8 k' && decide (L < L') else amB 5 8 k && amB 5 8 k' && decide (L < L')
set_option maxHeartbeats 2000000 in
theorem kcasts_z1 (nm nm' : ByteArray) (k g k' g' L L' : Int) (w : World) (HL : Hid (longF k g = L)) (HL' : Hid (longF k' g' = L')) (hl : (L == 0) = true) :
    Calls Tryz.prog 164 #[.agg #[.string nm, .int .i64 k, .int .i64 g], .agg #[.string nm', .int .i64 k', .int .i64 g']] w fun e w' => e = .returned (.bool false) ∧ Below w.heap.size w w' := by
  go_enter Tryz.func164, Tryz.ntmps164
  go_wp2_with fail
  have hF := (fb_new w nm k g).alloc (.cells #[.string nm', .int .i64 k', .int .i64 g'] 68)
  have hT := fb_new2 w (.cells #[.string nm, .int .i64 k, .int .i64 g] 68) nm' k' g'
  refine reg_begin (by kernel_rfl) (fun w0r hx0r hHeld => ?_)
  have hF0 := hF.on hx0r
  have hT0 := hT.on hx0r
  have hxA : ∀ w', Ext w0r w' → Ext w0r w' := fun _ h => h
  have q0 : ∀ w', Ext w0r w' → w'.cell? ⟨w.heap.size, 0, none⟩ = some (.string nm) := fun w' h => (hF0.on h).cells.1
  have q1 : ∀ w', Ext w0r w' → w'.cell? ⟨w.heap.size, 1, none⟩ = some (.int .i64 k) := fun w' h => (hF0.on h).cells.2.1
  have q2 : ∀ w', Ext w0r w' → w'.cell? ⟨w.heap.size, 2, none⟩ = some (.int .i64 g) := fun w' h => (hF0.on h).cells.2.2
  have p0 : ∀ w', Ext w0r w' → w'.cell? ⟨w.heap.size + 1, 0, none⟩ = some (.string nm') := fun w' h => (hT0.on h).cells.1
  have p1 : ∀ w', Ext w0r w' → w'.cell? ⟨w.heap.size + 1, 1, none⟩ = some (.int .i64 k') := fun w' h => (hT0.on h).cells.2.1
  have p2 : ∀ w', Ext w0r w' → w'.cell? ⟨w.heap.size + 1, 2, none⟩ = some (.int .i64 g') := fun w' h => (hT0.on h).cells.2.2
  refine reg_take 0 (v := ?vz1_0) at0 (by kernel_rfl) (by kernel_rfl) (by kernel_rfl) (by rfl) ?hyz1_0 hHeld ?restz1_0
  case hyz1_0 => (intro w' hSw; go_simp; try with_reducible rfl)
  try simp only [Act.put, List.setIfInBounds_toArray, List.set_cons_zero, List.set_cons_succ]
  refine reg_take 2 (v := ?vz2_2) (atS (atS at0)) (by kernel_rfl) (by kernel_rfl) (by kernel_rfl) (by rfl) ?hyz2_2 hHeld ?restz2_2
  case hyz2_2 => (intro w' hSw; go_simp; try with_reducible rfl)
  try simp only [Act.put, List.setIfInBounds_toArray, List.set_cons_zero, List.set_cons_succ]
  refine wpAnyH_ready (rs := [1]) (by kernel_rfl) (by simp) ?_
  refine AllReadyH.cons (atS at0) (fun K hK => ?_) AllReadyH.nil
  go_simp
  go_at_call 101
  refine (klong_any _ _ _ _).mono ?_
  rintro e w2 ⟨rfl, hb2⟩
  rw [HL.out]
  go_wp2_with fail
  refine hK.out _ _ hb2 (fun hHeld => ?_)
  clear hK K
  try simp only [Act.put, List.setIfInBounds_toArray, List.set_cons_zero, List.set_cons_succ]
  refine reg_on hb2 (fun hHeld => ?_)
  have hx2 : ∀ w', Ext w2 w' → Ext w0r w' := fun w' h => hxA w' (Ext.trans hb2 h)
  refine wpAnyH_ready (rs := [3]) (by kernel_rfl) (by simp) ?_
  refine AllReadyH.cons (atS (atS (atS at0))) (fun K hK => ?_) AllReadyH.nil
  go_simp
  go_at_call 101
  refine (klong_any _ _ _ _).mono ?_
  rintro e w3 ⟨rfl, hb3⟩
  rw [HL'.out]
  go_wp2_with fail
  refine hK.out _ _ hb3 (fun hHeld => ?_)
  clear hK K
  try simp only [Act.put, List.setIfInBounds_toArray, List.set_cons_zero, List.set_cons_succ]
  refine reg_on hb3 (fun hHeld => ?_)
  have hx3 : ∀ w', Ext w3 w' → Ext w0r w' := fun w' h => hx2 w' (Ext.trans hb3 h)
  refine reg_take 4 (v := ?vz3_4) (atS (atS (atS (atS at0)))) (by kernel_rfl) (by kernel_rfl) (by kernel_rfl) (by rfl) ?hyz3_4 hHeld ?restz3_4
  case hyz3_4 => (intro w' hSw; go_simp; try with_reducible rfl)
  try simp only [Act.put, List.setIfInBounds_toArray, List.set_cons_zero, List.set_cons_succ]
  refine reg_take 5 (v := ?vz4_5) (atS5 at0) (by kernel_rfl) (by kernel_rfl) (by kernel_rfl) (by rfl) ?hyz4_5 hHeld ?restz4_5
  case hyz4_5 => (intro w' hSw; go_simp; try with_reducible rfl)
  try simp only [Act.put, List.setIfInBounds_toArray, List.set_cons_zero, List.set_cons_succ]
  refine wpAnyH_done (by kernel_rfl) ?_ _
  refine NoPanic.normal ?_
  have hE := hx3 _ (Ext.refl _)
  have hF1 := hF0.on hE
  have hT1 := hT0.on hE
  have hbE : Below w.heap.size w _ := Bt (Bt (Ba (B1 _ _) _) hx0r) hE
  clear q0 q1 q2 p0 p1 p2 hx0r hE hHeld
  obtain ⟨c0, c1, c2⟩ := hF1.cells
  obtain ⟨d0, d1, d2⟩ := hT1.cells
  go_wp2_with fail
  go_ret
  exact ⟨rfl, hbE⟩
set_option maxHeartbeats 2000000 in
theorem kcasts_z2 (nm nm' : ByteArray) (k g k' g' L L' : Int) (w : World) (HL : Hid (longF k g = L)) (HL' : Hid (longF k' g' = L')) (hl : (L == 0) = false) (hl' : (L' == 0) = true) :
    Calls Tryz.prog 164 #[.agg #[.string nm, .int .i64 k, .int .i64 g], .agg #[.string nm', .int .i64 k', .int .i64 g']] w fun e w' => e = .returned (.bool false) ∧ Below w.heap.size w w' := by
  go_enter Tryz.func164, Tryz.ntmps164
  go_wp2_with fail
  have hF := (fb_new w nm k g).alloc (.cells #[.string nm', .int .i64 k', .int .i64 g'] 68)
  have hT := fb_new2 w (.cells #[.string nm, .int .i64 k, .int .i64 g] 68) nm' k' g'
  refine reg_begin (by kernel_rfl) (fun w0r hx0r hHeld => ?_)
  have hF0 := hF.on hx0r
  have hT0 := hT.on hx0r
  have hxA : ∀ w', Ext w0r w' → Ext w0r w' := fun _ h => h
  have q0 : ∀ w', Ext w0r w' → w'.cell? ⟨w.heap.size, 0, none⟩ = some (.string nm) := fun w' h => (hF0.on h).cells.1
  have q1 : ∀ w', Ext w0r w' → w'.cell? ⟨w.heap.size, 1, none⟩ = some (.int .i64 k) := fun w' h => (hF0.on h).cells.2.1
  have q2 : ∀ w', Ext w0r w' → w'.cell? ⟨w.heap.size, 2, none⟩ = some (.int .i64 g) := fun w' h => (hF0.on h).cells.2.2
  have p0 : ∀ w', Ext w0r w' → w'.cell? ⟨w.heap.size + 1, 0, none⟩ = some (.string nm') := fun w' h => (hT0.on h).cells.1
  have p1 : ∀ w', Ext w0r w' → w'.cell? ⟨w.heap.size + 1, 1, none⟩ = some (.int .i64 k') := fun w' h => (hT0.on h).cells.2.1
  have p2 : ∀ w', Ext w0r w' → w'.cell? ⟨w.heap.size + 1, 2, none⟩ = some (.int .i64 g') := fun w' h => (hT0.on h).cells.2.2
  refine reg_take 0 (v := ?vz6_0) at0 (by kernel_rfl) (by kernel_rfl) (by kernel_rfl) (by rfl) ?hyz6_0 hHeld ?restz6_0
  case hyz6_0 => (intro w' hSw; go_simp; try with_reducible rfl)
  try simp only [Act.put, List.setIfInBounds_toArray, List.set_cons_zero, List.set_cons_succ]
  refine reg_take 2 (v := ?vz7_2) (atS (atS at0)) (by kernel_rfl) (by kernel_rfl) (by kernel_rfl) (by rfl) ?hyz7_2 hHeld ?restz7_2
  case hyz7_2 => (intro w' hSw; go_simp; try with_reducible rfl)
  try simp only [Act.put, List.setIfInBounds_toArray, List.set_cons_zero, List.set_cons_succ]
  refine wpAnyH_ready (rs := [1]) (by kernel_rfl) (by simp) ?_
  refine AllReadyH.cons (atS at0) (fun K hK => ?_) AllReadyH.nil
  go_simp
  go_at_call 101
  refine (klong_any _ _ _ _).mono ?_
  rintro e w2 ⟨rfl, hb2⟩
  rw [HL.out]
  go_wp2_with fail
  refine hK.out _ _ hb2 (fun hHeld => ?_)
  clear hK K
  try simp only [Act.put, List.setIfInBounds_toArray, List.set_cons_zero, List.set_cons_succ]
  refine reg_on hb2 (fun hHeld => ?_)
  have hx2 : ∀ w', Ext w2 w' → Ext w0r w' := fun w' h => hxA w' (Ext.trans hb2 h)
  refine wpAnyH_ready (rs := [3]) (by kernel_rfl) (by simp) ?_
  refine AllReadyH.cons (atS (atS (atS at0))) (fun K hK => ?_) AllReadyH.nil
  go_simp
  go_at_call 101
  refine (klong_any _ _ _ _).mono ?_
  rintro e w3 ⟨rfl, hb3⟩
  rw [HL'.out]
  go_wp2_with fail
  refine hK.out _ _ hb3 (fun hHeld => ?_)
  clear hK K
  try simp only [Act.put, List.setIfInBounds_toArray, List.set_cons_zero, List.set_cons_succ]
  refine reg_on hb3 (fun hHeld => ?_)
  have hx3 : ∀ w', Ext w3 w' → Ext w0r w' := fun w' h => hx2 w' (Ext.trans hb3 h)
  refine reg_take 4 (v := ?vz8_4) (atS (atS (atS (atS at0)))) (by kernel_rfl) (by kernel_rfl) (by kernel_rfl) (by rfl) ?hyz8_4 hHeld ?restz8_4
  case hyz8_4 => (intro w' hSw; go_simp; try with_reducible rfl)
  try simp only [Act.put, List.setIfInBounds_toArray, List.set_cons_zero, List.set_cons_succ]
  refine reg_take 5 (v := ?vz9_5) (atS5 at0) (by kernel_rfl) (by kernel_rfl) (by kernel_rfl) (by rfl) ?hyz9_5 hHeld ?restz9_5
  case hyz9_5 => (intro w' hSw; go_simp; try with_reducible rfl)
  try simp only [Act.put, List.setIfInBounds_toArray, List.set_cons_zero, List.set_cons_succ]
  refine wpAnyH_done (by kernel_rfl) ?_ _
  refine NoPanic.normal ?_
  have hE := hx3 _ (Ext.refl _)
  have hF1 := hF0.on hE
  have hT1 := hT0.on hE
  have hbE : Below w.heap.size w _ := Bt (Bt (Ba (B1 _ _) _) hx0r) hE
  clear q0 q1 q2 p0 p1 p2 hx0r hE hHeld
  obtain ⟨c0, c1, c2⟩ := hF1.cells
  obtain ⟨d0, d1, d2⟩ := hT1.cells
  go_wp2_with fail
  go_ret
  exact ⟨rfl, hbE⟩
set_option maxHeartbeats 2000000 in
theorem kcasts_A (nm nm' : ByteArray) (k g k' g' L L' : Int) (w : World) (HL : Hid (longF k g = L)) (HL' : Hid (longF k' g' = L')) (hl : (L == 0) = false) (hl' : (L' == 0) = false) (hk : k = k') :
    Calls Tryz.prog 164 #[.agg #[.string nm, .int .i64 k, .int .i64 g], .agg #[.string nm', .int .i64 k', .int .i64 g']] w fun e w' => e = .returned (.bool true) ∧ Below w.heap.size w w' := by
  have b1 : (k == k') = true := by simpa using hk
  clear hk
  go_enter Tryz.func164, Tryz.ntmps164
  go_wp2_with fail
  have hF := (fb_new w nm k g).alloc (.cells #[.string nm', .int .i64 k', .int .i64 g'] 68)
  have hT := fb_new2 w (.cells #[.string nm, .int .i64 k, .int .i64 g] 68) nm' k' g'
  refine reg_begin (by kernel_rfl) (fun w0r hx0r hHeld => ?_)
  have hF0 := hF.on hx0r
  have hT0 := hT.on hx0r
  have hxA : ∀ w', Ext w0r w' → Ext w0r w' := fun _ h => h
  have q0 : ∀ w', Ext w0r w' → w'.cell? ⟨w.heap.size, 0, none⟩ = some (.string nm) := fun w' h => (hF0.on h).cells.1
  have q1 : ∀ w', Ext w0r w' → w'.cell? ⟨w.heap.size, 1, none⟩ = some (.int .i64 k) := fun w' h => (hF0.on h).cells.2.1
  have q2 : ∀ w', Ext w0r w' → w'.cell? ⟨w.heap.size, 2, none⟩ = some (.int .i64 g) := fun w' h => (hF0.on h).cells.2.2
  have p0 : ∀ w', Ext w0r w' → w'.cell? ⟨w.heap.size + 1, 0, none⟩ = some (.string nm') := fun w' h => (hT0.on h).cells.1
  have p1 : ∀ w', Ext w0r w' → w'.cell? ⟨w.heap.size + 1, 1, none⟩ = some (.int .i64 k') := fun w' h => (hT0.on h).cells.2.1
  have p2 : ∀ w', Ext w0r w' → w'.cell? ⟨w.heap.size + 1, 2, none⟩ = some (.int .i64 g') := fun w' h => (hT0.on h).cells.2.2
  refine reg_take 0 (v := ?vz11_0) at0 (by kernel_rfl) (by kernel_rfl) (by kernel_rfl) (by rfl) ?hyz11_0 hHeld ?restz11_0
  case hyz11_0 => (intro w' hSw; go_simp; try with_reducible rfl)
  try simp only [Act.put, List.setIfInBounds_toArray, List.set_cons_zero, List.set_cons_succ]
  refine reg_take 2 (v := ?vz12_2) (atS (atS at0)) (by kernel_rfl) (by kernel_rfl) (by kernel_rfl) (by rfl) ?hyz12_2 hHeld ?restz12_2
  case hyz12_2 => (intro w' hSw; go_simp; try with_reducible rfl)
  try simp only [Act.put, List.setIfInBounds_toArray, List.set_cons_zero, List.set_cons_succ]
  refine wpAnyH_ready (rs := [1]) (by kernel_rfl) (by simp) ?_
  refine AllReadyH.cons (atS at0) (fun K hK => ?_) AllReadyH.nil
  go_simp
  go_at_call 101
  refine (klong_any _ _ _ _).mono ?_
  rintro e w2 ⟨rfl, hb2⟩
  rw [HL.out]
  go_wp2_with fail
  refine hK.out _ _ hb2 (fun hHeld => ?_)
  clear hK K
  try simp only [Act.put, List.setIfInBounds_toArray, List.set_cons_zero, List.set_cons_succ]
  refine reg_on hb2 (fun hHeld => ?_)
  have hx2 : ∀ w', Ext w2 w' → Ext w0r w' := fun w' h => hxA w' (Ext.trans hb2 h)
  refine wpAnyH_ready (rs := [3]) (by kernel_rfl) (by simp) ?_
  refine AllReadyH.cons (atS (atS (atS at0))) (fun K hK => ?_) AllReadyH.nil
  go_simp
  go_at_call 101
  refine (klong_any _ _ _ _).mono ?_
  rintro e w3 ⟨rfl, hb3⟩
  rw [HL'.out]
  go_wp2_with fail
  refine hK.out _ _ hb3 (fun hHeld => ?_)
  clear hK K
  try simp only [Act.put, List.setIfInBounds_toArray, List.set_cons_zero, List.set_cons_succ]
  refine reg_on hb3 (fun hHeld => ?_)
  have hx3 : ∀ w', Ext w3 w' → Ext w0r w' := fun w' h => hx2 w' (Ext.trans hb3 h)
  refine reg_take 4 (v := ?vz13_4) (atS (atS (atS (atS at0)))) (by kernel_rfl) (by kernel_rfl) (by kernel_rfl) (by rfl) ?hyz13_4 hHeld ?restz13_4
  case hyz13_4 => (intro w' hSw; go_simp; try with_reducible rfl)
  try simp only [Act.put, List.setIfInBounds_toArray, List.set_cons_zero, List.set_cons_succ]
  refine reg_take 5 (v := ?vz14_5) (atS5 at0) (by kernel_rfl) (by kernel_rfl) (by kernel_rfl) (by rfl) ?hyz14_5 hHeld ?restz14_5
  case hyz14_5 => (intro w' hSw; go_simp; try with_reducible rfl)
  try simp only [Act.put, List.setIfInBounds_toArray, List.set_cons_zero, List.set_cons_succ]
  refine wpAnyH_done (by kernel_rfl) ?_ _
  refine NoPanic.normal ?_
  have hE := hx3 _ (Ext.refl _)
  have hF1 := hF0.on hE
  have hT1 := hT0.on hE
  have hbE : Below w.heap.size w _ := Bt (Bt (Ba (B1 _ _) _) hx0r) hE
  clear q0 q1 q2 p0 p1 p2 hx0r hE hHeld
  obtain ⟨c0, c1, c2⟩ := hF1.cells
  obtain ⟨d0, d1, d2⟩ := hT1.cells
  go_wp2_with fail
  go_ret
  exact ⟨rfl, hbE⟩
set_option maxHeartbeats 2000000 in
theorem kcasts_B (nm nm' : ByteArray) (k g k' g' L L' : Int) (w : World) (HL : Hid (longF k g = L)) (HL' : Hid (longF k' g' = L')) (hl : (L == 0) = false) (hl' : (L' == 0) = false) (hk : k ≠ k') (h10 : k' = 10) (x : Bool) (HA : Hid (amB 1 8 k = x)) :
    Calls Tryz.prog 164 #[.agg #[.string nm, .int .i64 k, .int .i64 g], .agg #[.string nm', .int .i64 k', .int .i64 g']] w fun e w' => e = .returned (.bool x) ∧ Below w.heap.size w w' := by
  have b1 : (k == k') = false := by simpa using hk
  have b2 : (k' == 10) = true := by simpa using h10
  clear hk h10
  go_enter Tryz.func164, Tryz.ntmps164
  go_wp2_with fail
  have hF := (fb_new w nm k g).alloc (.cells #[.string nm', .int .i64 k', .int .i64 g'] 68)
  have hT := fb_new2 w (.cells #[.string nm, .int .i64 k, .int .i64 g] 68) nm' k' g'
  refine reg_begin (by kernel_rfl) (fun w0r hx0r hHeld => ?_)
  have hF0 := hF.on hx0r
  have hT0 := hT.on hx0r
  have hxA : ∀ w', Ext w0r w' → Ext w0r w' := fun _ h => h
  have q0 : ∀ w', Ext w0r w' → w'.cell? ⟨w.heap.size, 0, none⟩ = some (.string nm) := fun w' h => (hF0.on h).cells.1
  have q1 : ∀ w', Ext w0r w' → w'.cell? ⟨w.heap.size, 1, none⟩ = some (.int .i64 k) := fun w' h => (hF0.on h).cells.2.1
  have q2 : ∀ w', Ext w0r w' → w'.cell? ⟨w.heap.size, 2, none⟩ = some (.int .i64 g) := fun w' h => (hF0.on h).cells.2.2
  have p0 : ∀ w', Ext w0r w' → w'.cell? ⟨w.heap.size + 1, 0, none⟩ = some (.string nm') := fun w' h => (hT0.on h).cells.1
  have p1 : ∀ w', Ext w0r w' → w'.cell? ⟨w.heap.size + 1, 1, none⟩ = some (.int .i64 k') := fun w' h => (hT0.on h).cells.2.1
  have p2 : ∀ w', Ext w0r w' → w'.cell? ⟨w.heap.size + 1, 2, none⟩ = some (.int .i64 g') := fun w' h => (hT0.on h).cells.2.2
  refine reg_take 0 (v := ?vz16_0) at0 (by kernel_rfl) (by kernel_rfl) (by kernel_rfl) (by rfl) ?hyz16_0 hHeld ?restz16_0
  case hyz16_0 => (intro w' hSw; go_simp; try with_reducible rfl)
  try simp only [Act.put, List.setIfInBounds_toArray, List.set_cons_zero, List.set_cons_succ]
  refine reg_take 2 (v := ?vz17_2) (atS (atS at0)) (by kernel_rfl) (by kernel_rfl) (by kernel_rfl) (by rfl) ?hyz17_2 hHeld ?restz17_2
  case hyz17_2 => (intro w' hSw; go_simp; try with_reducible rfl)
  try simp only [Act.put, List.setIfInBounds_toArray, List.set_cons_zero, List.set_cons_succ]
  refine wpAnyH_ready (rs := [1]) (by kernel_rfl) (by simp) ?_
  refine AllReadyH.cons (atS at0) (fun K hK => ?_) AllReadyH.nil
  go_simp
  go_at_call 101
  refine (klong_any _ _ _ _).mono ?_
  rintro e w2 ⟨rfl, hb2⟩
  rw [HL.out]
  go_wp2_with fail
  refine hK.out _ _ hb2 (fun hHeld => ?_)
  clear hK K
  try simp only [Act.put, List.setIfInBounds_toArray, List.set_cons_zero, List.set_cons_succ]
  refine reg_on hb2 (fun hHeld => ?_)
  have hx2 : ∀ w', Ext w2 w' → Ext w0r w' := fun w' h => hxA w' (Ext.trans hb2 h)
  refine wpAnyH_ready (rs := [3]) (by kernel_rfl) (by simp) ?_
  refine AllReadyH.cons (atS (atS (atS at0))) (fun K hK => ?_) AllReadyH.nil
  go_simp
  go_at_call 101
  refine (klong_any _ _ _ _).mono ?_
  rintro e w3 ⟨rfl, hb3⟩
  rw [HL'.out]
  go_wp2_with fail
  refine hK.out _ _ hb3 (fun hHeld => ?_)
  clear hK K
  try simp only [Act.put, List.setIfInBounds_toArray, List.set_cons_zero, List.set_cons_succ]
  refine reg_on hb3 (fun hHeld => ?_)
  have hx3 : ∀ w', Ext w3 w' → Ext w0r w' := fun w' h => hx2 w' (Ext.trans hb3 h)
  refine reg_take 4 (v := ?vz18_4) (atS (atS (atS (atS at0)))) (by kernel_rfl) (by kernel_rfl) (by kernel_rfl) (by rfl) ?hyz18_4 hHeld ?restz18_4
  case hyz18_4 => (intro w' hSw; go_simp; try with_reducible rfl)
  try simp only [Act.put, List.setIfInBounds_toArray, List.set_cons_zero, List.set_cons_succ]
  refine reg_take 5 (v := ?vz19_5) (atS5 at0) (by kernel_rfl) (by kernel_rfl) (by kernel_rfl) (by rfl) ?hyz19_5 hHeld ?restz19_5
  case hyz19_5 => (intro w' hSw; go_simp; try with_reducible rfl)
  try simp only [Act.put, List.setIfInBounds_toArray, List.set_cons_zero, List.set_cons_succ]
  refine wpAnyH_done (by kernel_rfl) ?_ _
  refine NoPanic.normal ?_
  have hE := hx3 _ (Ext.refl _)
  have hF1 := hF0.on hE
  have hT1 := hT0.on hE
  have hbE : Below w.heap.size w _ := Bt (Bt (Ba (B1 _ _) _) hx0r) hE
  clear q0 q1 q2 p0 p1 p2 hx0r hE hHeld
  obtain ⟨c0, c1, c2⟩ := hF1.cells
  obtain ⟨d0, d1, d2⟩ := hT1.cells
  go_wp2_with fail
  go_at_call 162
  refine (among_new _ _ _).mono ?_
  rintro e wu ⟨up, rfl, uh, ub⟩
  have hF1a := hF1.on ub
  have hT1a := hT1.on ub
  have hbE1 := Bt hbE ub
  clear c0 c1 c2 d0 d1 d2
  obtain ⟨c0, c1, c2⟩ := hF1a.cells
  obtain ⟨d0, d1, d2⟩ := hT1a.cells
  go_wp2_with fail
  go_at_call 162
  refine (among_new _ _ _).mono ?_
  rintro e ws ⟨sp, rfl, sh, sb⟩
  have hF2a := hF1a.on sb
  have hT2a := hT1a.on sb
  have hbE2 := Bt hbE1 sb
  have uh2 := uh.on sb
  clear c0 c1 c2 d0 d1 d2
  obtain ⟨c0, c1, c2⟩ := hF2a.cells
  obtain ⟨d0, d1, d2⟩ := hT2a.cells
  go_wp2_with fail
  go_at_call 162
  refine (among_new _ _ _).mono ?_
  rintro e wn ⟨np, rfl, nh, nb⟩
  have hF3a := hF2a.on nb
  have hT3a := hT2a.on nb
  have hbE3 := Bt hbE2 nb
  have uh3 := uh2.on nb
  have sh3 := sh.on nb
  clear c0 c1 c2 d0 d1 d2
  obtain ⟨c0, c1, c2⟩ := hF3a.cells
  obtain ⟨d0, d1, d2⟩ := hT3a.cells
  go_wp2_with fail
  go_at_call 188
  refine (among_ask _ nh).mono ?_
  rintro e wq ⟨rfl, rfl⟩
  rw [HA.out]
  go_wp2_with fail
  go_ret
  exact ⟨rfl, hbE3⟩
set_option maxHeartbeats 2000000 in
theorem kcasts_C (nm nm' : ByteArray) (k g k' g' L L' : Int) (w : World) (HL : Hid (longF k g = L)) (HL' : Hid (longF k' g' = L')) (hl : (L == 0) = false) (hl' : (L' == 0) = false) (hk : k ≠ k') (h10 : k' ≠ 10) (hk10 : k = 10) (x : Bool) (h8 : (k' == 8) = x) :
    Calls Tryz.prog 164 #[.agg #[.string nm, .int .i64 k, .int .i64 g], .agg #[.string nm', .int .i64 k', .int .i64 g']] w fun e w' => e = .returned (.bool x) ∧ Below w.heap.size w w' := by
  have b1 : (k == k') = false := by simpa using hk
  have b2 : (k' == 10) = false := by simpa using h10
  have b3 : (k == 10) = true := by simpa using hk10
  clear hk h10 hk10
  go_enter Tryz.func164, Tryz.ntmps164
  go_wp2_with fail
  have hF := (fb_new w nm k g).alloc (.cells #[.string nm', .int .i64 k', .int .i64 g'] 68)
  have hT := fb_new2 w (.cells #[.string nm, .int .i64 k, .int .i64 g] 68) nm' k' g'
  refine reg_begin (by kernel_rfl) (fun w0r hx0r hHeld => ?_)
  have hF0 := hF.on hx0r
  have hT0 := hT.on hx0r
  have hxA : ∀ w', Ext w0r w' → Ext w0r w' := fun _ h => h
  have q0 : ∀ w', Ext w0r w' → w'.cell? ⟨w.heap.size, 0, none⟩ = some (.string nm) := fun w' h => (hF0.on h).cells.1
  have q1 : ∀ w', Ext w0r w' → w'.cell? ⟨w.heap.size, 1, none⟩ = some (.int .i64 k) := fun w' h => (hF0.on h).cells.2.1
  have q2 : ∀ w', Ext w0r w' → w'.cell? ⟨w.heap.size, 2, none⟩ = some (.int .i64 g) := fun w' h => (hF0.on h).cells.2.2
  have p0 : ∀ w', Ext w0r w' → w'.cell? ⟨w.heap.size + 1, 0, none⟩ = some (.string nm') := fun w' h => (hT0.on h).cells.1
  have p1 : ∀ w', Ext w0r w' → w'.cell? ⟨w.heap.size + 1, 1, none⟩ = some (.int .i64 k') := fun w' h => (hT0.on h).cells.2.1
  have p2 : ∀ w', Ext w0r w' → w'.cell? ⟨w.heap.size + 1, 2, none⟩ = some (.int .i64 g') := fun w' h => (hT0.on h).cells.2.2
  refine reg_take 0 (v := ?vz21_0) at0 (by kernel_rfl) (by kernel_rfl) (by kernel_rfl) (by rfl) ?hyz21_0 hHeld ?restz21_0
  case hyz21_0 => (intro w' hSw; go_simp; try with_reducible rfl)
  try simp only [Act.put, List.setIfInBounds_toArray, List.set_cons_zero, List.set_cons_succ]
  refine reg_take 2 (v := ?vz22_2) (atS (atS at0)) (by kernel_rfl) (by kernel_rfl) (by kernel_rfl) (by rfl) ?hyz22_2 hHeld ?restz22_2
  case hyz22_2 => (intro w' hSw; go_simp; try with_reducible rfl)
  try simp only [Act.put, List.setIfInBounds_toArray, List.set_cons_zero, List.set_cons_succ]
  refine wpAnyH_ready (rs := [1]) (by kernel_rfl) (by simp) ?_
  refine AllReadyH.cons (atS at0) (fun K hK => ?_) AllReadyH.nil
  go_simp
  go_at_call 101
  refine (klong_any _ _ _ _).mono ?_
  rintro e w2 ⟨rfl, hb2⟩
  rw [HL.out]
  go_wp2_with fail
  refine hK.out _ _ hb2 (fun hHeld => ?_)
  clear hK K
  try simp only [Act.put, List.setIfInBounds_toArray, List.set_cons_zero, List.set_cons_succ]
  refine reg_on hb2 (fun hHeld => ?_)
  have hx2 : ∀ w', Ext w2 w' → Ext w0r w' := fun w' h => hxA w' (Ext.trans hb2 h)
  refine wpAnyH_ready (rs := [3]) (by kernel_rfl) (by simp) ?_
  refine AllReadyH.cons (atS (atS (atS at0))) (fun K hK => ?_) AllReadyH.nil
  go_simp
  go_at_call 101
  refine (klong_any _ _ _ _).mono ?_
  rintro e w3 ⟨rfl, hb3⟩
  rw [HL'.out]
  go_wp2_with fail
  refine hK.out _ _ hb3 (fun hHeld => ?_)
  clear hK K
  try simp only [Act.put, List.setIfInBounds_toArray, List.set_cons_zero, List.set_cons_succ]
  refine reg_on hb3 (fun hHeld => ?_)
  have hx3 : ∀ w', Ext w3 w' → Ext w0r w' := fun w' h => hx2 w' (Ext.trans hb3 h)
  refine reg_take 4 (v := ?vz23_4) (atS (atS (atS (atS at0)))) (by kernel_rfl) (by kernel_rfl) (by kernel_rfl) (by rfl) ?hyz23_4 hHeld ?restz23_4
  case hyz23_4 => (intro w' hSw; go_simp; try with_reducible rfl)
  try simp only [Act.put, List.setIfInBounds_toArray, List.set_cons_zero, List.set_cons_succ]
  refine reg_take 5 (v := ?vz24_5) (atS5 at0) (by kernel_rfl) (by kernel_rfl) (by kernel_rfl) (by rfl) ?hyz24_5 hHeld ?restz24_5
  case hyz24_5 => (intro w' hSw; go_simp; try with_reducible rfl)
  try simp only [Act.put, List.setIfInBounds_toArray, List.set_cons_zero, List.set_cons_succ]
  refine wpAnyH_done (by kernel_rfl) ?_ _
  refine NoPanic.normal ?_
  have hE := hx3 _ (Ext.refl _)
  have hF1 := hF0.on hE
  have hT1 := hT0.on hE
  have hbE : Below w.heap.size w _ := Bt (Bt (Ba (B1 _ _) _) hx0r) hE
  clear q0 q1 q2 p0 p1 p2 hx0r hE hHeld
  obtain ⟨c0, c1, c2⟩ := hF1.cells
  obtain ⟨d0, d1, d2⟩ := hT1.cells
  go_wp2_with fail
  go_at_call 162
  refine (among_new _ _ _).mono ?_
  rintro e wu ⟨up, rfl, uh, ub⟩
  have hF1a := hF1.on ub
  have hT1a := hT1.on ub
  have hbE1 := Bt hbE ub
  clear c0 c1 c2 d0 d1 d2
  obtain ⟨c0, c1, c2⟩ := hF1a.cells
  obtain ⟨d0, d1, d2⟩ := hT1a.cells
  go_wp2_with fail
  go_at_call 162
  refine (among_new _ _ _).mono ?_
  rintro e ws ⟨sp, rfl, sh, sb⟩
  have hF2a := hF1a.on sb
  have hT2a := hT1a.on sb
  have hbE2 := Bt hbE1 sb
  have uh2 := uh.on sb
  clear c0 c1 c2 d0 d1 d2
  obtain ⟨c0, c1, c2⟩ := hF2a.cells
  obtain ⟨d0, d1, d2⟩ := hT2a.cells
  go_wp2_with fail
  go_at_call 162
  refine (among_new _ _ _).mono ?_
  rintro e wn ⟨np, rfl, nh, nb⟩
  have hF3a := hF2a.on nb
  have hT3a := hT2a.on nb
  have hbE3 := Bt hbE2 nb
  have uh3 := uh2.on nb
  have sh3 := sh.on nb
  clear c0 c1 c2 d0 d1 d2
  obtain ⟨c0, c1, c2⟩ := hF3a.cells
  obtain ⟨d0, d1, d2⟩ := hT3a.cells
  go_wp2_with fail
  go_ret
  exact ⟨rfl, hbE3⟩
set_option maxHeartbeats 2000000 in
theorem kcasts_D (nm nm' : ByteArray) (k g k' g' L L' : Int) (w : World) (HL : Hid (longF k g = L)) (HL' : Hid (longF k' g' = L')) (hl : (L == 0) = false) (hl' : (L' == 0) = false) (hk : k ≠ k') (h10 : k' ≠ 10) (hk10 : k ≠ 10) (h9 : k = 9) (HA : Hid (amB 1 4 k' = true)) (x : Bool) (hx : decide (L ≤ L') = x) :
    Calls Tryz.prog 164 #[.agg #[.string nm, .int .i64 k, .int .i64 g], .agg #[.string nm', .int .i64 k', .int .i64 g']] w fun e w' => e = .returned (.bool x) ∧ Below w.heap.size w w' := by
  have b1 : (k == k') = false := by simpa using hk
  have b2 : (k' == 10) = false := by simpa using h10
  have b3 : (k == 10) = false := by simpa using hk10
  have b4 : (k == 9) = true := by simpa using h9
  clear hk h10 hk10 h9
  go_enter Tryz.func164, Tryz.ntmps164
  go_wp2_with fail
  have hF := (fb_new w nm k g).alloc (.cells #[.string nm', .int .i64 k', .int .i64 g'] 68)
  have hT := fb_new2 w (.cells #[.string nm, .int .i64 k, .int .i64 g] 68) nm' k' g'
  refine reg_begin (by kernel_rfl) (fun w0r hx0r hHeld => ?_)
  have hF0 := hF.on hx0r
  have hT0 := hT.on hx0r
  have hxA : ∀ w', Ext w0r w' → Ext w0r w' := fun _ h => h
  have q0 : ∀ w', Ext w0r w' → w'.cell? ⟨w.heap.size, 0, none⟩ = some (.string nm) := fun w' h => (hF0.on h).cells.1
  have q1 : ∀ w', Ext w0r w' → w'.cell? ⟨w.heap.size, 1, none⟩ = some (.int .i64 k) := fun w' h => (hF0.on h).cells.2.1
  have q2 : ∀ w', Ext w0r w' → w'.cell? ⟨w.heap.size, 2, none⟩ = some (.int .i64 g) := fun w' h => (hF0.on h).cells.2.2
  have p0 : ∀ w', Ext w0r w' → w'.cell? ⟨w.heap.size + 1, 0, none⟩ = some (.string nm') := fun w' h => (hT0.on h).cells.1
  have p1 : ∀ w', Ext w0r w' → w'.cell? ⟨w.heap.size + 1, 1, none⟩ = some (.int .i64 k') := fun w' h => (hT0.on h).cells.2.1
  have p2 : ∀ w', Ext w0r w' → w'.cell? ⟨w.heap.size + 1, 2, none⟩ = some (.int .i64 g') := fun w' h => (hT0.on h).cells.2.2
  refine reg_take 0 (v := ?vz26_0) at0 (by kernel_rfl) (by kernel_rfl) (by kernel_rfl) (by rfl) ?hyz26_0 hHeld ?restz26_0
  case hyz26_0 => (intro w' hSw; go_simp; try with_reducible rfl)
  try simp only [Act.put, List.setIfInBounds_toArray, List.set_cons_zero, List.set_cons_succ]
  refine reg_take 2 (v := ?vz27_2) (atS (atS at0)) (by kernel_rfl) (by kernel_rfl) (by kernel_rfl) (by rfl) ?hyz27_2 hHeld ?restz27_2
  case hyz27_2 => (intro w' hSw; go_simp; try with_reducible rfl)
  try simp only [Act.put, List.setIfInBounds_toArray, List.set_cons_zero, List.set_cons_succ]
  refine wpAnyH_ready (rs := [1]) (by kernel_rfl) (by simp) ?_
  refine AllReadyH.cons (atS at0) (fun K hK => ?_) AllReadyH.nil
  go_simp
  go_at_call 101
  refine (klong_any _ _ _ _).mono ?_
  rintro e w2 ⟨rfl, hb2⟩
  rw [HL.out]
  go_wp2_with fail
  refine hK.out _ _ hb2 (fun hHeld => ?_)
  clear hK K
  try simp only [Act.put, List.setIfInBounds_toArray, List.set_cons_zero, List.set_cons_succ]
  refine reg_on hb2 (fun hHeld => ?_)
  have hx2 : ∀ w', Ext w2 w' → Ext w0r w' := fun w' h => hxA w' (Ext.trans hb2 h)
  refine wpAnyH_ready (rs := [3]) (by kernel_rfl) (by simp) ?_
  refine AllReadyH.cons (atS (atS (atS at0))) (fun K hK => ?_) AllReadyH.nil
  go_simp
  go_at_call 101
  refine (klong_any _ _ _ _).mono ?_
  rintro e w3 ⟨rfl, hb3⟩
  rw [HL'.out]
  go_wp2_with fail
  refine hK.out _ _ hb3 (fun hHeld => ?_)
  clear hK K
  try simp only [Act.put, List.setIfInBounds_toArray, List.set_cons_zero, List.set_cons_succ]
  refine reg_on hb3 (fun hHeld => ?_)
  have hx3 : ∀ w', Ext w3 w' → Ext w0r w' := fun w' h => hx2 w' (Ext.trans hb3 h)
  refine reg_take 4 (v := ?vz28_4) (atS (atS (atS (atS at0)))) (by kernel_rfl) (by kernel_rfl) (by kernel_rfl) (by rfl) ?hyz28_4 hHeld ?restz28_4
  case hyz28_4 => (intro w' hSw; go_simp; try with_reducible rfl)
  try simp only [Act.put, List.setIfInBounds_toArray, List.set_cons_zero, List.set_cons_succ]
  refine reg_take 5 (v := ?vz29_5) (atS5 at0) (by kernel_rfl) (by kernel_rfl) (by kernel_rfl) (by rfl) ?hyz29_5 hHeld ?restz29_5
  case hyz29_5 => (intro w' hSw; go_simp; try with_reducible rfl)
  try simp only [Act.put, List.setIfInBounds_toArray, List.set_cons_zero, List.set_cons_succ]
  refine wpAnyH_done (by kernel_rfl) ?_ _
  refine NoPanic.normal ?_
  have hE := hx3 _ (Ext.refl _)
  have hF1 := hF0.on hE
  have hT1 := hT0.on hE
  have hbE : Below w.heap.size w _ := Bt (Bt (Ba (B1 _ _) _) hx0r) hE
  clear q0 q1 q2 p0 p1 p2 hx0r hE hHeld
  obtain ⟨c0, c1, c2⟩ := hF1.cells
  obtain ⟨d0, d1, d2⟩ := hT1.cells
  go_wp2_with fail
  go_at_call 162
  refine (among_new _ _ _).mono ?_
  rintro e wu ⟨up, rfl, uh, ub⟩
  have hF1a := hF1.on ub
  have hT1a := hT1.on ub
  have hbE1 := Bt hbE ub
  clear c0 c1 c2 d0 d1 d2
  obtain ⟨c0, c1, c2⟩ := hF1a.cells
  obtain ⟨d0, d1, d2⟩ := hT1a.cells
  go_wp2_with fail
  go_at_call 162
  refine (among_new _ _ _).mono ?_
  rintro e ws ⟨sp, rfl, sh, sb⟩
  have hF2a := hF1a.on sb
  have hT2a := hT1a.on sb
  have hbE2 := Bt hbE1 sb
  have uh2 := uh.on sb
  clear c0 c1 c2 d0 d1 d2
  obtain ⟨c0, c1, c2⟩ := hF2a.cells
  obtain ⟨d0, d1, d2⟩ := hT2a.cells
  go_wp2_with fail
  go_at_call 162
  refine (among_new _ _ _).mono ?_
  rintro e wn ⟨np, rfl, nh, nb⟩
  have hF3a := hF2a.on nb
  have hT3a := hT2a.on nb
  have hbE3 := Bt hbE2 nb
  have uh3 := uh2.on nb
  have sh3 := sh.on nb
  clear c0 c1 c2 d0 d1 d2
  obtain ⟨c0, c1, c2⟩ := hF3a.cells
  obtain ⟨d0, d1, d2⟩ := hT3a.cells
  go_wp2_with fail
  go_at_call 188
  refine (among_ask _ uh3).mono ?_
  rintro e wq ⟨rfl, rfl⟩
  rw [HA.out]
  go_wp2_with fail
  go_ret
  exact ⟨rfl, hbE3⟩
set_option maxHeartbeats 2000000 in
theorem kcasts_E1 (nm nm' : ByteArray) (k g k' g' L L' : Int) (w : World) (HL : Hid (longF k g = L)) (HL' : Hid (longF k' g' = L')) (hl : (L == 0) = false) (hl' : (L' == 0) = false) (hk : k ≠ k') (h10 : k' ≠ 10) (hk10 : k ≠ 10) (h9 : k = 9) (HA : Hid (amB 1 4 k' = false)) (HB : Hid (amB 1 8 k' = true)) (x : Bool) (hx : decide (L < L') = x) :
    Calls Tryz.prog 164 #[.agg #[.string nm, .int .i64 k, .int .i64 g], .agg #[.string nm', .int .i64 k', .int .i64 g']] w fun e w' => e = .returned (.bool x) ∧ Below w.heap.size w w' := by
  have b1 : (k == k') = false := by simpa using hk
  have b2 : (k' == 10) = false := by simpa using h10
  have b3 : (k == 10) = false := by simpa using hk10
  have b4 : (k == 9) = true := by simpa using h9
  clear hk h10 hk10 h9
  go_enter Tryz.func164, Tryz.ntmps164
  go_wp2_with fail
  have hF := (fb_new w nm k g).alloc (.cells #[.string nm', .int .i64 k', .int .i64 g'] 68)
  have hT := fb_new2 w (.cells #[.string nm, .int .i64 k, .int .i64 g] 68) nm' k' g'
  refine reg_begin (by kernel_rfl) (fun w0r hx0r hHeld => ?_)
  have hF0 := hF.on hx0r
  have hT0 := hT.on hx0r
  have hxA : ∀ w', Ext w0r w' → Ext w0r w' := fun _ h => h
  have q0 : ∀ w', Ext w0r w' → w'.cell? ⟨w.heap.size, 0, none⟩ = some (.string nm) := fun w' h => (hF0.on h).cells.1
  have q1 : ∀ w', Ext w0r w' → w'.cell? ⟨w.heap.size, 1, none⟩ = some (.int .i64 k) := fun w' h => (hF0.on h).cells.2.1
  have q2 : ∀ w', Ext w0r w' → w'.cell? ⟨w.heap.size, 2, none⟩ = some (.int .i64 g) := fun w' h => (hF0.on h).cells.2.2
  have p0 : ∀ w', Ext w0r w' → w'.cell? ⟨w.heap.size + 1, 0, none⟩ = some (.string nm') := fun w' h => (hT0.on h).cells.1
  have p1 : ∀ w', Ext w0r w' → w'.cell? ⟨w.heap.size + 1, 1, none⟩ = some (.int .i64 k') := fun w' h => (hT0.on h).cells.2.1
  have p2 : ∀ w', Ext w0r w' → w'.cell? ⟨w.heap.size + 1, 2, none⟩ = some (.int .i64 g') := fun w' h => (hT0.on h).cells.2.2
  refine reg_take 0 (v := ?vz31_0) at0 (by kernel_rfl) (by kernel_rfl) (by kernel_rfl) (by rfl) ?hyz31_0 hHeld ?restz31_0
  case hyz31_0 => (intro w' hSw; go_simp; try with_reducible rfl)
  try simp only [Act.put, List.setIfInBounds_toArray, List.set_cons_zero, List.set_cons_succ]
  refine reg_take 2 (v := ?vz32_2) (atS (atS at0)) (by kernel_rfl) (by kernel_rfl) (by kernel_rfl) (by rfl) ?hyz32_2 hHeld ?restz32_2
  case hyz32_2 => (intro w' hSw; go_simp; try with_reducible rfl)
  try simp only [Act.put, List.setIfInBounds_toArray, List.set_cons_zero, List.set_cons_succ]
  refine wpAnyH_ready (rs := [1]) (by kernel_rfl) (by simp) ?_
  refine AllReadyH.cons (atS at0) (fun K hK => ?_) AllReadyH.nil
  go_simp
  go_at_call 101
  refine (klong_any _ _ _ _).mono ?_
  rintro e w2 ⟨rfl, hb2⟩
  rw [HL.out]
  go_wp2_with fail
  refine hK.out _ _ hb2 (fun hHeld => ?_)
  clear hK K
  try simp only [Act.put, List.setIfInBounds_toArray, List.set_cons_zero, List.set_cons_succ]
  refine reg_on hb2 (fun hHeld => ?_)
  have hx2 : ∀ w', Ext w2 w' → Ext w0r w' := fun w' h => hxA w' (Ext.trans hb2 h)
  refine wpAnyH_ready (rs := [3]) (by kernel_rfl) (by simp) ?_
  refine AllReadyH.cons (atS (atS (atS at0))) (fun K hK => ?_) AllReadyH.nil
  go_simp
  go_at_call 101
  refine (klong_any _ _ _ _).mono ?_
  rintro e w3 ⟨rfl, hb3⟩
  rw [HL'.out]
  go_wp2_with fail
  refine hK.out _ _ hb3 (fun hHeld => ?_)
  clear hK K
  try simp only [Act.put, List.setIfInBounds_toArray, List.set_cons_zero, List.set_cons_succ]
  refine reg_on hb3 (fun hHeld => ?_)
  have hx3 : ∀ w', Ext w3 w' → Ext w0r w' := fun w' h => hx2 w' (Ext.trans hb3 h)
  refine reg_take 4 (v := ?vz33_4) (atS (atS (atS (atS at0)))) (by kernel_rfl) (by kernel_rfl) (by kernel_rfl) (by rfl) ?hyz33_4 hHeld ?restz33_4
  case hyz33_4 => (intro w' hSw; go_simp; try with_reducible rfl)
  try simp only [Act.put, List.setIfInBounds_toArray, List.set_cons_zero, List.set_cons_succ]
  refine reg_take 5 (v := ?vz34_5) (atS5 at0) (by kernel_rfl) (by kernel_rfl) (by kernel_rfl) (by rfl) ?hyz34_5 hHeld ?restz34_5
  case hyz34_5 => (intro w' hSw; go_simp; try with_reducible rfl)
  try simp only [Act.put, List.setIfInBounds_toArray, List.set_cons_zero, List.set_cons_succ]
  refine wpAnyH_done (by kernel_rfl) ?_ _
  refine NoPanic.normal ?_
  have hE := hx3 _ (Ext.refl _)
  have hF1 := hF0.on hE
  have hT1 := hT0.on hE
  have hbE : Below w.heap.size w _ := Bt (Bt (Ba (B1 _ _) _) hx0r) hE
  clear q0 q1 q2 p0 p1 p2 hx0r hE hHeld
  obtain ⟨c0, c1, c2⟩ := hF1.cells
  obtain ⟨d0, d1, d2⟩ := hT1.cells
  go_wp2_with fail
  go_at_call 162
  refine (among_new _ _ _).mono ?_
  rintro e wu ⟨up, rfl, uh, ub⟩
  have hF1a := hF1.on ub
  have hT1a := hT1.on ub
  have hbE1 := Bt hbE ub
  clear c0 c1 c2 d0 d1 d2
  obtain ⟨c0, c1, c2⟩ := hF1a.cells
  obtain ⟨d0, d1, d2⟩ := hT1a.cells
  go_wp2_with fail
  go_at_call 162
  refine (among_new _ _ _).mono ?_
  rintro e ws ⟨sp, rfl, sh, sb⟩
  have hF2a := hF1a.on sb
  have hT2a := hT1a.on sb
  have hbE2 := Bt hbE1 sb
  have uh2 := uh.on sb
  clear c0 c1 c2 d0 d1 d2
  obtain ⟨c0, c1, c2⟩ := hF2a.cells
  obtain ⟨d0, d1, d2⟩ := hT2a.cells
  go_wp2_with fail
  go_at_call 162
  refine (among_new _ _ _).mono ?_
  rintro e wn ⟨np, rfl, nh, nb⟩
  have hF3a := hF2a.on nb
  have hT3a := hT2a.on nb
  have hbE3 := Bt hbE2 nb
  have uh3 := uh2.on nb
  have sh3 := sh.on nb
  clear c0 c1 c2 d0 d1 d2
  obtain ⟨c0, c1, c2⟩ := hF3a.cells
  obtain ⟨d0, d1, d2⟩ := hT3a.cells
  go_wp2_with fail
  go_at_call 188
  refine (among_ask _ uh3).mono ?_
  rintro e wq ⟨rfl, rfl⟩
  rw [HA.out]
  go_wp2_with fail
  go_at_call 188
  refine (among_ask _ nh).mono ?_
  rintro e wq ⟨rfl, rfl⟩
  rw [HB.out]
  go_wp2_with fail
  go_ret
  exact ⟨rfl, hbE3⟩
set_option maxHeartbeats 2000000 in
theorem kcasts_E2 (nm nm' : ByteArray) (k g k' g' L L' : Int) (w : World) (HL : Hid (longF k g = L)) (HL' : Hid (longF k' g' = L')) (hl : (L == 0) = false) (hl' : (L' == 0) = false) (hk : k ≠ k') (h10 : k' ≠ 10) (hk10 : k ≠ 10) (h9 : k = 9) (HA : Hid (amB 1 4 k' = false)) (HB : Hid (amB 1 8 k' = false)) :
    Calls Tryz.prog 164 #[.agg #[.string nm, .int .i64 k, .int .i64 g], .agg #[.string nm', .int .i64 k', .int .i64 g']] w fun e w' => e = .returned (.bool false) ∧ Below w.heap.size w w' := by
  have b1 : (k == k') = false := by simpa using hk
  have b2 : (k' == 10) = false := by simpa using h10
  have b3 : (k == 10) = false := by simpa using hk10
  have b4 : (k == 9) = true := by simpa using h9
  clear hk h10 hk10 h9
  go_enter Tryz.func164, Tryz.ntmps164
  go_wp2_with fail
  have hF := (fb_new w nm k g).alloc (.cells #[.string nm', .int .i64 k', .int .i64 g'] 68)
  have hT := fb_new2 w (.cells #[.string nm, .int .i64 k, .int .i64 g] 68) nm' k' g'
  refine reg_begin (by kernel_rfl) (fun w0r hx0r hHeld => ?_)
  have hF0 := hF.on hx0r
  have hT0 := hT.on hx0r
  have hxA : ∀ w', Ext w0r w' → Ext w0r w' := fun _ h => h
  have q0 : ∀ w', Ext w0r w' → w'.cell? ⟨w.heap.size, 0, none⟩ = some (.string nm) := fun w' h => (hF0.on h).cells.1
  have q1 : ∀ w', Ext w0r w' → w'.cell? ⟨w.heap.size, 1, none⟩ = some (.int .i64 k) := fun w' h => (hF0.on h).cells.2.1
  have q2 : ∀ w', Ext w0r w' → w'.cell? ⟨w.heap.size, 2, none⟩ = some (.int .i64 g) := fun w' h => (hF0.on h).cells.2.2
  have p0 : ∀ w', Ext w0r w' → w'.cell? ⟨w.heap.size + 1, 0, none⟩ = some (.string nm') := fun w' h => (hT0.on h).cells.1
  have p1 : ∀ w', Ext w0r w' → w'.cell? ⟨w.heap.size + 1, 1, none⟩ = some (.int .i64 k') := fun w' h => (hT0.on h).cells.2.1
  have p2 : ∀ w', Ext w0r w' → w'.cell? ⟨w.heap.size + 1, 2, none⟩ = some (.int .i64 g') := fun w' h => (hT0.on h).cells.2.2
  refine reg_take 0 (v := ?vz36_0) at0 (by kernel_rfl) (by kernel_rfl) (by kernel_rfl) (by rfl) ?hyz36_0 hHeld ?restz36_0
  case hyz36_0 => (intro w' hSw; go_simp; try with_reducible rfl)
  try simp only [Act.put, List.setIfInBounds_toArray, List.set_cons_zero, List.set_cons_succ]
  refine reg_take 2 (v := ?vz37_2) (atS (atS at0)) (by kernel_rfl) (by kernel_rfl) (by kernel_rfl) (by rfl) ?hyz37_2 hHeld ?restz37_2
  case hyz37_2 => (intro w' hSw; go_simp; try with_reducible rfl)
  try simp only [Act.put, List.setIfInBounds_toArray, List.set_cons_zero, List.set_cons_succ]
  refine wpAnyH_ready (rs := [1]) (by kernel_rfl) (by simp) ?_
  refine AllReadyH.cons (atS at0) (fun K hK => ?_) AllReadyH.nil
  go_simp
  go_at_call 101
  refine (klong_any _ _ _ _).mono ?_
  rintro e w2 ⟨rfl, hb2⟩
  rw [HL.out]
  go_wp2_with fail
  refine hK.out _ _ hb2 (fun hHeld => ?_)
  clear hK K
  try simp only [Act.put, List.setIfInBounds_toArray, List.set_cons_zero, List.set_cons_succ]
  refine reg_on hb2 (fun hHeld => ?_)
  have hx2 : ∀ w', Ext w2 w' → Ext w0r w' := fun w' h => hxA w' (Ext.trans hb2 h)
  refine wpAnyH_ready (rs := [3]) (by kernel_rfl) (by simp) ?_
  refine AllReadyH.cons (atS (atS (atS at0))) (fun K hK => ?_) AllReadyH.nil
  go_simp
  go_at_call 101
  refine (klong_any _ _ _ _).mono ?_
  rintro e w3 ⟨rfl, hb3⟩
  rw [HL'.out]
  go_wp2_with fail
  refine hK.out _ _ hb3 (fun hHeld => ?_)
  clear hK K
  try simp only [Act.put, List.setIfInBounds_toArray, List.set_cons_zero, List.set_cons_succ]
  refine reg_on hb3 (fun hHeld => ?_)
  have hx3 : ∀ w', Ext w3 w' → Ext w0r w' := fun w' h => hx2 w' (Ext.trans hb3 h)
  refine reg_take 4 (v := ?vz38_4) (atS (atS (atS (atS at0)))) (by kernel_rfl) (by kernel_rfl) (by kernel_rfl) (by rfl) ?hyz38_4 hHeld ?restz38_4
  case hyz38_4 => (intro w' hSw; go_simp; try with_reducible rfl)
  try simp only [Act.put, List.setIfInBounds_toArray, List.set_cons_zero, List.set_cons_succ]
  refine reg_take 5 (v := ?vz39_5) (atS5 at0) (by kernel_rfl) (by kernel_rfl) (by kernel_rfl) (by rfl) ?hyz39_5 hHeld ?restz39_5
  case hyz39_5 => (intro w' hSw; go_simp; try with_reducible rfl)
  try simp only [Act.put, List.setIfInBounds_toArray, List.set_cons_zero, List.set_cons_succ]
  refine wpAnyH_done (by kernel_rfl) ?_ _
  refine NoPanic.normal ?_
  have hE := hx3 _ (Ext.refl _)
  have hF1 := hF0.on hE
  have hT1 := hT0.on hE
  have hbE : Below w.heap.size w _ := Bt (Bt (Ba (B1 _ _) _) hx0r) hE
  clear q0 q1 q2 p0 p1 p2 hx0r hE hHeld
  obtain ⟨c0, c1, c2⟩ := hF1.cells
  obtain ⟨d0, d1, d2⟩ := hT1.cells
  go_wp2_with fail
  go_at_call 162
  refine (among_new _ _ _).mono ?_
  rintro e wu ⟨up, rfl, uh, ub⟩
  have hF1a := hF1.on ub
  have hT1a := hT1.on ub
  have hbE1 := Bt hbE ub
  clear c0 c1 c2 d0 d1 d2
  obtain ⟨c0, c1, c2⟩ := hF1a.cells
  obtain ⟨d0, d1, d2⟩ := hT1a.cells
  go_wp2_with fail
  go_at_call 162
  refine (among_new _ _ _).mono ?_
  rintro e ws ⟨sp, rfl, sh, sb⟩
  have hF2a := hF1a.on sb
  have hT2a := hT1a.on sb
  have hbE2 := Bt hbE1 sb
  have uh2 := uh.on sb
  clear c0 c1 c2 d0 d1 d2
  obtain ⟨c0, c1, c2⟩ := hF2a.cells
  obtain ⟨d0, d1, d2⟩ := hT2a.cells
  go_wp2_with fail
  go_at_call 162
  refine (among_new _ _ _).mono ?_
  rintro e wn ⟨np, rfl, nh, nb⟩
  have hF3a := hF2a.on nb
  have hT3a := hT2a.on nb
  have hbE3 := Bt hbE2 nb
  have uh3 := uh2.on nb
  have sh3 := sh.on nb
  clear c0 c1 c2 d0 d1 d2
  obtain ⟨c0, c1, c2⟩ := hF3a.cells
  obtain ⟨d0, d1, d2⟩ := hT3a.cells
  go_wp2_with fail
  go_at_call 188
  refine (among_ask _ uh3).mono ?_
  rintro e wq ⟨rfl, rfl⟩
  rw [HA.out]
  go_wp2_with fail
  go_at_call 188
  refine (among_ask _ nh).mono ?_
  rintro e wq ⟨rfl, rfl⟩
  rw [HB.out]
  go_wp2_with fail
  go_ret
  exact ⟨rfl, hbE3⟩
set_option maxHeartbeats 2000000 in
theorem kcasts_F1 (nm nm' : ByteArray) (k g k' g' L L' : Int) (w : World) (HL : Hid (longF k g = L)) (HL' : Hid (longF k' g' = L')) (hl : (L == 0) = false) (hl' : (L' == 0) = false) (hk : k ≠ k') (h10 : k' ≠ 10) (hk10 : k ≠ 10) (h9 : k ≠ 9) (HA : Hid (amB 1 4 k = true)) (HB : Hid (amB 1 8 k' = true)) (x : Bool) (hx : decide (L < L') = x) :
    Calls Tryz.prog 164 #[.agg #[.string nm, .int .i64 k, .int .i64 g], .agg #[.string nm', .int .i64 k', .int .i64 g']] w fun e w' => e = .returned (.bool x) ∧ Below w.heap.size w w' := by
  have b1 : (k == k') = false := by simpa using hk
  have b2 : (k' == 10) = false := by simpa using h10
  have b3 : (k == 10) = false := by simpa using hk10
  have b4 : (k == 9) = false := by simpa using h9
  clear hk h10 hk10 h9
  go_enter Tryz.func164, Tryz.ntmps164
  go_wp2_with fail
  have hF := (fb_new w nm k g).alloc (.cells #[.string nm', .int .i64 k', .int .i64 g'] 68)
  have hT := fb_new2 w (.cells #[.string nm, .int .i64 k, .int .i64 g] 68) nm' k' g'
  refine reg_begin (by kernel_rfl) (fun w0r hx0r hHeld => ?_)
  have hF0 := hF.on hx0r
  have hT0 := hT.on hx0r
  have hxA : ∀ w', Ext w0r w' → Ext w0r w' := fun _ h => h
  have q0 : ∀ w', Ext w0r w' → w'.cell? ⟨w.heap.size, 0, none⟩ = some (.string nm) := fun w' h => (hF0.on h).cells.1
  have q1 : ∀ w', Ext w0r w' → w'.cell? ⟨w.heap.size, 1, none⟩ = some (.int .i64 k) := fun w' h => (hF0.on h).cells.2.1
  have q2 : ∀ w', Ext w0r w' → w'.cell? ⟨w.heap.size, 2, none⟩ = some (.int .i64 g) := fun w' h => (hF0.on h).cells.2.2
  have p0 : ∀ w', Ext w0r w' → w'.cell? ⟨w.heap.size + 1, 0, none⟩ = some (.string nm') := fun w' h => (hT0.on h).cells.1
  have p1 : ∀ w', Ext w0r w' → w'.cell? ⟨w.heap.size + 1, 1, none⟩ = some (.int .i64 k') := fun w' h => (hT0.on h).cells.2.1
  have p2 : ∀ w', Ext w0r w' → w'.cell? ⟨w.heap.size + 1, 2, none⟩ = some (.int .i64 g') := fun w' h => (hT0.on h).cells.2.2
  refine reg_take 0 (v := ?vz41_0) at0 (by kernel_rfl) (by kernel_rfl) (by kernel_rfl) (by rfl) ?hyz41_0 hHeld ?restz41_0
  case hyz41_0 => (intro w' hSw; go_simp; try with_reducible rfl)
  try simp only [Act.put, List.setIfInBounds_toArray, List.set_cons_zero, List.set_cons_succ]
  refine reg_take 2 (v := ?vz42_2) (atS (atS at0)) (by kernel_rfl) (by kernel_rfl) (by kernel_rfl) (by rfl) ?hyz42_2 hHeld ?restz42_2
  case hyz42_2 => (intro w' hSw; go_simp; try with_reducible rfl)
  try simp only [Act.put, List.setIfInBounds_toArray, List.set_cons_zero, List.set_cons_succ]
  refine wpAnyH_ready (rs := [1]) (by kernel_rfl) (by simp) ?_
  refine AllReadyH.cons (atS at0) (fun K hK => ?_) AllReadyH.nil
  go_simp
  go_at_call 101
  refine (klong_any _ _ _ _).mono ?_
  rintro e w2 ⟨rfl, hb2⟩
  rw [HL.out]
  go_wp2_with fail
  refine hK.out _ _ hb2 (fun hHeld => ?_)
  clear hK K
  try simp only [Act.put, List.setIfInBounds_toArray, List.set_cons_zero, List.set_cons_succ]
  refine reg_on hb2 (fun hHeld => ?_)
  have hx2 : ∀ w', Ext w2 w' → Ext w0r w' := fun w' h => hxA w' (Ext.trans hb2 h)
  refine wpAnyH_ready (rs := [3]) (by kernel_rfl) (by simp) ?_
  refine AllReadyH.cons (atS (atS (atS at0))) (fun K hK => ?_) AllReadyH.nil
  go_simp
  go_at_call 101
  refine (klong_any _ _ _ _).mono ?_
  rintro e w3 ⟨rfl, hb3⟩
  rw [HL'.out]
  go_wp2_with fail
  refine hK.out _ _ hb3 (fun hHeld => ?_)
  clear hK K
  try simp only [Act.put, List.setIfInBounds_toArray, List.set_cons_zero, List.set_cons_succ]
  refine reg_on hb3 (fun hHeld => ?_)
  have hx3 : ∀ w', Ext w3 w' → Ext w0r w' := fun w' h => hx2 w' (Ext.trans hb3 h)
  refine reg_take 4 (v := ?vz43_4) (atS (atS (atS (atS at0)))) (by kernel_rfl) (by kernel_rfl) (by kernel_rfl) (by rfl) ?hyz43_4 hHeld ?restz43_4
  case hyz43_4 => (intro w' hSw; go_simp; try with_reducible rfl)
  try simp only [Act.put, List.setIfInBounds_toArray, List.set_cons_zero, List.set_cons_succ]
  refine reg_take 5 (v := ?vz44_5) (atS5 at0) (by kernel_rfl) (by kernel_rfl) (by kernel_rfl) (by rfl) ?hyz44_5 hHeld ?restz44_5
  case hyz44_5 => (intro w' hSw; go_simp; try with_reducible rfl)
  try simp only [Act.put, List.setIfInBounds_toArray, List.set_cons_zero, List.set_cons_succ]
  refine wpAnyH_done (by kernel_rfl) ?_ _
  refine NoPanic.normal ?_
  have hE := hx3 _ (Ext.refl _)
  have hF1 := hF0.on hE
  have hT1 := hT0.on hE
  have hbE : Below w.heap.size w _ := Bt (Bt (Ba (B1 _ _) _) hx0r) hE
  clear q0 q1 q2 p0 p1 p2 hx0r hE hHeld
  obtain ⟨c0, c1, c2⟩ := hF1.cells
  obtain ⟨d0, d1, d2⟩ := hT1.cells
  go_wp2_with fail
  go_at_call 162
  refine (among_new _ _ _).mono ?_
  rintro e wu ⟨up, rfl, uh, ub⟩
  have hF1a := hF1.on ub
  have hT1a := hT1.on ub
  have hbE1 := Bt hbE ub
  clear c0 c1 c2 d0 d1 d2
  obtain ⟨c0, c1, c2⟩ := hF1a.cells
  obtain ⟨d0, d1, d2⟩ := hT1a.cells
  go_wp2_with fail
  go_at_call 162
  refine (among_new _ _ _).mono ?_
  rintro e ws ⟨sp, rfl, sh, sb⟩
  have hF2a := hF1a.on sb
  have hT2a := hT1a.on sb
  have hbE2 := Bt hbE1 sb
  have uh2 := uh.on sb
  clear c0 c1 c2 d0 d1 d2
  obtain ⟨c0, c1, c2⟩ := hF2a.cells
  obtain ⟨d0, d1, d2⟩ := hT2a.cells
  go_wp2_with fail
  go_at_call 162
  refine (among_new _ _ _).mono ?_
  rintro e wn ⟨np, rfl, nh, nb⟩
  have hF3a := hF2a.on nb
  have hT3a := hT2a.on nb
  have hbE3 := Bt hbE2 nb
  have uh3 := uh2.on nb
  have sh3 := sh.on nb
  clear c0 c1 c2 d0 d1 d2
  obtain ⟨c0, c1, c2⟩ := hF3a.cells
  obtain ⟨d0, d1, d2⟩ := hT3a.cells
  go_wp2_with fail
  go_at_call 188
  refine (among_ask _ uh3).mono ?_
  rintro e wq ⟨rfl, rfl⟩
  rw [HA.out]
  go_wp2_with fail
  go_at_call 188
  refine (among_ask _ nh).mono ?_
  rintro e wq ⟨rfl, rfl⟩
  rw [HB.out]
  go_wp2_with fail
  go_ret
  exact ⟨rfl, hbE3⟩
set_option maxHeartbeats 2000000 in
theorem kcasts_F2 (nm nm' : ByteArray) (k g k' g' L L' : Int) (w : World) (HL : Hid (longF k g = L)) (HL' : Hid (longF k' g' = L')) (hl : (L == 0) = false) (hl' : (L' == 0) = false) (hk : k ≠ k') (h10 : k' ≠ 10) (hk10 : k ≠ 10) (h9 : k ≠ 9) (HA : Hid (amB 1 4 k = true)) (HB : Hid (amB 1 8 k' = false)) :
    Calls Tryz.prog 164 #[.agg #[.string nm, .int .i64 k, .int .i64 g], .agg #[.string nm', .int .i64 k', .int .i64 g']] w fun e w' => e = .returned (.bool false) ∧ Below w.heap.size w w' := by
  have b1 : (k == k') = false := by simpa using hk
  have b2 : (k' == 10) = false := by simpa using h10
  have b3 : (k == 10) = false := by simpa using hk10
  have b4 : (k == 9) = false := by simpa using h9
  clear hk h10 hk10 h9
  go_enter Tryz.func164, Tryz.ntmps164
  go_wp2_with fail
  have hF := (fb_new w nm k g).alloc (.cells #[.string nm', .int .i64 k', .int .i64 g'] 68)
  have hT := fb_new2 w (.cells #[.string nm, .int .i64 k, .int .i64 g] 68) nm' k' g'
  refine reg_begin (by kernel_rfl) (fun w0r hx0r hHeld => ?_)
  have hF0 := hF.on hx0r
  have hT0 := hT.on hx0r
  have hxA : ∀ w', Ext w0r w' → Ext w0r w' := fun _ h => h
  have q0 : ∀ w', Ext w0r w' → w'.cell? ⟨w.heap.size, 0, none⟩ = some (.string nm) := fun w' h => (hF0.on h).cells.1
  have q1 : ∀ w', Ext w0r w' → w'.cell? ⟨w.heap.size, 1, none⟩ = some (.int .i64 k) := fun w' h => (hF0.on h).cells.2.1
  have q2 : ∀ w', Ext w0r w' → w'.cell? ⟨w.heap.size, 2, none⟩ = some (.int .i64 g) := fun w' h => (hF0.on h).cells.2.2
  have p0 : ∀ w', Ext w0r w' → w'.cell? ⟨w.heap.size + 1, 0, none⟩ = some (.string nm') := fun w' h => (hT0.on h).cells.1
  have p1 : ∀ w', Ext w0r w' → w'.cell? ⟨w.heap.size + 1, 1, none⟩ = some (.int .i64 k') := fun w' h => (hT0.on h).cells.2.1
  have p2 : ∀ w', Ext w0r w' → w'.cell? ⟨w.heap.size + 1, 2, none⟩ = some (.int .i64 g') := fun w' h => (hT0.on h).cells.2.2
  refine reg_take 0 (v := ?vz46_0) at0 (by kernel_rfl) (by kernel_rfl) (by kernel_rfl) (by rfl) ?hyz46_0 hHeld ?restz46_0
  case hyz46_0 => (intro w' hSw; go_simp; try with_reducible rfl)
  try simp only [Act.put, List.setIfInBounds_toArray, List.set_cons_zero, List.set_cons_succ]
  refine reg_take 2 (v := ?vz47_2) (atS (atS at0)) (by kernel_rfl) (by kernel_rfl) (by kernel_rfl) (by rfl) ?hyz47_2 hHeld ?restz47_2
  case hyz47_2 => (intro w' hSw; go_simp; try with_reducible rfl)
  try simp only [Act.put, List.setIfInBounds_toArray, List.set_cons_zero, List.set_cons_succ]
  refine wpAnyH_ready (rs := [1]) (by kernel_rfl) (by simp) ?_
  refine AllReadyH.cons (atS at0) (fun K hK => ?_) AllReadyH.nil
  go_simp
  go_at_call 101
  refine (klong_any _ _ _ _).mono ?_
  rintro e w2 ⟨rfl, hb2⟩
  rw [HL.out]
  go_wp2_with fail
  refine hK.out _ _ hb2 (fun hHeld => ?_)
  clear hK K
  try simp only [Act.put, List.setIfInBounds_toArray, List.set_cons_zero, List.set_cons_succ]
  refine reg_on hb2 (fun hHeld => ?_)
  have hx2 : ∀ w', Ext w2 w' → Ext w0r w' := fun w' h => hxA w' (Ext.trans hb2 h)
  refine wpAnyH_ready (rs := [3]) (by kernel_rfl) (by simp) ?_
  refine AllReadyH.cons (atS (atS (atS at0))) (fun K hK => ?_) AllReadyH.nil
  go_simp
  go_at_call 101
  refine (klong_any _ _ _ _).mono ?_
  rintro e w3 ⟨rfl, hb3⟩
  rw [HL'.out]
  go_wp2_with fail
  refine hK.out _ _ hb3 (fun hHeld => ?_)
  clear hK K
  try simp only [Act.put, List.setIfInBounds_toArray, List.set_cons_zero, List.set_cons_succ]
  refine reg_on hb3 (fun hHeld => ?_)
  have hx3 : ∀ w', Ext w3 w' → Ext w0r w' := fun w' h => hx2 w' (Ext.trans hb3 h)
  refine reg_take 4 (v := ?vz48_4) (atS (atS (atS (atS at0)))) (by kernel_rfl) (by kernel_rfl) (by kernel_rfl) (by rfl) ?hyz48_4 hHeld ?restz48_4
  case hyz48_4 => (intro w' hSw; go_simp; try with_reducible rfl)
  try simp only [Act.put, List.setIfInBounds_toArray, List.set_cons_zero, List.set_cons_succ]
  refine reg_take 5 (v := ?vz49_5) (atS5 at0) (by kernel_rfl) (by kernel_rfl) (by kernel_rfl) (by rfl) ?hyz49_5 hHeld ?restz49_5
  case hyz49_5 => (intro w' hSw; go_simp; try with_reducible rfl)
  try simp only [Act.put, List.setIfInBounds_toArray, List.set_cons_zero, List.set_cons_succ]
  refine wpAnyH_done (by kernel_rfl) ?_ _
  refine NoPanic.normal ?_
  have hE := hx3 _ (Ext.refl _)
  have hF1 := hF0.on hE
  have hT1 := hT0.on hE
  have hbE : Below w.heap.size w _ := Bt (Bt (Ba (B1 _ _) _) hx0r) hE
  clear q0 q1 q2 p0 p1 p2 hx0r hE hHeld
  obtain ⟨c0, c1, c2⟩ := hF1.cells
  obtain ⟨d0, d1, d2⟩ := hT1.cells
  go_wp2_with fail
  go_at_call 162
  refine (among_new _ _ _).mono ?_
  rintro e wu ⟨up, rfl, uh, ub⟩
  have hF1a := hF1.on ub
  have hT1a := hT1.on ub
  have hbE1 := Bt hbE ub
  clear c0 c1 c2 d0 d1 d2
  obtain ⟨c0, c1, c2⟩ := hF1a.cells
  obtain ⟨d0, d1, d2⟩ := hT1a.cells
  go_wp2_with fail
  go_at_call 162
  refine (among_new _ _ _).mono ?_
  rintro e ws ⟨sp, rfl, sh, sb⟩
  have hF2a := hF1a.on sb
  have hT2a := hT1a.on sb
  have hbE2 := Bt hbE1 sb
  have uh2 := uh.on sb
  clear c0 c1 c2 d0 d1 d2
  obtain ⟨c0, c1, c2⟩ := hF2a.cells
  obtain ⟨d0, d1, d2⟩ := hT2a.cells
  go_wp2_with fail
  go_at_call 162
  refine (among_new _ _ _).mono ?_
  rintro e wn ⟨np, rfl, nh, nb⟩
  have hF3a := hF2a.on nb
  have hT3a := hT2a.on nb
  have hbE3 := Bt hbE2 nb
  have uh3 := uh2.on nb
  have sh3 := sh.on nb
  clear c0 c1 c2 d0 d1 d2
  obtain ⟨c0, c1, c2⟩ := hF3a.cells
  obtain ⟨d0, d1, d2⟩ := hT3a.cells
  go_wp2_with fail
  go_at_call 188
  refine (among_ask _ uh3).mono ?_
  rintro e wq ⟨rfl, rfl⟩
  rw [HA.out]
  go_wp2_with fail
  go_at_call 188
  refine (among_ask _ nh).mono ?_
  rintro e wq ⟨rfl, rfl⟩
  rw [HB.out]
  go_wp2_with fail
  go_ret
  exact ⟨rfl, hbE3⟩
set_option maxHeartbeats 2000000 in
theorem kcasts_G0 (nm nm' : ByteArray) (k g k' g' L L' : Int) (w : World) (HL : Hid (longF k g = L)) (HL' : Hid (longF k' g' = L')) (hl : (L == 0) = false) (hl' : (L' == 0) = false) (hk : k ≠ k') (h10 : k' ≠ 10) (hk10 : k ≠ 10) (h9 : k ≠ 9) (HA : Hid (amB 1 4 k = false)) (HB : Hid (amB 5 8 k = false)) :
    Calls Tryz.prog 164 #[.agg #[.string nm, .int .i64 k, .int .i64 g], .agg #[.string nm', .int .i64 k', .int .i64 g']] w fun e w' => e = .returned (.bool false) ∧ Below w.heap.size w w' := by
  have b1 : (k == k') = false := by simpa using hk
  have b2 : (k' == 10) = false := by simpa using h10
  have b3 : (k == 10) = false := by simpa using hk10
  have b4 : (k == 9) = false := by simpa using h9
  clear hk h10 hk10 h9
  go_enter Tryz.func164, Tryz.ntmps164
  go_wp2_with fail
  have hF := (fb_new w nm k g).alloc (.cells #[.string nm', .int .i64 k', .int .i64 g'] 68)
  have hT := fb_new2 w (.cells #[.string nm, .int .i64 k, .int .i64 g] 68) nm' k' g'
  refine reg_begin (by kernel_rfl) (fun w0r hx0r hHeld => ?_)
  have hF0 := hF.on hx0r
  have hT0 := hT.on hx0r
  have hxA : ∀ w', Ext w0r w' → Ext w0r w' := fun _ h => h
  have q0 : ∀ w', Ext w0r w' → w'.cell? ⟨w.heap.size, 0, none⟩ = some (.string nm) := fun w' h => (hF0.on h).cells.1
  have q1 : ∀ w', Ext w0r w' → w'.cell? ⟨w.heap.size, 1, none⟩ = some (.int .i64 k) := fun w' h => (hF0.on h).cells.2.1
  have q2 : ∀ w', Ext w0r w' → w'.cell? ⟨w.heap.size, 2, none⟩ = some (.int .i64 g) := fun w' h => (hF0.on h).cells.2.2
  have p0 : ∀ w', Ext w0r w' → w'.cell? ⟨w.heap.size + 1, 0, none⟩ = some (.string nm') := fun w' h => (hT0.on h).cells.1
  have p1 : ∀ w', Ext w0r w' → w'.cell? ⟨w.heap.size + 1, 1, none⟩ = some (.int .i64 k') := fun w' h => (hT0.on h).cells.2.1
  have p2 : ∀ w', Ext w0r w' → w'.cell? ⟨w.heap.size + 1, 2, none⟩ = some (.int .i64 g') := fun w' h => (hT0.on h).cells.2.2
  refine reg_take 0 (v := ?vz51_0) at0 (by kernel_rfl) (by kernel_rfl) (by kernel_rfl) (by rfl) ?hyz51_0 hHeld ?restz51_0
  case hyz51_0 => (intro w' hSw; go_simp; try with_reducible rfl)
  try simp only [Act.put, List.setIfInBounds_toArray, List.set_cons_zero, List.set_cons_succ]
  refine reg_take 2 (v := ?vz52_2) (atS (atS at0)) (by kernel_rfl) (by kernel_rfl) (by kernel_rfl) (by rfl) ?hyz52_2 hHeld ?restz52_2
  case hyz52_2 => (intro w' hSw; go_simp; try with_reducible rfl)
  try simp only [Act.put, List.setIfInBounds_toArray, List.set_cons_zero, List.set_cons_succ]
  refine wpAnyH_ready (rs := [1]) (by kernel_rfl) (by simp) ?_
  refine AllReadyH.cons (atS at0) (fun K hK => ?_) AllReadyH.nil
  go_simp
  go_at_call 101
  refine (klong_any _ _ _ _).mono ?_
  rintro e w2 ⟨rfl, hb2⟩
  rw [HL.out]
  go_wp2_with fail
  refine hK.out _ _ hb2 (fun hHeld => ?_)
  clear hK K
  try simp only [Act.put, List.setIfInBounds_toArray, List.set_cons_zero, List.set_cons_succ]
  refine reg_on hb2 (fun hHeld => ?_)
  have hx2 : ∀ w', Ext w2 w' → Ext w0r w' := fun w' h => hxA w' (Ext.trans hb2 h)
  refine wpAnyH_ready (rs := [3]) (by kernel_rfl) (by simp) ?_
  refine AllReadyH.cons (atS (atS (atS at0))) (fun K hK => ?_) AllReadyH.nil
  go_simp
  go_at_call 101
  refine (klong_any _ _ _ _).mono ?_
  rintro e w3 ⟨rfl, hb3⟩
  rw [HL'.out]
  go_wp2_with fail
  refine hK.out _ _ hb3 (fun hHeld => ?_)
  clear hK K
  try simp only [Act.put, List.setIfInBounds_toArray, List.set_cons_zero, List.set_cons_succ]
  refine reg_on hb3 (fun hHeld => ?_)
  have hx3 : ∀ w', Ext w3 w' → Ext w0r w' := fun w' h => hx2 w' (Ext.trans hb3 h)
  refine reg_take 4 (v := ?vz53_4) (atS (atS (atS (atS at0)))) (by kernel_rfl) (by kernel_rfl) (by kernel_rfl) (by rfl) ?hyz53_4 hHeld ?restz53_4
  case hyz53_4 => (intro w' hSw; go_simp; try with_reducible rfl)
  try simp only [Act.put, List.setIfInBounds_toArray, List.set_cons_zero, List.set_cons_succ]
  refine reg_take 5 (v := ?vz54_5) (atS5 at0) (by kernel_rfl) (by kernel_rfl) (by kernel_rfl) (by rfl) ?hyz54_5 hHeld ?restz54_5
  case hyz54_5 => (intro w' hSw; go_simp; try with_reducible rfl)
  try simp only [Act.put, List.setIfInBounds_toArray, List.set_cons_zero, List.set_cons_succ]
  refine wpAnyH_done (by kernel_rfl) ?_ _
  refine NoPanic.normal ?_
  have hE := hx3 _ (Ext.refl _)
  have hF1 := hF0.on hE
  have hT1 := hT0.on hE
  have hbE : Below w.heap.size w _ := Bt (Bt (Ba (B1 _ _) _) hx0r) hE
  clear q0 q1 q2 p0 p1 p2 hx0r hE hHeld
  obtain ⟨c0, c1, c2⟩ := hF1.cells
  obtain ⟨d0, d1, d2⟩ := hT1.cells
  go_wp2_with fail
  go_at_call 162
  refine (among_new _ _ _).mono ?_
  rintro e wu ⟨up, rfl, uh, ub⟩
  have hF1a := hF1.on ub
  have hT1a := hT1.on ub
  have hbE1 := Bt hbE ub
  clear c0 c1 c2 d0 d1 d2
  obtain ⟨c0, c1, c2⟩ := hF1a.cells
  obtain ⟨d0, d1, d2⟩ := hT1a.cells
  go_wp2_with fail
  go_at_call 162
  refine (among_new _ _ _).mono ?_
  rintro e ws ⟨sp, rfl, sh, sb⟩
  have hF2a := hF1a.on sb
  have hT2a := hT1a.on sb
  have hbE2 := Bt hbE1 sb
  have uh2 := uh.on sb
  clear c0 c1 c2 d0 d1 d2
  obtain ⟨c0, c1, c2⟩ := hF2a.cells
  obtain ⟨d0, d1, d2⟩ := hT2a.cells
  go_wp2_with fail
  go_at_call 162
  refine (among_new _ _ _).mono ?_
  rintro e wn ⟨np, rfl, nh, nb⟩
  have hF3a := hF2a.on nb
  have hT3a := hT2a.on nb
  have hbE3 := Bt hbE2 nb
  have uh3 := uh2.on nb
  have sh3 := sh.on nb
  clear c0 c1 c2 d0 d1 d2
  obtain ⟨c0, c1, c2⟩ := hF3a.cells
  obtain ⟨d0, d1, d2⟩ := hT3a.cells
  go_wp2_with fail
  go_at_call 188
  refine (among_ask _ uh3).mono ?_
  rintro e wq ⟨rfl, rfl⟩
  rw [HA.out]
  go_wp2_with fail
  go_at_call 188
  refine (among_ask _ sh3).mono ?_
  rintro e wq ⟨rfl, rfl⟩
  rw [HB.out]
  go_wp2_with fail
  go_ret
  exact ⟨rfl, hbE3⟩
set_option maxHeartbeats 2000000 in
theorem kcasts_G1 (nm nm' : ByteArray) (k g k' g' L L' : Int) (w : World) (HL : Hid (longF k g = L)) (HL' : Hid (longF k' g' = L')) (hl : (L == 0) = false) (hl' : (L' == 0) = false) (hk : k ≠ k') (h10 : k' ≠ 10) (hk10 : k ≠ 10) (h9 : k ≠ 9) (HA : Hid (amB 1 4 k = false)) (HB : Hid (amB 5 8 k = true)) (HC : Hid (amB 5 8 k' = false)) :
    Calls Tryz.prog 164 #[.agg #[.string nm, .int .i64 k, .int .i64 g], .agg #[.string nm', .int .i64 k', .int .i64 g']] w fun e w' => e = .returned (.bool false) ∧ Below w.heap.size w w' := by
  have b1 : (k == k') = false := by simpa using hk
  have b2 : (k' == 10) = false := by simpa using h10
  have b3 : (k == 10) = false := by simpa using hk10
  have b4 : (k == 9) = false := by simpa using h9
  clear hk h10 hk10 h9
  go_enter Tryz.func164, Tryz.ntmps164
  go_wp2_with fail
  have hF := (fb_new w nm k g).alloc (.cells #[.string nm', .int .i64 k', .int .i64 g'] 68)
  have hT := fb_new2 w (.cells #[.string nm, .int .i64 k, .int .i64 g] 68) nm' k' g'
  refine reg_begin (by kernel_rfl) (fun w0r hx0r hHeld => ?_)
  have hF0 := hF.on hx0r
  have hT0 := hT.on hx0r
  have hxA : ∀ w', Ext w0r w' → Ext w0r w' := fun _ h => h
  have q0 : ∀ w', Ext w0r w' → w'.cell? ⟨w.heap.size, 0, none⟩ = some (.string nm) := fun w' h => (hF0.on h).cells.1
  have q1 : ∀ w', Ext w0r w' → w'.cell? ⟨w.heap.size, 1, none⟩ = some (.int .i64 k) := fun w' h => (hF0.on h).cells.2.1
  have q2 : ∀ w', Ext w0r w' → w'.cell? ⟨w.heap.size, 2, none⟩ = some (.int .i64 g) := fun w' h => (hF0.on h).cells.2.2
  have p0 : ∀ w', Ext w0r w' → w'.cell? ⟨w.heap.size + 1, 0, none⟩ = some (.string nm') := fun w' h => (hT0.on h).cells.1
  have p1 : ∀ w', Ext w0r w' → w'.cell? ⟨w.heap.size + 1, 1, none⟩ = some (.int .i64 k') := fun w' h => (hT0.on h).cells.2.1
  have p2 : ∀ w', Ext w0r w' → w'.cell? ⟨w.heap.size + 1, 2, none⟩ = some (.int .i64 g') := fun w' h => (hT0.on h).cells.2.2
  refine reg_take 0 (v := ?vz56_0) at0 (by kernel_rfl) (by kernel_rfl) (by kernel_rfl) (by rfl) ?hyz56_0 hHeld ?restz56_0
  case hyz56_0 => (intro w' hSw; go_simp; try with_reducible rfl)
  try simp only [Act.put, List.setIfInBounds_toArray, List.set_cons_zero, List.set_cons_succ]
  refine reg_take 2 (v := ?vz57_2) (atS (atS at0)) (by kernel_rfl) (by kernel_rfl) (by kernel_rfl) (by rfl) ?hyz57_2 hHeld ?restz57_2
  case hyz57_2 => (intro w' hSw; go_simp; try with_reducible rfl)
  try simp only [Act.put, List.setIfInBounds_toArray, List.set_cons_zero, List.set_cons_succ]
  refine wpAnyH_ready (rs := [1]) (by kernel_rfl) (by simp) ?_
  refine AllReadyH.cons (atS at0) (fun K hK => ?_) AllReadyH.nil
  go_simp
  go_at_call 101
  refine (klong_any _ _ _ _).mono ?_
  rintro e w2 ⟨rfl, hb2⟩
  rw [HL.out]
  go_wp2_with fail
  refine hK.out _ _ hb2 (fun hHeld => ?_)
  clear hK K
  try simp only [Act.put, List.setIfInBounds_toArray, List.set_cons_zero, List.set_cons_succ]
  refine reg_on hb2 (fun hHeld => ?_)
  have hx2 : ∀ w', Ext w2 w' → Ext w0r w' := fun w' h => hxA w' (Ext.trans hb2 h)
  refine wpAnyH_ready (rs := [3]) (by kernel_rfl) (by simp) ?_
  refine AllReadyH.cons (atS (atS (atS at0))) (fun K hK => ?_) AllReadyH.nil
  go_simp
  go_at_call 101
  refine (klong_any _ _ _ _).mono ?_
  rintro e w3 ⟨rfl, hb3⟩
  rw [HL'.out]
  go_wp2_with fail
  refine hK.out _ _ hb3 (fun hHeld => ?_)
  clear hK K
  try simp only [Act.put, List.setIfInBounds_toArray, List.set_cons_zero, List.set_cons_succ]
  refine reg_on hb3 (fun hHeld => ?_)
  have hx3 : ∀ w', Ext w3 w' → Ext w0r w' := fun w' h => hx2 w' (Ext.trans hb3 h)
  refine reg_take 4 (v := ?vz58_4) (atS (atS (atS (atS at0)))) (by kernel_rfl) (by kernel_rfl) (by kernel_rfl) (by rfl) ?hyz58_4 hHeld ?restz58_4
  case hyz58_4 => (intro w' hSw; go_simp; try with_reducible rfl)
  try simp only [Act.put, List.setIfInBounds_toArray, List.set_cons_zero, List.set_cons_succ]
  refine reg_take 5 (v := ?vz59_5) (atS5 at0) (by kernel_rfl) (by kernel_rfl) (by kernel_rfl) (by rfl) ?hyz59_5 hHeld ?restz59_5
  case hyz59_5 => (intro w' hSw; go_simp; try with_reducible rfl)
  try simp only [Act.put, List.setIfInBounds_toArray, List.set_cons_zero, List.set_cons_succ]
  refine wpAnyH_done (by kernel_rfl) ?_ _
  refine NoPanic.normal ?_
  have hE := hx3 _ (Ext.refl _)
  have hF1 := hF0.on hE
  have hT1 := hT0.on hE
  have hbE : Below w.heap.size w _ := Bt (Bt (Ba (B1 _ _) _) hx0r) hE
  clear q0 q1 q2 p0 p1 p2 hx0r hE hHeld
  obtain ⟨c0, c1, c2⟩ := hF1.cells
  obtain ⟨d0, d1, d2⟩ := hT1.cells
  go_wp2_with fail
  go_at_call 162
  refine (among_new _ _ _).mono ?_
  rintro e wu ⟨up, rfl, uh, ub⟩
  have hF1a := hF1.on ub
  have hT1a := hT1.on ub
  have hbE1 := Bt hbE ub
  clear c0 c1 c2 d0 d1 d2
  obtain ⟨c0, c1, c2⟩ := hF1a.cells
  obtain ⟨d0, d1, d2⟩ := hT1a.cells
  go_wp2_with fail
  go_at_call 162
  refine (among_new _ _ _).mono ?_
  rintro e ws ⟨sp, rfl, sh, sb⟩
  have hF2a := hF1a.on sb
  have hT2a := hT1a.on sb
  have hbE2 := Bt hbE1 sb
  have uh2 := uh.on sb
  clear c0 c1 c2 d0 d1 d2
  obtain ⟨c0, c1, c2⟩ := hF2a.cells
  obtain ⟨d0, d1, d2⟩ := hT2a.cells
  go_wp2_with fail
  go_at_call 162
  refine (among_new _ _ _).mono ?_
  rintro e wn ⟨np, rfl, nh, nb⟩
  have hF3a := hF2a.on nb
  have hT3a := hT2a.on nb
  have hbE3 := Bt hbE2 nb
  have uh3 := uh2.on nb
  have sh3 := sh.on nb
  clear c0 c1 c2 d0 d1 d2
  obtain ⟨c0, c1, c2⟩ := hF3a.cells
  obtain ⟨d0, d1, d2⟩ := hT3a.cells
  go_wp2_with fail
  go_at_call 188
  refine (among_ask _ uh3).mono ?_
  rintro e wq ⟨rfl, rfl⟩
  rw [HA.out]
  go_wp2_with fail
  go_at_call 188
  refine (among_ask _ sh3).mono ?_
  rintro e wq ⟨rfl, rfl⟩
  rw [HB.out]
  go_wp2_with fail
  go_at_call 188
  refine (among_ask _ sh3).mono ?_
  rintro e wq ⟨rfl, rfl⟩
  rw [HC.out]
  go_wp2_with fail
  go_ret
  exact ⟨rfl, hbE3⟩
set_option maxHeartbeats 2000000 in
theorem kcasts_G2 (nm nm' : ByteArray) (k g k' g' L L' : Int) (w : World) (HL : Hid (longF k g = L)) (HL' : Hid (longF k' g' = L')) (hl : (L == 0) = false) (hl' : (L' == 0) = false) (hk : k ≠ k') (h10 : k' ≠ 10) (hk10 : k ≠ 10) (h9 : k ≠ 9) (HA : Hid (amB 1 4 k = false)) (HB : Hid (amB 5 8 k = true)) (HC : Hid (amB 5 8 k' = true)) (x : Bool) (hx : decide (L < L') = x) :
    Calls Tryz.prog 164 #[.agg #[.string nm, .int .i64 k, .int .i64 g], .agg #[.string nm', .int .i64 k', .int .i64 g']] w fun e w' => e = .returned (.bool x) ∧ Below w.heap.size w w' := by
  have b1 : (k == k') = false := by simpa using hk
  have b2 : (k' == 10) = false := by simpa using h10
  have b3 : (k == 10) = false := by simpa using hk10
  have b4 : (k == 9) = false := by simpa using h9
  clear hk h10 hk10 h9
  go_enter Tryz.func164, Tryz.ntmps164
  go_wp2_with fail
  have hF := (fb_new w nm k g).alloc (.cells #[.string nm', .int .i64 k', .int .i64 g'] 68)
  have hT := fb_new2 w (.cells #[.string nm, .int .i64 k, .int .i64 g] 68) nm' k' g'
  refine reg_begin (by kernel_rfl) (fun w0r hx0r hHeld => ?_)
  have hF0 := hF.on hx0r
  have hT0 := hT.on hx0r
  have hxA : ∀ w', Ext w0r w' → Ext w0r w' := fun _ h => h
  have q0 : ∀ w', Ext w0r w' → w'.cell? ⟨w.heap.size, 0, none⟩ = some (.string nm) := fun w' h => (hF0.on h).cells.1
  have q1 : ∀ w', Ext w0r w' → w'.cell? ⟨w.heap.size, 1, none⟩ = some (.int .i64 k) := fun w' h => (hF0.on h).cells.2.1
  have q2 : ∀ w', Ext w0r w' → w'.cell? ⟨w.heap.size, 2, none⟩ = some (.int .i64 g) := fun w' h => (hF0.on h).cells.2.2
  have p0 : ∀ w', Ext w0r w' → w'.cell? ⟨w.heap.size + 1, 0, none⟩ = some (.string nm') := fun w' h => (hT0.on h).cells.1
  have p1 : ∀ w', Ext w0r w' → w'.cell? ⟨w.heap.size + 1, 1, none⟩ = some (.int .i64 k') := fun w' h => (hT0.on h).cells.2.1
  have p2 : ∀ w', Ext w0r w' → w'.cell? ⟨w.heap.size + 1, 2, none⟩ = some (.int .i64 g') := fun w' h => (hT0.on h).cells.2.2
  refine reg_take 0 (v := ?vz61_0) at0 (by kernel_rfl) (by kernel_rfl) (by kernel_rfl) (by rfl) ?hyz61_0 hHeld ?restz61_0
  case hyz61_0 => (intro w' hSw; go_simp; try with_reducible rfl)
  try simp only [Act.put, List.setIfInBounds_toArray, List.set_cons_zero, List.set_cons_succ]
  refine reg_take 2 (v := ?vz62_2) (atS (atS at0)) (by kernel_rfl) (by kernel_rfl) (by kernel_rfl) (by rfl) ?hyz62_2 hHeld ?restz62_2
  case hyz62_2 => (intro w' hSw; go_simp; try with_reducible rfl)
  try simp only [Act.put, List.setIfInBounds_toArray, List.set_cons_zero, List.set_cons_succ]
  refine wpAnyH_ready (rs := [1]) (by kernel_rfl) (by simp) ?_
  refine AllReadyH.cons (atS at0) (fun K hK => ?_) AllReadyH.nil
  go_simp
  go_at_call 101
  refine (klong_any _ _ _ _).mono ?_
  rintro e w2 ⟨rfl, hb2⟩
  rw [HL.out]
  go_wp2_with fail
  refine hK.out _ _ hb2 (fun hHeld => ?_)
  clear hK K
  try simp only [Act.put, List.setIfInBounds_toArray, List.set_cons_zero, List.set_cons_succ]
  refine reg_on hb2 (fun hHeld => ?_)
  have hx2 : ∀ w', Ext w2 w' → Ext w0r w' := fun w' h => hxA w' (Ext.trans hb2 h)
  refine wpAnyH_ready (rs := [3]) (by kernel_rfl) (by simp) ?_
  refine AllReadyH.cons (atS (atS (atS at0))) (fun K hK => ?_) AllReadyH.nil
  go_simp
  go_at_call 101
  refine (klong_any _ _ _ _).mono ?_
  rintro e w3 ⟨rfl, hb3⟩
  rw [HL'.out]
  go_wp2_with fail
  refine hK.out _ _ hb3 (fun hHeld => ?_)
  clear hK K
  try simp only [Act.put, List.setIfInBounds_toArray, List.set_cons_zero, List.set_cons_succ]
  refine reg_on hb3 (fun hHeld => ?_)
  have hx3 : ∀ w', Ext w3 w' → Ext w0r w' := fun w' h => hx2 w' (Ext.trans hb3 h)
  refine reg_take 4 (v := ?vz63_4) (atS (atS (atS (atS at0)))) (by kernel_rfl) (by kernel_rfl) (by kernel_rfl) (by rfl) ?hyz63_4 hHeld ?restz63_4
  case hyz63_4 => (intro w' hSw; go_simp; try with_reducible rfl)
  try simp only [Act.put, List.setIfInBounds_toArray, List.set_cons_zero, List.set_cons_succ]
  refine reg_take 5 (v := ?vz64_5) (atS5 at0) (by kernel_rfl) (by kernel_rfl) (by kernel_rfl) (by rfl) ?hyz64_5 hHeld ?restz64_5
  case hyz64_5 => (intro w' hSw; go_simp; try with_reducible rfl)
  try simp only [Act.put, List.setIfInBounds_toArray, List.set_cons_zero, List.set_cons_succ]
  refine wpAnyH_done (by kernel_rfl) ?_ _
  refine NoPanic.normal ?_
  have hE := hx3 _ (Ext.refl _)
  have hF1 := hF0.on hE
  have hT1 := hT0.on hE
  have hbE : Below w.heap.size w _ := Bt (Bt (Ba (B1 _ _) _) hx0r) hE
  clear q0 q1 q2 p0 p1 p2 hx0r hE hHeld
  obtain ⟨c0, c1, c2⟩ := hF1.cells
  obtain ⟨d0, d1, d2⟩ := hT1.cells
  go_wp2_with fail
  go_at_call 162
  refine (among_new _ _ _).mono ?_
  rintro e wu ⟨up, rfl, uh, ub⟩
  have hF1a := hF1.on ub
  have hT1a := hT1.on ub
  have hbE1 := Bt hbE ub
  clear c0 c1 c2 d0 d1 d2
  obtain ⟨c0, c1, c2⟩ := hF1a.cells
  obtain ⟨d0, d1, d2⟩ := hT1a.cells
  go_wp2_with fail
  go_at_call 162
  refine (among_new _ _ _).mono ?_
  rintro e ws ⟨sp, rfl, sh, sb⟩
  have hF2a := hF1a.on sb
  have hT2a := hT1a.on sb
  have hbE2 := Bt hbE1 sb
  have uh2 := uh.on sb
  clear c0 c1 c2 d0 d1 d2
  obtain ⟨c0, c1, c2⟩ := hF2a.cells
  obtain ⟨d0, d1, d2⟩ := hT2a.cells
  go_wp2_with fail
  go_at_call 162
  refine (among_new _ _ _).mono ?_
  rintro e wn ⟨np, rfl, nh, nb⟩
  have hF3a := hF2a.on nb
  have hT3a := hT2a.on nb
  have hbE3 := Bt hbE2 nb
  have uh3 := uh2.on nb
  have sh3 := sh.on nb
  clear c0 c1 c2 d0 d1 d2
  obtain ⟨c0, c1, c2⟩ := hF3a.cells
  obtain ⟨d0, d1, d2⟩ := hT3a.cells
  go_wp2_with fail
  go_at_call 188
  refine (among_ask _ uh3).mono ?_
  rintro e wq ⟨rfl, rfl⟩
  rw [HA.out]
  go_wp2_with fail
  go_at_call 188
  refine (among_ask _ sh3).mono ?_
  rintro e wq ⟨rfl, rfl⟩
  rw [HB.out]
  go_wp2_with fail
  go_at_call 188
  refine (among_ask _ sh3).mono ?_
  rintro e wq ⟨rfl, rfl⟩
  rw [HC.out]
  go_wp2_with fail
  go_ret
  exact ⟨rfl, hbE3⟩
theorem castsP_eq {k g k' g' : Int} (hm : mayF k g = true) (hm' : mayF k' g' = true) : castsF k g k' g' = castsP k k' (longF k g) (longF k' g') := by
  by_cases h12 : k = 12
  · subst h12
    by_cases h12' : k' = 12
    · subst h12'; simp [castsF, castsP, hm, hm']
    · obtain ⟨rfl, h⟩ := may_cases hm' h12'
      rcases h with rfl | rfl | rfl | rfl | rfl | rfl | rfl | rfl | rfl | rfl | rfl <;> simp [castsF, castsP, hm, hm', amB]
  · obtain ⟨rfl, h⟩ := may_cases hm h12
    by_cases h12' : k' = 12
    · subst h12'
      rcases h with rfl | rfl | rfl | rfl | rfl | rfl | rfl | rfl | rfl | rfl | rfl <;> simp [castsF, castsP, hm, hm', amB]
    · obtain ⟨rfl, h'⟩ := may_cases hm' h12'
      rcases h with rfl | rfl | rfl | rfl | rfl | rfl | rfl | rfl | rfl | rfl | rfl <;> rcases h' with rfl | rfl | rfl | rfl | rfl | rfl | rfl | rfl | rfl | rfl | rfl <;> decide
theorem kcasts_any (nm nm' : ByteArray) (k g k' g' : Int) (w : World) :
    Calls Tryz.prog 164 #[.agg #[.string nm, .int .i64 k, .int .i64 g], .agg #[.string nm', .int .i64 k', .int .i64 g']] w fun e w' => e = .returned (.bool (castsF k g k' g')) ∧ Below w.heap.size w w' := by
  by_cases hm : mayF k g = true
  · have hl0 := long_may hm
    have hl : (longF k g == 0) = false := by simpa using hl0
    by_cases hm' : mayF k' g' = true
    · have hl0' := long_may hm'
      have hl' : (longF k' g' == 0) = false := by simpa using hl0'
      rw [castsP_eq hm hm']
      unfold castsP
      by_cases hk : k = k'
      · rw [if_pos hk]; exact kcasts_A nm nm' k g k' g' _ _ w rfl rfl hl hl' hk
      rw [if_neg hk]
      by_cases h10 : k' = 10
      · rw [if_pos h10]; exact kcasts_B nm nm' k g k' g' _ _ w rfl rfl hl hl' hk h10 _ rfl
      rw [if_neg h10]
      by_cases hk10 : k = 10
      · rw [if_pos hk10]; exact kcasts_C nm nm' k g k' g' _ _ w rfl rfl hl hl' hk h10 hk10 _ (by rw [Bool.eq_iff_iff]; simp)
      rw [if_neg hk10]
      by_cases h9 : k = 9
      · cases hA : amB 1 4 k' with
        | true => rw [if_pos ⟨h9, rfl⟩]; exact kcasts_D nm nm' k g k' g' _ _ w rfl rfl hl hl' hk h10 hk10 h9 hA _ rfl
        | false =>
          rw [if_neg (by simp), if_pos (Or.inl h9)]
          cases hB : amB 1 8 k' with
          | true => rw [Bool.true_and]; exact kcasts_E1 nm nm' k g k' g' _ _ w rfl rfl hl hl' hk h10 hk10 h9 hA hB _ rfl
          | false => rw [Bool.false_and]; exact kcasts_E2 nm nm' k g k' g' _ _ w rfl rfl hl hl' hk h10 hk10 h9 hA hB
      rw [if_neg (fun h => h9 h.1)]
      cases hA : amB 1 4 k with
      | true =>
        rw [if_pos (Or.inr rfl)]
        cases hB : amB 1 8 k' with
        | true => rw [Bool.true_and]; exact kcasts_F1 nm nm' k g k' g' _ _ w rfl rfl hl hl' hk h10 hk10 h9 hA hB _ rfl
        | false => rw [Bool.false_and]; exact kcasts_F2 nm nm' k g k' g' _ _ w rfl rfl hl hl' hk h10 hk10 h9 hA hB
      | false =>
        rw [if_neg (by simp [h9])]
        cases hB : amB 5 8 k with
        | false => rw [Bool.false_and, Bool.false_and]; exact kcasts_G0 nm nm' k g k' g' _ _ w rfl rfl hl hl' hk h10 hk10 h9 hA hB
        | true =>
          rw [Bool.true_and]
          cases hC : amB 5 8 k' with
          | false => rw [Bool.false_and]; exact kcasts_G1 nm nm' k g k' g' _ _ w rfl rfl hl hl' hk h10 hk10 h9 hA hB hC
          | true => rw [Bool.true_and]; exact kcasts_G2 nm nm' k g k' g' _ _ w rfl rfl hl hl' hk h10 hk10 h9 hA hB hC _ rfl
    · have hm' : mayF k' g' = false := by simpa using hm'
      rw [show castsF k g k' g' = false by simp [castsF, hm']]
      exact kcasts_z2 nm nm' k g k' g' _ _ w rfl rfl hl (by rw [long_zero hm']; rfl)
  · have hm : mayF k g = false := by simpa using hm
    rw [show castsF k g k' g' = false by simp [castsF, hm]]
    exact kcasts_z1 nm nm' k g k' g' _ _ w rfl rfl (by rw [long_zero hm]; rfl)
end Go.Proofs.YtaegencmnmjgbaaGreat
