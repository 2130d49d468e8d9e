/-
  Contract of kind.Casts (written by tools/kindt.py).
-/
import Derived.Test.YtjodbopnibdolaaM7

namespace Go.Proofs.Ytjodbopnibdolaa
open Go.RowKit
set_option linter.unusedVariables false
set_option linter.unusedSimpArgs false

/-- What Casts asks, where both fields may be, and have so many bytes. -/
def castsP (k k' L L' : Int) : Bool :=
  if k = k' then true else if k' = 10 then amB 1 8 k else if k = 10 then decide (k' = 8) else if k = 9 ∧ amB 1 4 k' = true then decide (L ≤ L') else if k = 9 ∨ amB 1 4 k = true then amB 1 8 k' && decide (L < L') else amB 5 8 k && amB 5 8 k' && decide (L < L')
set_option maxHeartbeats 2000000 in
theorem kcasts_z1 (nm nm' : ByteArray) (k g k' g' L L' : Int) (w : World) (HL : Hid (longF k g = L)) (HL' : Hid (longF k' g' = L')) (hl : (L == 0) = true) :
    Calls Try.prog 49 #[.agg #[.string nm, .int .i64 k, .int .i64 g], .agg #[.string nm', .int .i64 k', .int .i64 g']] w fun e w' => e = .returned (.bool false) ∧ Below w.heap.size w w' := by
  go_enter Try.func49, Try.ntmps49
  go_wp2_with fail
  have hF := (fb_new w nm k g).alloc (.cells #[.string nm', .int .i64 k', .int .i64 g'] 24)
  have hT := fb_new2 w (.cells #[.string nm, .int .i64 k, .int .i64 g] 24) nm' k' g'
  refine reg_begin (by kernel_rfl) (fun w0r hx0r hHeld => ?_)
  have hF0 := hF.on hx0r
  have hT0 := hT.on hx0r
  have hxA : ∀ w', Ext w0r w' → Ext w0r w' := fun _ h => h
  have q0 : ∀ w', Ext w0r w' → w'.cell? ⟨w.heap.size, 0, none⟩ = some (.string nm) := fun w' h => (hF0.on h).cells.1
  have q1 : ∀ w', Ext w0r w' → w'.cell? ⟨w.heap.size, 1, none⟩ = some (.int .i64 k) := fun w' h => (hF0.on h).cells.2.1
  have q2 : ∀ w', Ext w0r w' → w'.cell? ⟨w.heap.size, 2, none⟩ = some (.int .i64 g) := fun w' h => (hF0.on h).cells.2.2
  have p0 : ∀ w', Ext w0r w' → w'.cell? ⟨w.heap.size + 1, 0, none⟩ = some (.string nm') := fun w' h => (hT0.on h).cells.1
  have p1 : ∀ w', Ext w0r w' → w'.cell? ⟨w.heap.size + 1, 1, none⟩ = some (.int .i64 k') := fun w' h => (hT0.on h).cells.2.1
  have p2 : ∀ w', Ext w0r w' → w'.cell? ⟨w.heap.size + 1, 2, none⟩ = some (.int .i64 g') := fun w' h => (hT0.on h).cells.2.2
  refine reg_take 0 (v := ?vz1_0) at0 (by kernel_rfl) (by kernel_rfl) (by kernel_rfl) (by rfl) ?hyz1_0 hHeld ?restz1_0
  case hyz1_0 => (intro w' hSw; go_simp; try with_reducible rfl)
  try simp only [Act.put, List.setIfInBounds_toArray, List.set_cons_zero, List.set_cons_succ]
  refine reg_take 2 (v := ?vz2_2) (atS (atS at0)) (by kernel_rfl) (by kernel_rfl) (by kernel_rfl) (by rfl) ?hyz2_2 hHeld ?restz2_2
  case hyz2_2 => (intro w' hSw; go_simp; try with_reducible rfl)
  try simp only [Act.put, List.setIfInBounds_toArray, List.set_cons_zero, List.set_cons_succ]
  refine wpAnyH_ready (rs := [1]) (by kernel_rfl) (by simp) ?_
  refine AllReadyH.cons (atS at0) (fun K hK => ?_) AllReadyH.nil
  go_simp
  go_at_call 30
  refine (klong_any _ _ _ _).mono ?_
  rintro e w2 ⟨rfl, hb2⟩
  rw [HL.out]
  go_wp2_with fail
  refine hK.out _ _ hb2 (fun hHeld => ?_)
  clear hK K
  try simp only [Act.put, List.setIfInBounds_toArray, List.set_cons_zero, List.set_cons_succ]
  refine reg_on hb2 (fun hHeld => ?_)
  have hx2 : ∀ w', Ext w2 w' → Ext w0r w' := fun w' h => hxA w' (Ext.trans hb2 h)
  refine wpAnyH_ready (rs := [3]) (by kernel_rfl) (by simp) ?_
  refine AllReadyH.cons (atS (atS (atS at0))) (fun K hK => ?_) AllReadyH.nil
  go_simp
  go_at_call 30
  refine (klong_any _ _ _ _).mono ?_
  rintro e w3 ⟨rfl, hb3⟩
  rw [HL'.out]
  go_wp2_with fail
  refine hK.out _ _ hb3 (fun hHeld => ?_)
  clear hK K
  try simp only [Act.put, List.setIfInBounds_toArray, List.set_cons_zero, List.set_cons_succ]
  refine reg_on hb3 (fun hHeld => ?_)
  have hx3 : ∀ w', Ext w3 w' → Ext w0r w' := fun w' h => hx2 w' (Ext.trans hb3 h)
  refine reg_take 4 (v := ?vz3_4) (atS (atS (atS (atS at0)))) (by kernel_rfl) (by kernel_rfl) (by kernel_rfl) (by rfl) ?hyz3_4 hHeld ?restz3_4
  case hyz3_4 => (intro w' hSw; go_simp; try with_reducible rfl)
  try simp only [Act.put, List.setIfInBounds_toArray, List.set_cons_zero, List.set_cons_succ]
  refine reg_take 5 (v := ?vz4_5) (atS5 at0) (by kernel_rfl) (by kernel_rfl) (by kernel_rfl) (by rfl) ?hyz4_5 hHeld ?restz4_5
  case hyz4_5 => (intro w' hSw; go_simp; try with_reducible rfl)
  try simp only [Act.put, List.setIfInBounds_toArray, List.set_cons_zero, List.set_cons_succ]
  refine wpAnyH_done (by kernel_rfl) ?_ _
  refine NoPanic.normal ?_
  have hE := hx3 _ (Ext.refl _)
  have hF1 := hF0.on hE
  have hT1 := hT0.on hE
  have hbE : Below w.heap.size w _ := Bt (Bt (Ba (B1 _ _) _) hx0r) hE
  clear q0 q1 q2 p0 p1 p2 hx0r hE hHeld
  obtain ⟨c0, c1, c2⟩ := hF1.cells
  obtain ⟨d0, d1, d2⟩ := hT1.cells
  go_wp2_with fail
  go_ret
  exact ⟨rfl, hbE⟩
set_option maxHeartbeats 2000000 in
theorem kcasts_z2 (nm nm' : ByteArray) (k g k' g' L L' : Int) (w : World) (HL : Hid (longF k g = L)) (HL' : Hid (longF k' g' = L')) (hl : (L == 0) = false) (hl' : (L' == 0) = true) :
    Calls Try.prog 49 #[.agg #[.string nm, .int .i64 k, .int .i64 g], .agg #[.string nm', .int .i64 k', .int .i64 g']] w fun e w' => e = .returned (.bool false) ∧ Below w.heap.size w w' := by
  go_enter Try.func49, Try.ntmps49
  go_wp2_with fail
  have hF := (fb_new w nm k g).alloc (.cells #[.string nm', .int .i64 k', .int .i64 g'] 24)
  have hT := fb_new2 w (.cells #[.string nm, .int .i64 k, .int .i64 g] 24) nm' k' g'
  refine reg_begin (by kernel_rfl) (fun w0r hx0r hHeld => ?_)
  have hF0 := hF.on hx0r
  have hT0 := hT.on hx0r
  have hxA : ∀ w', Ext w0r w' → Ext w0r w' := fun _ h => h
  have q0 : ∀ w', Ext w0r w' → w'.cell? ⟨w.heap.size, 0, none⟩ = some (.string nm) := fun w' h => (hF0.on h).cells.1
  have q1 : ∀ w', Ext w0r w' → w'.cell? ⟨w.heap.size, 1, none⟩ = some (.int .i64 k) := fun w' h => (hF0.on h).cells.2.1
  have q2 : ∀ w', Ext w0r w' → w'.cell? ⟨w.heap.size, 2, none⟩ = some (.int .i64 g) := fun w' h => (hF0.on h).cells.2.2
  have p0 : ∀ w', Ext w0r w' → w'.cell? ⟨w.heap.size + 1, 0, none⟩ = some (.string nm') := fun w' h => (hT0.on h).cells.1
  have p1 : ∀ w', Ext w0r w' → w'.cell? ⟨w.heap.size + 1, 1, none⟩ = some (.int .i64 k') := fun w' h => (hT0.on h).cells.2.1
  have p2 : ∀ w', Ext w0r w' → w'.cell? ⟨w.heap.size + 1, 2, none⟩ = some (.int .i64 g') := fun w' h => (hT0.on h).cells.2.2
  refine reg_take 0 (v := ?vz5_0) at0 (by kernel_rfl) (by kernel_rfl) (by kernel_rfl) (by rfl) ?hyz5_0 hHeld ?restz5_0
  case hyz5_0 => (intro w' hSw; go_simp; try with_reducible rfl)
  try simp only [Act.put, List.setIfInBounds_toArray, List.set_cons_zero, List.set_cons_succ]
  refine reg_take 2 (v := ?vz6_2) (atS (atS at0)) (by kernel_rfl) (by kernel_rfl) (by kernel_rfl) (by rfl) ?hyz6_2 hHeld ?restz6_2
  case hyz6_2 => (intro w' hSw; go_simp; try with_reducible rfl)
  try simp only [Act.put, List.setIfInBounds_toArray, List.set_cons_zero, List.set_cons_succ]
  refine wpAnyH_ready (rs := [1]) (by kernel_rfl) (by simp) ?_
  refine AllReadyH.cons (atS at0) (fun K hK => ?_) AllReadyH.nil
  go_simp
  go_at_call 30
  refine (klong_any _ _ _ _).mono ?_
  rintro e w2 ⟨rfl, hb2⟩
  rw [HL.out]
  go_wp2_with fail
  refine hK.out _ _ hb2 (fun hHeld => ?_)
  clear hK K
  try simp only [Act.put, List.setIfInBounds_toArray, List.set_cons_zero, List.set_cons_succ]
  refine reg_on hb2 (fun hHeld => ?_)
  have hx2 : ∀ w', Ext w2 w' → Ext w0r w' := fun w' h => hxA w' (Ext.trans hb2 h)
  refine wpAnyH_ready (rs := [3]) (by kernel_rfl) (by simp) ?_
  refine AllReadyH.cons (atS (atS (atS at0))) (fun K hK => ?_) AllReadyH.nil
  go_simp
  go_at_call 30
  refine (klong_any _ _ _ _).mono ?_
  rintro e w3 ⟨rfl, hb3⟩
  rw [HL'.out]
  go_wp2_with fail
  refine hK.out _ _ hb3 (fun hHeld => ?_)
  clear hK K
  try simp only [Act.put, List.setIfInBounds_toArray, List.set_cons_zero, List.set_cons_succ]
  refine reg_on hb3 (fun hHeld => ?_)
  have hx3 : ∀ w', Ext w3 w' → Ext w0r w' := fun w' h => hx2 w' (Ext.trans hb3 h)
  refine reg_take 4 (v := ?vz7_4) (atS (atS (atS (atS at0)))) (by kernel_rfl) (by kernel_rfl) (by kernel_rfl) (by rfl) ?hyz7_4 hHeld ?restz7_4
  case hyz7_4 => (intro w' hSw; go_simp; try with_reducible rfl)
  try simp only [Act.put, List.setIfInBounds_toArray, List.set_cons_zero, List.set_cons_succ]
  refine reg_take 5 (v := ?vz8_5) (atS5 at0) (by kernel_rfl) (by kernel_rfl) (by kernel_rfl) (by rfl) ?hyz8_5 hHeld ?restz8_5
  case hyz8_5 => (intro w' hSw; go_simp; try with_reducible rfl)
  try simp only [Act.put, List.setIfInBounds_toArray, List.set_cons_zero, List.set_cons_succ]
  refine wpAnyH_done (by kernel_rfl) ?_ _
  refine NoPanic.normal ?_
  have hE := hx3 _ (Ext.refl _)
  have hF1 := hF0.on hE
  have hT1 := hT0.on hE
  have hbE : Below w.heap.size w _ := Bt (Bt (Ba (B1 _ _) _) hx0r) hE
  clear q0 q1 q2 p0 p1 p2 hx0r hE hHeld
  obtain ⟨c0, c1, c2⟩ := hF1.cells
  obtain ⟨d0, d1, d2⟩ := hT1.cells
  go_wp2_with fail
  go_ret
  exact ⟨rfl, hbE⟩
set_option maxHeartbeats 2000000 in
theorem kcasts_A (nm nm' : ByteArray) (k g k' g' L L' : Int) (w : World) (HL : Hid (longF k g = L)) (HL' : Hid (longF k' g' = L')) (hl : (L == 0) = false) (hl' : (L' == 0) = false) (hk : k = k') :
    Calls Try.prog 49 #[.agg #[.string nm, .int .i64 k, .int .i64 g], .agg #[.string nm', .int .i64 k', .int .i64 g']] w fun e w' => e = .returned (.bool true) ∧ Below w.heap.size w w' := by
  have b1 : (k == k') = true := by simpa using hk
  clear hk
  go_enter Try.func49, Try.ntmps49
  go_wp2_with fail
  have hF := (fb_new w nm k g).alloc (.cells #[.string nm', .int .i64 k', .int .i64 g'] 24)
  have hT := fb_new2 w (.cells #[.string nm, .int .i64 k, .int .i64 g] 24) nm' k' g'
  refine reg_begin (by kernel_rfl) (fun w0r hx0r hHeld => ?_)
  have hF0 := hF.on hx0r
  have hT0 := hT.on hx0r
  have hxA : ∀ w', Ext w0r w' → Ext w0r w' := fun _ h => h
  have q0 : ∀ w', Ext w0r w' → w'.cell? ⟨w.heap.size, 0, none⟩ = some (.string nm) := fun w' h => (hF0.on h).cells.1
  have q1 : ∀ w', Ext w0r w' → w'.cell? ⟨w.heap.size, 1, none⟩ = some (.int .i64 k) := fun w' h => (hF0.on h).cells.2.1
  have q2 : ∀ w', Ext w0r w' → w'.cell? ⟨w.heap.size, 2, none⟩ = some (.int .i64 g) := fun w' h => (hF0.on h).cells.2.2
  have p0 : ∀ w', Ext w0r w' → w'.cell? ⟨w.heap.size + 1, 0, none⟩ = some (.string nm') := fun w' h => (hT0.on h).cells.1
  have p1 : ∀ w', Ext w0r w' → w'.cell? ⟨w.heap.size + 1, 1, none⟩ = some (.int .i64 k') := fun w' h => (hT0.on h).cells.2.1
  have p2 : ∀ w', Ext w0r w' → w'.cell? ⟨w.heap.size + 1, 2, none⟩ = some (.int .i64 g') := fun w' h => (hT0.on h).cells.2.2
  refine reg_take 0 (v := ?vz9_0) at0 (by kernel_rfl) (by kernel_rfl) (by kernel_rfl) (by rfl) ?hyz9_0 hHeld ?restz9_0
  case hyz9_0 => (intro w' hSw; go_simp; try with_reducible rfl)
  try simp only [Act.put, List.setIfInBounds_toArray, List.set_cons_zero, List.set_cons_succ]
  refine reg_take 2 (v := ?vz10_2) (atS (atS at0)) (by kernel_rfl) (by kernel_rfl) (by kernel_rfl) (by rfl) ?hyz10_2 hHeld ?restz10_2
  case hyz10_2 => (intro w' hSw; go_simp; try with_reducible rfl)
  try simp only [Act.put, List.setIfInBounds_toArray, List.set_cons_zero, List.set_cons_succ]
  refine wpAnyH_ready (rs := [1]) (by kernel_rfl) (by simp) ?_
  refine AllReadyH.cons (atS at0) (fun K hK => ?_) AllReadyH.nil
  go_simp
  go_at_call 30
  refine (klong_any _ _ _ _).mono ?_
  rintro e w2 ⟨rfl, hb2⟩
  rw [HL.out]
  go_wp2_with fail
  refine hK.out _ _ hb2 (fun hHeld => ?_)
  clear hK K
  try simp only [Act.put, List.setIfInBounds_toArray, List.set_cons_zero, List.set_cons_succ]
  refine reg_on hb2 (fun hHeld => ?_)
  have hx2 : ∀ w', Ext w2 w' → Ext w0r w' := fun w' h => hxA w' (Ext.trans hb2 h)
  refine wpAnyH_ready (rs := [3]) (by kernel_rfl) (by simp) ?_
  refine AllReadyH.cons (atS (atS (atS at0))) (fun K hK => ?_) AllReadyH.nil
  go_simp
  go_at_call 30
  refine (klong_any _ _ _ _).mono ?_
  rintro e w3 ⟨rfl, hb3⟩
  rw [HL'.out]
  go_wp2_with fail
  refine hK.out _ _ hb3 (fun hHeld => ?_)
  clear hK K
  try simp only [Act.put, List.setIfInBounds_toArray, List.set_cons_zero, List.set_cons_succ]
  refine reg_on hb3 (fun hHeld => ?_)
  have hx3 : ∀ w', Ext w3 w' → Ext w0r w' := fun w' h => hx2 w' (Ext.trans hb3 h)
  refine reg_take 4 (v := ?vz11_4) (atS (atS (atS (atS at0)))) (by kernel_rfl) (by kernel_rfl) (by kernel_rfl) (by rfl) ?hyz11_4 hHeld ?restz11_4
  case hyz11_4 => (intro w' hSw; go_simp; try with_reducible rfl)
  try simp only [Act.put, List.setIfInBounds_toArray, List.set_cons_zero, List.set_cons_succ]
  refine reg_take 5 (v := ?vz12_5) (atS5 at0) (by kernel_rfl) (by kernel_rfl) (by kernel_rfl) (by rfl) ?hyz12_5 hHeld ?restz12_5
  case hyz12_5 => (intro w' hSw; go_simp; try with_reducible rfl)
  try simp only [Act.put, List.setIfInBounds_toArray, List.set_cons_zero, List.set_cons_succ]
  refine wpAnyH_done (by kernel_rfl) ?_ _
  refine NoPanic.normal ?_
  have hE := hx3 _ (Ext.refl _)
  have hF1 := hF0.on hE
  have hT1 := hT0.on hE
  have hbE : Below w.heap.size w _ := Bt (Bt (Ba (B1 _ _) _) hx0r) hE
  clear q0 q1 q2 p0 p1 p2 hx0r hE hHeld
  obtain ⟨c0, c1, c2⟩ := hF1.cells
  obtain ⟨d0, d1, d2⟩ := hT1.cells
  go_wp2_with fail
  go_ret
  exact ⟨rfl, hbE⟩
set_option maxHeartbeats 2000000 in
theorem kcasts_B (nm nm' : ByteArray) (k g k' g' L L' : Int) (w : World) (HL : Hid (longF k g = L)) (HL' : Hid (longF k' g' = L')) (hl : (L == 0) = false) (hl' : (L' == 0) = false) (hk : k ≠ k') (h10 : k' = 10) (x : Bool) (HA : Hid (amB 1 8 k = x)) :
    Calls Try.prog 49 #[.agg #[.string nm, .int .i64 k, .int .i64 g], .agg #[.string nm', .int .i64 k', .int .i64 g']] w fun e w' => e = .returned (.bool x) ∧ Below w.heap.size w w' := by
  have b1 : (k == k') = false := by simpa using hk
  have b2 : (k' == 10) = true := by simpa using h10
  clear hk h10
  go_enter Try.func49, Try.ntmps49
  go_wp2_with fail
  have hF := (fb_new w nm k g).alloc (.cells #[.string nm', .int .i64 k', .int .i64 g'] 24)
  have hT := fb_new2 w (.cells #[.string nm, .int .i64 k, .int .i64 g] 24) nm' k' g'
  refine reg_begin (by kernel_rfl) (fun w0r hx0r hHeld => ?_)
  have hF0 := hF.on hx0r
  have hT0 := hT.on hx0r
  have hxA : ∀ w', Ext w0r w' → Ext w0r w' := fun _ h => h
  have q0 : ∀ w', Ext w0r w' → w'.cell? ⟨w.heap.size, 0, none⟩ = some (.string nm) := fun w' h => (hF0.on h).cells.1
  have q1 : ∀ w', Ext w0r w' → w'.cell? ⟨w.heap.size, 1, none⟩ = some (.int .i64 k) := fun w' h => (hF0.on h).cells.2.1
  have q2 : ∀ w', Ext w0r w' → w'.cell? ⟨w.heap.size, 2, none⟩ = some (.int .i64 g) := fun w' h => (hF0.on h).cells.2.2
  have p0 : ∀ w', Ext w0r w' → w'.cell? ⟨w.heap.size + 1, 0, none⟩ = some (.string nm') := fun w' h => (hT0.on h).cells.1
  have p1 : ∀ w', Ext w0r w' → w'.cell? ⟨w.heap.size + 1, 1, none⟩ = some (.int .i64 k') := fun w' h => (hT0.on h).cells.2.1
  have p2 : ∀ w', Ext w0r w' → w'.cell? ⟨w.heap.size + 1, 2, none⟩ = some (.int .i64 g') := fun w' h => (hT0.on h).cells.2.2
  refine reg_take 0 (v := ?vz13_0) at0 (by kernel_rfl) (by kernel_rfl) (by kernel_rfl) (by rfl) ?hyz13_0 hHeld ?restz13_0
  case hyz13_0 => (intro w' hSw; go_simp; try with_reducible rfl)
  try simp only [Act.put, List.setIfInBounds_toArray, List.set_cons_zero, List.set_cons_succ]
  refine reg_take 2 (v := ?vz14_2) (atS (atS at0)) (by kernel_rfl) (by kernel_rfl) (by kernel_rfl) (by rfl) ?hyz14_2 hHeld ?restz14_2
  case hyz14_2 => (intro w' hSw; go_simp; try with_reducible rfl)
  try simp only [Act.put, List.setIfInBounds_toArray, List.set_cons_zero, List.set_cons_succ]
  refine wpAnyH_ready (rs := [1]) (by kernel_rfl) (by simp) ?_
  refine AllReadyH.cons (atS at0) (fun K hK => ?_) AllReadyH.nil
  go_simp
  go_at_call 30
  refine (klong_any _ _ _ _).mono ?_
  rintro e w2 ⟨rfl, hb2⟩
  rw [HL.out]
  go_wp2_with fail
  refine hK.out _ _ hb2 (fun hHeld => ?_)
  clear hK K
  try simp only [Act.put, List.setIfInBounds_toArray, List.set_cons_zero, List.set_cons_succ]
  refine reg_on hb2 (fun hHeld => ?_)
  have hx2 : ∀ w', Ext w2 w' → Ext w0r w' := fun w' h => hxA w' (Ext.trans hb2 h)
  refine wpAnyH_ready (rs := [3]) (by kernel_rfl) (by simp) ?_
  refine AllReadyH.cons (atS (atS (atS at0))) (fun K hK => ?_) AllReadyH.nil
  go_simp
  go_at_call 30
  refine (klong_any _ _ _ _).mono ?_
  rintro e w3 ⟨rfl, hb3⟩
  rw [HL'.out]
  go_wp2_with fail
  refine hK.out _ _ hb3 (fun hHeld => ?_)
  clear hK K
  try simp only [Act.put, List.setIfInBounds_toArray, List.set_cons_zero, List.set_cons_succ]
  refine reg_on hb3 (fun hHeld => ?_)
  have hx3 : ∀ w', Ext w3 w' → Ext w0r w' := fun w' h => hx2 w' (Ext.trans hb3 h)
  refine reg_take 4 (v := ?vz15_4) (atS (atS (atS (atS at0)))) (by kernel_rfl) (by kernel_rfl) (by kernel_rfl) (by rfl) ?hyz15_4 hHeld ?restz15_4
  case hyz15_4 => (intro w' hSw; go_simp; try with_reducible rfl)
  try simp only [Act.put, List.setIfInBounds_toArray, List.set_cons_zero, List.set_cons_succ]
  refine reg_take 5 (v := ?vz16_5) (atS5 at0) (by kernel_rfl) (by kernel_rfl) (by kernel_rfl) (by rfl) ?hyz16_5 hHeld ?restz16_5
  case hyz16_5 => (intro w' hSw; go_simp; try with_reducible rfl)
  try simp only [Act.put, List.setIfInBounds_toArray, List.set_cons_zero, List.set_cons_succ]
  refine wpAnyH_done (by kernel_rfl) ?_ _
  refine NoPanic.normal ?_
  have hE := hx3 _ (Ext.refl _)
  have hF1 := hF0.on hE
  have hT1 := hT0.on hE
  have hbE : Below w.heap.size w _ := Bt (Bt (Ba (B1 _ _) _) hx0r) hE
  clear q0 q1 q2 p0 p1 p2 hx0r hE hHeld
  obtain ⟨c0, c1, c2⟩ := hF1.cells
  obtain ⟨d0, d1, d2⟩ := hT1.cells
  go_wp2_with fail
  go_at_call 61
  refine (among_new _ _ _).mono ?_
  rintro e wu ⟨up, rfl, uh, ub⟩
  have hF1a := hF1.on ub
  have hT1a := hT1.on ub
  have hbE1 := Bt hbE ub
  clear c0 c1 c2 d0 d1 d2
  obtain ⟨c0, c1, c2⟩ := hF1a.cells
  obtain ⟨d0, d1, d2⟩ := hT1a.cells
  go_wp2_with fail
  go_at_call 61
  refine (among_new _ _ _).mono ?_
  rintro e ws ⟨sp, rfl, sh, sb⟩
  have hF2a := hF1a.on sb
  have hT2a := hT1a.on sb
  have hbE2 := Bt hbE1 sb
  have uh2 := uh.on sb
  clear c0 c1 c2 d0 d1 d2
  obtain ⟨c0, c1, c2⟩ := hF2a.cells
  obtain ⟨d0, d1, d2⟩ := hT2a.cells
  go_wp2_with fail
  go_at_call 61
  refine (among_new _ _ _).mono ?_
  rintro e wn ⟨np, rfl, nh, nb⟩
  have hF3a := hF2a.on nb
  have hT3a := hT2a.on nb
  have hbE3 := Bt hbE2 nb
  have uh3 := uh2.on nb
  have sh3 := sh.on nb
  clear c0 c1 c2 d0 d1 d2
  obtain ⟨c0, c1, c2⟩ := hF3a.cells
  obtain ⟨d0, d1, d2⟩ := hT3a.cells
  go_wp2_with fail
  go_at_call 66
  refine (among_ask _ nh).mono ?_
  rintro e wq ⟨rfl, rfl⟩
  rw [HA.out]
  go_wp2_with fail
  go_ret
  exact ⟨rfl, hbE3⟩
set_option maxHeartbeats 2000000 in
theorem kcasts_C (nm nm' : ByteArray) (k g k' g' L L' : Int) (w : World) (HL : Hid (longF k g = L)) (HL' : Hid (longF k' g' = L')) (hl : (L == 0) = false) (hl' : (L' == 0) = false) (hk : k ≠ k') (h10 : k' ≠ 10) (hk10 : k = 10) (x : Bool) (h8 : (k' == 8) = x) :
    Calls Try.prog 49 #[.agg #[.string nm, .int .i64 k, .int .i64 g], .agg #[.string nm', .int .i64 k', .int .i64 g']] w fun e w' => e = .returned (.bool x) ∧ Below w.heap.size w w' := by
  have b1 : (k == k') = false := by simpa using hk
  have b2 : (k' == 10) = false := by simpa using h10
  have b3 : (k == 10) = true := by simpa using hk10
  clear hk h10 hk10
  go_enter Try.func49, Try.ntmps49
  go_wp2_with fail
  have hF := (fb_new w nm k g).alloc (.cells #[.string nm', .int .i64 k', .int .i64 g'] 24)
  have hT := fb_new2 w (.cells #[.string nm, .int .i64 k, .int .i64 g] 24) nm' k' g'
  refine reg_begin (by kernel_rfl) (fun w0r hx0r hHeld => ?_)
  have hF0 := hF.on hx0r
  have hT0 := hT.on hx0r
  have hxA : ∀ w', Ext w0r w' → Ext w0r w' := fun _ h => h
  have q0 : ∀ w', Ext w0r w' → w'.cell? ⟨w.heap.size, 0, none⟩ = some (.string nm) := fun w' h => (hF0.on h).cells.1
  have q1 : ∀ w', Ext w0r w' → w'.cell? ⟨w.heap.size, 1, none⟩ = some (.int .i64 k) := fun w' h => (hF0.on h).cells.2.1
  have q2 : ∀ w', Ext w0r w' → w'.cell? ⟨w.heap.size, 2, none⟩ = some (.int .i64 g) := fun w' h => (hF0.on h).cells.2.2
  have p0 : ∀ w', Ext w0r w' → w'.cell? ⟨w.heap.size + 1, 0, none⟩ = some (.string nm') := fun w' h => (hT0.on h).cells.1
  have p1 : ∀ w', Ext w0r w' → w'.cell? ⟨w.heap.size + 1, 1, none⟩ = some (.int .i64 k') := fun w' h => (hT0.on h).cells.2.1
  have p2 : ∀ w', Ext w0r w' → w'.cell? ⟨w.heap.size + 1, 2, none⟩ = some (.int .i64 g') := fun w' h => (hT0.on h).cells.2.2
  refine reg_take 0 (v := ?vz17_0) at0 (by kernel_rfl) (by kernel_rfl) (by kernel_rfl) (by rfl) ?hyz17_0 hHeld ?restz17_0
  case hyz17_0 => (intro w' hSw; go_simp; try with_reducible rfl)
  try simp only [Act.put, List.setIfInBounds_toArray, List.set_cons_zero, List.set_cons_succ]
  refine reg_take 2 (v := ?vz18_2) (atS (atS at0)) (by kernel_rfl) (by kernel_rfl) (by kernel_rfl) (by rfl) ?hyz18_2 hHeld ?restz18_2
  case hyz18_2 => (intro w' hSw; go_simp; try with_reducible rfl)
  try simp only [Act.put, List.setIfInBounds_toArray, List.set_cons_zero, List.set_cons_succ]
  refine wpAnyH_ready (rs := [1]) (by kernel_rfl) (by simp) ?_
  refine AllReadyH.cons (atS at0) (fun K hK => ?_) AllReadyH.nil
  go_simp
  go_at_call 30
  refine (klong_any _ _ _ _).mono ?_
  rintro e w2 ⟨rfl, hb2⟩
  rw [HL.out]
  go_wp2_with fail
  refine hK.out _ _ hb2 (fun hHeld => ?_)
  clear hK K
  try simp only [Act.put, List.setIfInBounds_toArray, List.set_cons_zero, List.set_cons_succ]
  refine reg_on hb2 (fun hHeld => ?_)
  have hx2 : ∀ w', Ext w2 w' → Ext w0r w' := fun w' h => hxA w' (Ext.trans hb2 h)
  refine wpAnyH_ready (rs := [3]) (by kernel_rfl) (by simp) ?_
  refine AllReadyH.cons (atS (atS (atS at0))) (fun K hK => ?_) AllReadyH.nil
  go_simp
  go_at_call 30
  refine (klong_any _ _ _ _).mono ?_
  rintro e w3 ⟨rfl, hb3⟩
  rw [HL'.out]
  go_wp2_with fail
  refine hK.out _ _ hb3 (fun hHeld => ?_)
  clear hK K
  try simp only [Act.put, List.setIfInBounds_toArray, List.set_cons_zero, List.set_cons_succ]
  refine reg_on hb3 (fun hHeld => ?_)
  have hx3 : ∀ w', Ext w3 w' → Ext w0r w' := fun w' h => hx2 w' (Ext.trans hb3 h)
  refine reg_take 4 (v := ?vz19_4) (atS (atS (atS (atS at0)))) (by kernel_rfl) (by kernel_rfl) (by kernel_rfl) (by rfl) ?hyz19_4 hHeld ?restz19_4
  case hyz19_4 => (intro w' hSw; go_simp; try with_reducible rfl)
  try simp only [Act.put, List.setIfInBounds_toArray, List.set_cons_zero, List.set_cons_succ]
  refine reg_take 5 (v := ?vz20_5) (atS5 at0) (by kernel_rfl) (by kernel_rfl) (by kernel_rfl) (by rfl) ?hyz20_5 hHeld ?restz20_5
  case hyz20_5 => (intro w' hSw; go_simp; try with_reducible rfl)
  try simp only [Act.put, List.setIfInBounds_toArray, List.set_cons_zero, List.set_cons_succ]
  refine wpAnyH_done (by kernel_rfl) ?_ _
  refine NoPanic.normal ?_
  have hE := hx3 _ (Ext.refl _)
  have hF1 := hF0.on hE
  have hT1 := hT0.on hE
  have hbE : Below w.heap.size w _ := Bt (Bt (Ba (B1 _ _) _) hx0r) hE
  clear q0 q1 q2 p0 p1 p2 hx0r hE hHeld
  obtain ⟨c0, c1, c2⟩ := hF1.cells
  obtain ⟨d0, d1, d2⟩ := hT1.cells
  go_wp2_with fail
  go_at_call 61
  refine (among_new _ _ _).mono ?_
  rintro e wu ⟨up, rfl, uh, ub⟩
  have hF1a := hF1.on ub
  have hT1a := hT1.on ub
  have hbE1 := Bt hbE ub
  clear c0 c1 c2 d0 d1 d2
  obtain ⟨c0, c1, c2⟩ := hF1a.cells
  obtain ⟨d0, d1, d2⟩ := hT1a.cells
  go_wp2_with fail
  go_at_call 61
  refine (among_new _ _ _).mono ?_
  rintro e ws ⟨sp, rfl, sh, sb⟩
  have hF2a := hF1a.on sb
  have hT2a := hT1a.on sb
  have hbE2 := Bt hbE1 sb
  have uh2 := uh.on sb
  clear c0 c1 c2 d0 d1 d2
  obtain ⟨c0, c1, c2⟩ := hF2a.cells
  obtain ⟨d0, d1, d2⟩ := hT2a.cells
  go_wp2_with fail
  go_at_call 61
  refine (among_new _ _ _).mono ?_
  rintro e wn ⟨np, rfl, nh, nb⟩
  have hF3a := hF2a.on nb
  have hT3a := hT2a.on nb
  have hbE3 := Bt hbE2 nb
  have uh3 := uh2.on nb
  have sh3 := sh.on nb
  clear c0 c1 c2 d0 d1 d2
  obtain ⟨c0, c1, c2⟩ := hF3a.cells
  obtain ⟨d0, d1, d2⟩ := hT3a.cells
  go_wp2_with fail
  go_ret
  exact ⟨rfl, hbE3⟩
set_option maxHeartbeats 2000000 in
theorem kcasts_D (nm nm' : ByteArray) (k g k' g' L L' : Int) (w : World) (HL : Hid (longF k g = L)) (HL' : Hid (longF k' g' = L')) (hl : (L == 0) = false) (hl' : (L' == 0) = false) (hk : k ≠ k') (h10 : k' ≠ 10) (hk10 : k ≠ 10) (h9 : k = 9) (HA : Hid (amB 1 4 k' = true)) (x : Bool) (hx : decide (L ≤ L') = x) :
    Calls Try.prog 49 #[.agg #[.string nm, .int .i64 k, .int .i64 g], .agg #[.string nm', .int .i64 k', .int .i64 g']] w fun e w' => e = .returned (.bool x) ∧ Below w.heap.size w w' := by
  have b1 : (k == k') = false := by simpa using hk
  have b2 : (k' == 10) = false := by simpa using h10
  have b3 : (k == 10) = false := by simpa using hk10
  have b4 : (k == 9) = true := by simpa using h9
  clear hk h10 hk10 h9
  go_enter Try.func49, Try.ntmps49
  go_wp2_with fail
  have hF := (fb_new w nm k g).alloc (.cells #[.string nm', .int .i64 k', .int .i64 g'] 24)
  have hT := fb_new2 w (.cells #[.string nm, .int .i64 k, .int .i64 g] 24) nm' k' g'
  refine reg_begin (by kernel_rfl) (fun w0r hx0r hHeld => ?_)
  have hF0 := hF.on hx0r
  have hT0 := hT.on hx0r
  have hxA : ∀ w', Ext w0r w' → Ext w0r w' := fun _ h => h
  have q0 : ∀ w', Ext w0r w' → w'.cell? ⟨w.heap.size, 0, none⟩ = some (.string nm) := fun w' h => (hF0.on h).cells.1
  have q1 : ∀ w', Ext w0r w' → w'.cell? ⟨w.heap.size, 1, none⟩ = some (.int .i64 k) := fun w' h => (hF0.on h).cells.2.1
  have q2 : ∀ w', Ext w0r w' → w'.cell? ⟨w.heap.size, 2, none⟩ = some (.int .i64 g) := fun w' h => (hF0.on h).cells.2.2
  have p0 : ∀ w', Ext w0r w' → w'.cell? ⟨w.heap.size + 1, 0, none⟩ = some (.string nm') := fun w' h => (hT0.on h).cells.1
  have p1 : ∀ w', Ext w0r w' → w'.cell? ⟨w.heap.size + 1, 1, none⟩ = some (.int .i64 k') := fun w' h => (hT0.on h).cells.2.1
  have p2 : ∀ w', Ext w0r w' → w'.cell? ⟨w.heap.size + 1, 2, none⟩ = some (.int .i64 g') := fun w' h => (hT0.on h).cells.2.2
  refine reg_take 0 (v := ?vz21_0) at0 (by kernel_rfl) (by kernel_rfl) (by kernel_rfl) (by rfl) ?hyz21_0 hHeld ?restz21_0
  case hyz21_0 => (intro w' hSw; go_simp; try with_reducible rfl)
  try simp only [Act.put, List.setIfInBounds_toArray, List.set_cons_zero, List.set_cons_succ]
  refine reg_take 2 (v := ?vz22_2) (atS (atS at0)) (by kernel_rfl) (by kernel_rfl) (by kernel_rfl) (by rfl) ?hyz22_2 hHeld ?restz22_2
  case hyz22_2 => (intro w' hSw; go_simp; try with_reducible rfl)
  try simp only [Act.put, List.setIfInBounds_toArray, List.set_cons_zero, List.set_cons_succ]
  refine wpAnyH_ready (rs := [1]) (by kernel_rfl) (by simp) ?_
  refine AllReadyH.cons (atS at0) (fun K hK => ?_) AllReadyH.nil
  go_simp
  go_at_call 30
  refine (klong_any _ _ _ _).mono ?_
  rintro e w2 ⟨rfl, hb2⟩
  rw [HL.out]
  go_wp2_with fail
  refine hK.out _ _ hb2 (fun hHeld => ?_)
  clear hK K
  try simp only [Act.put, List.setIfInBounds_toArray, List.set_cons_zero, List.set_cons_succ]
  refine reg_on hb2 (fun hHeld => ?_)
  have hx2 : ∀ w', Ext w2 w' → Ext w0r w' := fun w' h => hxA w' (Ext.trans hb2 h)
  refine wpAnyH_ready (rs := [3]) (by kernel_rfl) (by simp) ?_
  refine AllReadyH.cons (atS (atS (atS at0))) (fun K hK => ?_) AllReadyH.nil
  go_simp
  go_at_call 30
  refine (klong_any _ _ _ _).mono ?_
  rintro e w3 ⟨rfl, hb3⟩
  rw [HL'.out]
  go_wp2_with fail
  refine hK.out _ _ hb3 (fun hHeld => ?_)
  clear hK K
  try simp only [Act.put, List.setIfInBounds_toArray, List.set_cons_zero, List.set_cons_succ]
  refine reg_on hb3 (fun hHeld => ?_)
  have hx3 : ∀ w', Ext w3 w' → Ext w0r w' := fun w' h => hx2 w' (Ext.trans hb3 h)
  refine reg_take 4 (v := ?vz23_4) (atS (atS (atS (atS at0)))) (by kernel_rfl) (by kernel_rfl) (by kernel_rfl) (by rfl) ?hyz23_4 hHeld ?restz23_4
  case hyz23_4 => (intro w' hSw; go_simp; try with_reducible rfl)
  try simp only [Act.put, List.setIfInBounds_toArray, List.set_cons_zero, List.set_cons_succ]
  refine reg_take 5 (v := ?vz24_5) (atS5 at0) (by kernel_rfl) (by kernel_rfl) (by kernel_rfl) (by rfl) ?hyz24_5 hHeld ?restz24_5
  case hyz24_5 => (intro w' hSw; go_simp; try with_reducible rfl)
  try simp only [Act.put, List.setIfInBounds_toArray, List.set_cons_zero, List.set_cons_succ]
  refine wpAnyH_done (by kernel_rfl) ?_ _
  refine NoPanic.normal ?_
  have hE := hx3 _ (Ext.refl _)
  have hF1 := hF0.on hE
  have hT1 := hT0.on hE
  have hbE : Below w.heap.size w _ := Bt (Bt (Ba (B1 _ _) _) hx0r) hE
  clear q0 q1 q2 p0 p1 p2 hx0r hE hHeld
  obtain ⟨c0, c1, c2⟩ := hF1.cells
  obtain ⟨d0, d1, d2⟩ := hT1.cells
  go_wp2_with fail
  go_at_call 61
  refine (among_new _ _ _).mono ?_
  rintro e wu ⟨up, rfl, uh, ub⟩
  have hF1a := hF1.on ub
  have hT1a := hT1.on ub
  have hbE1 := Bt hbE ub
  clear c0 c1 c2 d0 d1 d2
  obtain ⟨c0, c1, c2⟩ := hF1a.cells
  obtain ⟨d0, d1, d2⟩ := hT1a.cells
  go_wp2_with fail
  go_at_call 61
  refine (among_new _ _ _).mono ?_
  rintro e ws ⟨sp, rfl, sh, sb⟩
  have hF2a := hF1a.on sb
  have hT2a := hT1a.on sb
  have hbE2 := Bt hbE1 sb
  have uh2 := uh.on sb
  clear c0 c1 c2 d0 d1 d2
  obtain ⟨c0, c1, c2⟩ := hF2a.cells
  obtain ⟨d0, d1, d2⟩ := hT2a.cells
  go_wp2_with fail
  go_at_call 61
  refine (among_new _ _ _).mono ?_
  rintro e wn ⟨np, rfl, nh, nb⟩
  have hF3a := hF2a.on nb
  have hT3a := hT2a.on nb
  have hbE3 := Bt hbE2 nb
  have uh3 := uh2.on nb
  have sh3 := sh.on nb
  clear c0 c1 c2 d0 d1 d2
  obtain ⟨c0, c1, c2⟩ := hF3a.cells
  obtain ⟨d0, d1, d2⟩ := hT3a.cells
  go_wp2_with fail
  go_at_call 66
  refine (among_ask _ uh3).mono ?_
  rintro e wq ⟨rfl, rfl⟩
  rw [HA.out]
  go_wp2_with fail
  go_ret
  exact ⟨rfl, hbE3⟩
set_option maxHeartbeats 2000000 in
theorem kcasts_E1 (nm nm' : ByteArray) (k g k' g' L L' : Int) (w : World) (HL : Hid (longF k g = L)) (HL' : Hid (longF k' g' = L')) (hl : (L == 0) = false) (hl' : (L' == 0) = false) (hk : k ≠ k') (h10 : k' ≠ 10) (hk10 : k ≠ 10) (h9 : k = 9) (HA : Hid (amB 1 4 k' = false)) (HB : Hid (amB 1 8 k' = true)) (x : Bool) (hx : decide (L < L') = x) :
    Calls Try.prog 49 #[.agg #[.string nm, .int .i64 k, .int .i64 g], .agg #[.string nm', .int .i64 k', .int .i64 g']] w fun e w' => e = .returned (.bool x) ∧ Below w.heap.size w w' := by
  have b1 : (k == k') = false := by simpa using hk
  have b2 : (k' == 10) = false := by simpa using h10
  have b3 : (k == 10) = false := by simpa using hk10
  have b4 : (k == 9) = true := by simpa using h9
  clear hk h10 hk10 h9
  go_enter Try.func49, Try.ntmps49
  go_wp2_with fail
  have hF := (fb_new w nm k g).alloc (.cells #[.string nm', .int .i64 k', .int .i64 g'] 24)
  have hT := fb_new2 w (.cells #[.string nm, .int .i64 k, .int .i64 g] 24) nm' k' g'
  refine reg_begin (by kernel_rfl) (fun w0r hx0r hHeld => ?_)
  have hF0 := hF.on hx0r
  have hT0 := hT.on hx0r
  have hxA : ∀ w', Ext w0r w' → Ext w0r w' := fun _ h => h
  have q0 : ∀ w', Ext w0r w' → w'.cell? ⟨w.heap.size, 0, none⟩ = some (.string nm) := fun w' h => (hF0.on h).cells.1
  have q1 : ∀ w', Ext w0r w' → w'.cell? ⟨w.heap.size, 1, none⟩ = some (.int .i64 k) := fun w' h => (hF0.on h).cells.2.1
  have q2 : ∀ w', Ext w0r w' → w'.cell? ⟨w.heap.size, 2, none⟩ = some (.int .i64 g) := fun w' h => (hF0.on h).cells.2.2
  have p0 : ∀ w', Ext w0r w' → w'.cell? ⟨w.heap.size + 1, 0, none⟩ = some (.string nm') := fun w' h => (hT0.on h).cells.1
  have p1 : ∀ w', Ext w0r w' → w'.cell? ⟨w.heap.size + 1, 1, none⟩ = some (.int .i64 k') := fun w' h => (hT0.on h).cells.2.1
  have p2 : ∀ w', Ext w0r w' → w'.cell? ⟨w.heap.size + 1, 2, none⟩ = some (.int .i64 g') := fun w' h => (hT0.on h).cells.2.2
  refine reg_take 0 (v := ?vz25_0) at0 (by kernel_rfl) (by kernel_rfl) (by kernel_rfl) (by rfl) ?hyz25_0 hHeld ?restz25_0
  case hyz25_0 => (intro w' hSw; go_simp; try with_reducible rfl)
  try simp only [Act.put, List.setIfInBounds_toArray, List.set_cons_zero, List.set_cons_succ]
  refine reg_take 2 (v := ?vz26_2) (atS (atS at0)) (by kernel_rfl) (by kernel_rfl) (by kernel_rfl) (by rfl) ?hyz26_2 hHeld ?restz26_2
  case hyz26_2 => (intro w' hSw; go_simp; try with_reducible rfl)
  try simp only [Act.put, List.setIfInBounds_toArray, List.set_cons_zero, List.set_cons_succ]
  refine wpAnyH_ready (rs := [1]) (by kernel_rfl) (by simp) ?_
  refine AllReadyH.cons (atS at0) (fun K hK => ?_) AllReadyH.nil
  go_simp
  go_at_call 30
  refine (klong_any _ _ _ _).mono ?_
  rintro e w2 ⟨rfl, hb2⟩
  rw [HL.out]
  go_wp2_with fail
  refine hK.out _ _ hb2 (fun hHeld => ?_)
  clear hK K
  try simp only [Act.put, List.setIfInBounds_toArray, List.set_cons_zero, List.set_cons_succ]
  refine reg_on hb2 (fun hHeld => ?_)
  have hx2 : ∀ w', Ext w2 w' → Ext w0r w' := fun w' h => hxA w' (Ext.trans hb2 h)
  refine wpAnyH_ready (rs := [3]) (by kernel_rfl) (by simp) ?_
  refine AllReadyH.cons (atS (atS (atS at0))) (fun K hK => ?_) AllReadyH.nil
  go_simp
  go_at_call 30
  refine (klong_any _ _ _ _).mono ?_
  rintro e w3 ⟨rfl, hb3⟩
  rw [HL'.out]
  go_wp2_with fail
  refine hK.out _ _ hb3 (fun hHeld => ?_)
  clear hK K
  try simp only [Act.put, List.setIfInBounds_toArray, List.set_cons_zero, List.set_cons_succ]
  refine reg_on hb3 (fun hHeld => ?_)
  have hx3 : ∀ w', Ext w3 w' → Ext w0r w' := fun w' h => hx2 w' (Ext.trans hb3 h)
  refine reg_take 4 (v := ?vz27_4) (atS (atS (atS (atS at0)))) (by kernel_rfl) (by kernel_rfl) (by kernel_rfl) (by rfl) ?hyz27_4 hHeld ?restz27_4
  case hyz27_4 => (intro w' hSw; go_simp; try with_reducible rfl)
  try simp only [Act.put, List.setIfInBounds_toArray, List.set_cons_zero, List.set_cons_succ]
  refine reg_take 5 (v := ?vz28_5) (atS5 at0) (by kernel_rfl) (by kernel_rfl) (by kernel_rfl) (by rfl) ?hyz28_5 hHeld ?restz28_5
  case hyz28_5 => (intro w' hSw; go_simp; try with_reducible rfl)
  try simp only [Act.put, List.setIfInBounds_toArray, List.set_cons_zero, List.set_cons_succ]
  refine wpAnyH_done (by kernel_rfl) ?_ _
  refine NoPanic.normal ?_
  have hE := hx3 _ (Ext.refl _)
  have hF1 := hF0.on hE
  have hT1 := hT0.on hE
  have hbE : Below w.heap.size w _ := Bt (Bt (Ba (B1 _ _) _) hx0r) hE
  clear q0 q1 q2 p0 p1 p2 hx0r hE hHeld
  obtain ⟨c0, c1, c2⟩ := hF1.cells
  obtain ⟨d0, d1, d2⟩ := hT1.cells
  go_wp2_with fail
  go_at_call 61
  refine (among_new _ _ _).mono ?_
  rintro e wu ⟨up, rfl, uh, ub⟩
  have hF1a := hF1.on ub
  have hT1a := hT1.on ub
  have hbE1 := Bt hbE ub
  clear c0 c1 c2 d0 d1 d2
  obtain ⟨c0, c1, c2⟩ := hF1a.cells
  obtain ⟨d0, d1, d2⟩ := hT1a.cells
  go_wp2_with fail
  go_at_call 61
  refine (among_new _ _ _).mono ?_
  rintro e ws ⟨sp, rfl, sh, sb⟩
  have hF2a := hF1a.on sb
  have hT2a := hT1a.on sb
  have hbE2 := Bt hbE1 sb
  have uh2 := uh.on sb
  clear c0 c1 c2 d0 d1 d2
  obtain ⟨c0, c1, c2⟩ := hF2a.cells
  obtain ⟨d0, d1, d2⟩ := hT2a.cells
  go_wp2_with fail
  go_at_call 61
  refine (among_new _ _ _).mono ?_
  rintro e wn ⟨np, rfl, nh, nb⟩
  have hF3a := hF2a.on nb
  have hT3a := hT2a.on nb
  have hbE3 := Bt hbE2 nb
  have uh3 := uh2.on nb
  have sh3 := sh.on nb
  clear c0 c1 c2 d0 d1 d2
  obtain ⟨c0, c1, c2⟩ := hF3a.cells
  obtain ⟨d0, d1, d2⟩ := hT3a.cells
  go_wp2_with fail
  go_at_call 66
  refine (among_ask _ uh3).mono ?_
  rintro e wq ⟨rfl, rfl⟩
  rw [HA.out]
  go_wp2_with fail
  go_at_call 66
  refine (among_ask _ nh).mono ?_
  rintro e wq ⟨rfl, rfl⟩
  rw [HB.out]
  go_wp2_with fail
  go_ret
  exact ⟨rfl, hbE3⟩
set_option maxHeartbeats 2000000 in
theorem kcasts_E2 (nm nm' : ByteArray) (k g k' g' L L' : Int) (w : World) (HL : Hid (longF k g = L)) (HL' : Hid (longF k' g' = L')) (hl : (L == 0) = false) (hl' : (L' == 0) = false) (hk : k ≠ k') (h10 : k' ≠ 10) (hk10 : k ≠ 10) (h9 : k = 9) (HA : Hid (amB 1 4 k' = false)) (HB : Hid (amB 1 8 k' = false)) :
    Calls Try.prog 49 #[.agg #[.string nm, .int .i64 k, .int .i64 g], .agg #[.string nm', .int .i64 k', .int .i64 g']] w fun e w' => e = .returned (.bool false) ∧ Below w.heap.size w w' := by
  have b1 : (k == k') = false := by simpa using hk
  have b2 : (k' == 10) = false := by simpa using h10
  have b3 : (k == 10) = false := by simpa using hk10
  have b4 : (k == 9) = true := by simpa using h9
  clear hk h10 hk10 h9
  go_enter Try.func49, Try.ntmps49
  go_wp2_with fail
  have hF := (fb_new w nm k g).alloc (.cells #[.string nm', .int .i64 k', .int .i64 g'] 24)
  have hT := fb_new2 w (.cells #[.string nm, .int .i64 k, .int .i64 g] 24) nm' k' g'
  refine reg_begin (by kernel_rfl) (fun w0r hx0r hHeld => ?_)
  have hF0 := hF.on hx0r
  have hT0 := hT.on hx0r
  have hxA : ∀ w', Ext w0r w' → Ext w0r w' := fun _ h => h
  have q0 : ∀ w', Ext w0r w' → w'.cell? ⟨w.heap.size, 0, none⟩ = some (.string nm) := fun w' h => (hF0.on h).cells.1
  have q1 : ∀ w', Ext w0r w' → w'.cell? ⟨w.heap.size, 1, none⟩ = some (.int .i64 k) := fun w' h => (hF0.on h).cells.2.1
  have q2 : ∀ w', Ext w0r w' → w'.cell? ⟨w.heap.size, 2, none⟩ = some (.int .i64 g) := fun w' h => (hF0.on h).cells.2.2
  have p0 : ∀ w', Ext w0r w' → w'.cell? ⟨w.heap.size + 1, 0, none⟩ = some (.string nm') := fun w' h => (hT0.on h).cells.1
  have p1 : ∀ w', Ext w0r w' → w'.cell? ⟨w.heap.size + 1, 1, none⟩ = some (.int .i64 k') := fun w' h => (hT0.on h).cells.2.1
  have p2 : ∀ w', Ext w0r w' → w'.cell? ⟨w.heap.size + 1, 2, none⟩ = some (.int .i64 g') := fun w' h => (hT0.on h).cells.2.2
  refine reg_take 0 (v := ?vz29_0) at0 (by kernel_rfl) (by kernel_rfl) (by kernel_rfl) (by rfl) ?hyz29_0 hHeld ?restz29_0
  case hyz29_0 => (intro w' hSw; go_simp; try with_reducible rfl)
  try simp only [Act.put, List.setIfInBounds_toArray, List.set_cons_zero, List.set_cons_succ]
  refine reg_take 2 (v := ?vz30_2) (atS (atS at0)) (by kernel_rfl) (by kernel_rfl) (by kernel_rfl) (by rfl) ?hyz30_2 hHeld ?restz30_2
  case hyz30_2 => (intro w' hSw; go_simp; try with_reducible rfl)
  try simp only [Act.put, List.setIfInBounds_toArray, List.set_cons_zero, List.set_cons_succ]
  refine wpAnyH_ready (rs := [1]) (by kernel_rfl) (by simp) ?_
  refine AllReadyH.cons (atS at0) (fun K hK => ?_) AllReadyH.nil
  go_simp
  go_at_call 30
  refine (klong_any _ _ _ _).mono ?_
  rintro e w2 ⟨rfl, hb2⟩
  rw [HL.out]
  go_wp2_with fail
  refine hK.out _ _ hb2 (fun hHeld => ?_)
  clear hK K
  try simp only [Act.put, List.setIfInBounds_toArray, List.set_cons_zero, List.set_cons_succ]
  refine reg_on hb2 (fun hHeld => ?_)
  have hx2 : ∀ w', Ext w2 w' → Ext w0r w' := fun w' h => hxA w' (Ext.trans hb2 h)
  refine wpAnyH_ready (rs := [3]) (by kernel_rfl) (by simp) ?_
  refine AllReadyH.cons (atS (atS (atS at0))) (fun K hK => ?_) AllReadyH.nil
  go_simp
  go_at_call 30
  refine (klong_any _ _ _ _).mono ?_
  rintro e w3 ⟨rfl, hb3⟩
  rw [HL'.out]
  go_wp2_with fail
  refine hK.out _ _ hb3 (fun hHeld => ?_)
  clear hK K
  try simp only [Act.put, List.setIfInBounds_toArray, List.set_cons_zero, List.set_cons_succ]
  refine reg_on hb3 (fun hHeld => ?_)
  have hx3 : ∀ w', Ext w3 w' → Ext w0r w' := fun w' h => hx2 w' (Ext.trans hb3 h)
  refine reg_take 4 (v := ?vz31_4) (atS (atS (atS (atS at0)))) (by kernel_rfl) (by kernel_rfl) (by kernel_rfl) (by rfl) ?hyz31_4 hHeld ?restz31_4
  case hyz31_4 => (intro w' hSw; go_simp; try with_reducible rfl)
  try simp only [Act.put, List.setIfInBounds_toArray, List.set_cons_zero, List.set_cons_succ]
  refine reg_take 5 (v := ?vz32_5) (atS5 at0) (by kernel_rfl) (by kernel_rfl) (by kernel_rfl) (by rfl) ?hyz32_5 hHeld ?restz32_5
  case hyz32_5 => (intro w' hSw; go_simp; try with_reducible rfl)
  try simp only [Act.put, List.setIfInBounds_toArray, List.set_cons_zero, List.set_cons_succ]
  refine wpAnyH_done (by kernel_rfl) ?_ _
  refine NoPanic.normal ?_
  have hE := hx3 _ (Ext.refl _)
  have hF1 := hF0.on hE
  have hT1 := hT0.on hE
  have hbE : Below w.heap.size w _ := Bt (Bt (Ba (B1 _ _) _) hx0r) hE
  clear q0 q1 q2 p0 p1 p2 hx0r hE hHeld
  obtain ⟨c0, c1, c2⟩ := hF1.cells
  obtain ⟨d0, d1, d2⟩ := hT1.cells
  go_wp2_with fail
  go_at_call 61
  refine (among_new _ _ _).mono ?_
  rintro e wu ⟨up, rfl, uh, ub⟩
  have hF1a := hF1.on ub
  have hT1a := hT1.on ub
  have hbE1 := Bt hbE ub
  clear c0 c1 c2 d0 d1 d2
  obtain ⟨c0, c1, c2⟩ := hF1a.cells
  obtain ⟨d0, d1, d2⟩ := hT1a.cells
  go_wp2_with fail
  go_at_call 61
  refine (among_new _ _ _).mono ?_
  rintro e ws ⟨sp, rfl, sh, sb⟩
  have hF2a := hF1a.on sb
  have hT2a := hT1a.on sb
  have hbE2 := Bt hbE1 sb
  have uh2 := uh.on sb
  clear c0 c1 c2 d0 d1 d2
  obtain ⟨c0, c1, c2⟩ := hF2a.cells
  obtain ⟨d0, d1, d2⟩ := hT2a.cells
  go_wp2_with fail
  go_at_call 61
  refine (among_new _ _ _).mono ?_
  rintro e wn ⟨np, rfl, nh, nb⟩
  have hF3a := hF2a.on nb
  have hT3a := hT2a.on nb
  have hbE3 := Bt hbE2 nb
  have uh3 := uh2.on nb
  have sh3 := sh.on nb
  clear c0 c1 c2 d0 d1 d2
  obtain ⟨c0, c1, c2⟩ := hF3a.cells
  obtain ⟨d0, d1, d2⟩ := hT3a.cells
  go_wp2_with fail
  go_at_call 66
  refine (among_ask _ uh3).mono ?_
  rintro e wq ⟨rfl, rfl⟩
  rw [HA.out]
  go_wp2_with fail
  go_at_call 66
  refine (among_ask _ nh).mono ?_
  rintro e wq ⟨rfl, rfl⟩
  rw [HB.out]
  go_wp2_with fail
  go_ret
  exact ⟨rfl, hbE3⟩
set_option maxHeartbeats 2000000 in
theorem kcasts_F1 (nm nm' : ByteArray) (k g k' g' L L' : Int) (w : World) (HL : Hid (longF k g = L)) (HL' : Hid (longF k' g' = L')) (hl : (L == 0) = false) (hl' : (L' == 0) = false) (hk : k ≠ k') (h10 : k' ≠ 10) (hk10 : k ≠ 10) (h9 : k ≠ 9) (HA : Hid (amB 1 4 k = true)) (HB : Hid (amB 1 8 k' = true)) (x : Bool) (hx : decide (L < L') = x) :
    Calls Try.prog 49 #[.agg #[.string nm, .int .i64 k, .int .i64 g], .agg #[.string nm', .int .i64 k', .int .i64 g']] w fun e w' => e = .returned (.bool x) ∧ Below w.heap.size w w' := by
  have b1 : (k == k') = false := by simpa using hk
  have b2 : (k' == 10) = false := by simpa using h10
  have b3 : (k == 10) = false := by simpa using hk10
  have b4 : (k == 9) = false := by simpa using h9
  clear hk h10 hk10 h9
  go_enter Try.func49, Try.ntmps49
  go_wp2_with fail
  have hF := (fb_new w nm k g).alloc (.cells #[.string nm', .int .i64 k', .int .i64 g'] 24)
  have hT := fb_new2 w (.cells #[.string nm, .int .i64 k, .int .i64 g] 24) nm' k' g'
  refine reg_begin (by kernel_rfl) (fun w0r hx0r hHeld => ?_)
  have hF0 := hF.on hx0r
  have hT0 := hT.on hx0r
  have hxA : ∀ w', Ext w0r w' → Ext w0r w' := fun _ h => h
  have q0 : ∀ w', Ext w0r w' → w'.cell? ⟨w.heap.size, 0, none⟩ = some (.string nm) := fun w' h => (hF0.on h).cells.1
  have q1 : ∀ w', Ext w0r w' → w'.cell? ⟨w.heap.size, 1, none⟩ = some (.int .i64 k) := fun w' h => (hF0.on h).cells.2.1
  have q2 : ∀ w', Ext w0r w' → w'.cell? ⟨w.heap.size, 2, none⟩ = some (.int .i64 g) := fun w' h => (hF0.on h).cells.2.2
  have p0 : ∀ w', Ext w0r w' → w'.cell? ⟨w.heap.size + 1, 0, none⟩ = some (.string nm') := fun w' h => (hT0.on h).cells.1
  have p1 : ∀ w', Ext w0r w' → w'.cell? ⟨w.heap.size + 1, 1, none⟩ = some (.int .i64 k') := fun w' h => (hT0.on h).cells.2.1
  have p2 : ∀ w', Ext w0r w' → w'.cell? ⟨w.heap.size + 1, 2, none⟩ = some (.int .i64 g') := fun w' h => (hT0.on h).cells.2.2
  refine reg_take 0 (v := ?vz33_0) at0 (by kernel_rfl) (by kernel_rfl) (by kernel_rfl) (by rfl) ?hyz33_0 hHeld ?restz33_0
  case hyz33_0 => (intro w' hSw; go_simp; try with_reducible rfl)
  try simp only [Act.put, List.setIfInBounds_toArray, List.set_cons_zero, List.set_cons_succ]
  refine reg_take 2 (v := ?vz34_2) (atS (atS at0)) (by kernel_rfl) (by kernel_rfl) (by kernel_rfl) (by rfl) ?hyz34_2 hHeld ?restz34_2
  case hyz34_2 => (intro w' hSw; go_simp; try with_reducible rfl)
  try simp only [Act.put, List.setIfInBounds_toArray, List.set_cons_zero, List.set_cons_succ]
  refine wpAnyH_ready (rs := [1]) (by kernel_rfl) (by simp) ?_
  refine AllReadyH.cons (atS at0) (fun K hK => ?_) AllReadyH.nil
  go_simp
  go_at_call 30
  refine (klong_any _ _ _ _).mono ?_
  rintro e w2 ⟨rfl, hb2⟩
  rw [HL.out]
  go_wp2_with fail
  refine hK.out _ _ hb2 (fun hHeld => ?_)
  clear hK K
  try simp only [Act.put, List.setIfInBounds_toArray, List.set_cons_zero, List.set_cons_succ]
  refine reg_on hb2 (fun hHeld => ?_)
  have hx2 : ∀ w', Ext w2 w' → Ext w0r w' := fun w' h => hxA w' (Ext.trans hb2 h)
  refine wpAnyH_ready (rs := [3]) (by kernel_rfl) (by simp) ?_
  refine AllReadyH.cons (atS (atS (atS at0))) (fun K hK => ?_) AllReadyH.nil
  go_simp
  go_at_call 30
  refine (klong_any _ _ _ _).mono ?_
  rintro e w3 ⟨rfl, hb3⟩
  rw [HL'.out]
  go_wp2_with fail
  refine hK.out _ _ hb3 (fun hHeld => ?_)
  clear hK K
  try simp only [Act.put, List.setIfInBounds_toArray, List.set_cons_zero, List.set_cons_succ]
  refine reg_on hb3 (fun hHeld => ?_)
  have hx3 : ∀ w', Ext w3 w' → Ext w0r w' := fun w' h => hx2 w' (Ext.trans hb3 h)
  refine reg_take 4 (v := ?vz35_4) (atS (atS (atS (atS at0)))) (by kernel_rfl) (by kernel_rfl) (by kernel_rfl) (by rfl) ?hyz35_4 hHeld ?restz35_4
  case hyz35_4 => (intro w' hSw; go_simp; try with_reducible rfl)
  try simp only [Act.put, List.setIfInBounds_toArray, List.set_cons_zero, List.set_cons_succ]
  refine reg_take 5 (v := ?vz36_5) (atS5 at0) (by kernel_rfl) (by kernel_rfl) (by kernel_rfl) (by rfl) ?hyz36_5 hHeld ?restz36_5
  case hyz36_5 => (intro w' hSw; go_simp; try with_reducible rfl)
  try simp only [Act.put, List.setIfInBounds_toArray, List.set_cons_zero, List.set_cons_succ]
  refine wpAnyH_done (by kernel_rfl) ?_ _
  refine NoPanic.normal ?_
  have hE := hx3 _ (Ext.refl _)
  have hF1 := hF0.on hE
  have hT1 := hT0.on hE
  have hbE : Below w.heap.size w _ := Bt (Bt (Ba (B1 _ _) _) hx0r) hE
  clear q0 q1 q2 p0 p1 p2 hx0r hE hHeld
  obtain ⟨c0, c1, c2⟩ := hF1.cells
  obtain ⟨d0, d1, d2⟩ := hT1.cells
  go_wp2_with fail
  go_at_call 61
  refine (among_new _ _ _).mono ?_
  rintro e wu ⟨up, rfl, uh, ub⟩
  have hF1a := hF1.on ub
  have hT1a := hT1.on ub
  have hbE1 := Bt hbE ub
  clear c0 c1 c2 d0 d1 d2
  obtain ⟨c0, c1, c2⟩ := hF1a.cells
  obtain ⟨d0, d1, d2⟩ := hT1a.cells
  go_wp2_with fail
  go_at_call 61
  refine (among_new _ _ _).mono ?_
  rintro e ws ⟨sp, rfl, sh, sb⟩
  have hF2a := hF1a.on sb
  have hT2a := hT1a.on sb
  have hbE2 := Bt hbE1 sb
  have uh2 := uh.on sb
  clear c0 c1 c2 d0 d1 d2
  obtain ⟨c0, c1, c2⟩ := hF2a.cells
  obtain ⟨d0, d1, d2⟩ := hT2a.cells
  go_wp2_with fail
  go_at_call 61
  refine (among_new _ _ _).mono ?_
  rintro e wn ⟨np, rfl, nh, nb⟩
  have hF3a := hF2a.on nb
  have hT3a := hT2a.on nb
  have hbE3 := Bt hbE2 nb
  have uh3 := uh2.on nb
  have sh3 := sh.on nb
  clear c0 c1 c2 d0 d1 d2
  obtain ⟨c0, c1, c2⟩ := hF3a.cells
  obtain ⟨d0, d1, d2⟩ := hT3a.cells
  go_wp2_with fail
  go_at_call 66
  refine (among_ask _ uh3).mono ?_
  rintro e wq ⟨rfl, rfl⟩
  rw [HA.out]
  go_wp2_with fail
  go_at_call 66
  refine (among_ask _ nh).mono ?_
  rintro e wq ⟨rfl, rfl⟩
  rw [HB.out]
  go_wp2_with fail
  go_ret
  exact ⟨rfl, hbE3⟩
set_option maxHeartbeats 2000000 in
theorem kcasts_F2 (nm nm' : ByteArray) (k g k' g' L L' : Int) (w : World) (HL : Hid (longF k g = L)) (HL' : Hid (longF k' g' = L')) (hl : (L == 0) = false) (hl' : (L' == 0) = false) (hk : k ≠ k') (h10 : k' ≠ 10) (hk10 : k ≠ 10) (h9 : k ≠ 9) (HA : Hid (amB 1 4 k = true)) (HB : Hid (amB 1 8 k' = false)) :
    Calls Try.prog 49 #[.agg #[.string nm, .int .i64 k, .int .i64 g], .agg #[.string nm', .int .i64 k', .int .i64 g']] w fun e w' => e = .returned (.bool false) ∧ Below w.heap.size w w' := by
  have b1 : (k == k') = false := by simpa using hk
  have b2 : (k' == 10) = false := by simpa using h10
  have b3 : (k == 10) = false := by simpa using hk10
  have b4 : (k == 9) = false := by simpa using h9
  clear hk h10 hk10 h9
  go_enter Try.func49, Try.ntmps49
  go_wp2_with fail
  have hF := (fb_new w nm k g).alloc (.cells #[.string nm', .int .i64 k', .int .i64 g'] 24)
  have hT := fb_new2 w (.cells #[.string nm, .int .i64 k, .int .i64 g] 24) nm' k' g'
  refine reg_begin (by kernel_rfl) (fun w0r hx0r hHeld => ?_)
  have hF0 := hF.on hx0r
  have hT0 := hT.on hx0r
  have hxA : ∀ w', Ext w0r w' → Ext w0r w' := fun _ h => h
  have q0 : ∀ w', Ext w0r w' → w'.cell? ⟨w.heap.size, 0, none⟩ = some (.string nm) := fun w' h => (hF0.on h).cells.1
  have q1 : ∀ w', Ext w0r w' → w'.cell? ⟨w.heap.size, 1, none⟩ = some (.int .i64 k) := fun w' h => (hF0.on h).cells.2.1
  have q2 : ∀ w', Ext w0r w' → w'.cell? ⟨w.heap.size, 2, none⟩ = some (.int .i64 g) := fun w' h => (hF0.on h).cells.2.2
  have p0 : ∀ w', Ext w0r w' → w'.cell? ⟨w.heap.size + 1, 0, none⟩ = some (.string nm') := fun w' h => (hT0.on h).cells.1
  have p1 : ∀ w', Ext w0r w' → w'.cell? ⟨w.heap.size + 1, 1, none⟩ = some (.int .i64 k') := fun w' h => (hT0.on h).cells.2.1
  have p2 : ∀ w', Ext w0r w' → w'.cell? ⟨w.heap.size + 1, 2, none⟩ = some (.int .i64 g') := fun w' h => (hT0.on h).cells.2.2
  refine reg_take 0 (v := ?vz37_0) at0 (by kernel_rfl) (by kernel_rfl) (by kernel_rfl) (by rfl) ?hyz37_0 hHeld ?restz37_0
  case hyz37_0 => (intro w' hSw; go_simp; try with_reducible rfl)
  try simp only [Act.put, List.setIfInBounds_toArray, List.set_cons_zero, List.set_cons_succ]
  refine reg_take 2 (v := ?vz38_2) (atS (atS at0)) (by kernel_rfl) (by kernel_rfl) (by kernel_rfl) (by rfl) ?hyz38_2 hHeld ?restz38_2
  case hyz38_2 => (intro w' hSw; go_simp; try with_reducible rfl)
  try simp only [Act.put, List.setIfInBounds_toArray, List.set_cons_zero, List.set_cons_succ]
  refine wpAnyH_ready (rs := [1]) (by kernel_rfl) (by simp) ?_
  refine AllReadyH.cons (atS at0) (fun K hK => ?_) AllReadyH.nil
  go_simp
  go_at_call 30
  refine (klong_any _ _ _ _).mono ?_
  rintro e w2 ⟨rfl, hb2⟩
  rw [HL.out]
  go_wp2_with fail
  refine hK.out _ _ hb2 (fun hHeld => ?_)
  clear hK K
  try simp only [Act.put, List.setIfInBounds_toArray, List.set_cons_zero, List.set_cons_succ]
  refine reg_on hb2 (fun hHeld => ?_)
  have hx2 : ∀ w', Ext w2 w' → Ext w0r w' := fun w' h => hxA w' (Ext.trans hb2 h)
  refine wpAnyH_ready (rs := [3]) (by kernel_rfl) (by simp) ?_
  refine AllReadyH.cons (atS (atS (atS at0))) (fun K hK => ?_) AllReadyH.nil
  go_simp
  go_at_call 30
  refine (klong_any _ _ _ _).mono ?_
  rintro e w3 ⟨rfl, hb3⟩
  rw [HL'.out]
  go_wp2_with fail
  refine hK.out _ _ hb3 (fun hHeld => ?_)
  clear hK K
  try simp only [Act.put, List.setIfInBounds_toArray, List.set_cons_zero, List.set_cons_succ]
  refine reg_on hb3 (fun hHeld => ?_)
  have hx3 : ∀ w', Ext w3 w' → Ext w0r w' := fun w' h => hx2 w' (Ext.trans hb3 h)
  refine reg_take 4 (v := ?vz39_4) (atS (atS (atS (atS at0)))) (by kernel_rfl) (by kernel_rfl) (by kernel_rfl) (by rfl) ?hyz39_4 hHeld ?restz39_4
  case hyz39_4 => (intro w' hSw; go_simp; try with_reducible rfl)
  try simp only [Act.put, List.setIfInBounds_toArray, List.set_cons_zero, List.set_cons_succ]
  refine reg_take 5 (v := ?vz40_5) (atS5 at0) (by kernel_rfl) (by kernel_rfl) (by kernel_rfl) (by rfl) ?hyz40_5 hHeld ?restz40_5
  case hyz40_5 => (intro w' hSw; go_simp; try with_reducible rfl)
  try simp only [Act.put, List.setIfInBounds_toArray, List.set_cons_zero, List.set_cons_succ]
  refine wpAnyH_done (by kernel_rfl) ?_ _
  refine NoPanic.normal ?_
  have hE := hx3 _ (Ext.refl _)
  have hF1 := hF0.on hE
  have hT1 := hT0.on hE
  have hbE : Below w.heap.size w _ := Bt (Bt (Ba (B1 _ _) _) hx0r) hE
  clear q0 q1 q2 p0 p1 p2 hx0r hE hHeld
  obtain ⟨c0, c1, c2⟩ := hF1.cells
  obtain ⟨d0, d1, d2⟩ := hT1.cells
  go_wp2_with fail
  go_at_call 61
  refine (among_new _ _ _).mono ?_
  rintro e wu ⟨up, rfl, uh, ub⟩
  have hF1a := hF1.on ub
  have hT1a := hT1.on ub
  have hbE1 := Bt hbE ub
  clear c0 c1 c2 d0 d1 d2
  obtain ⟨c0, c1, c2⟩ := hF1a.cells
  obtain ⟨d0, d1, d2⟩ := hT1a.cells
  go_wp2_with fail
  go_at_call 61
  refine (among_new _ _ _).mono ?_
  rintro e ws ⟨sp, rfl, sh, sb⟩
  have hF2a := hF1a.on sb
  have hT2a := hT1a.on sb
  have hbE2 := Bt hbE1 sb
  have uh2 := uh.on sb
  clear c0 c1 c2 d0 d1 d2
  obtain ⟨c0, c1, c2⟩ := hF2a.cells
  obtain ⟨d0, d1, d2⟩ := hT2a.cells
  go_wp2_with fail
  go_at_call 61
  refine (among_new _ _ _).mono ?_
  rintro e wn ⟨np, rfl, nh, nb⟩
  have hF3a := hF2a.on nb
  have hT3a := hT2a.on nb
  have hbE3 := Bt hbE2 nb
  have uh3 := uh2.on nb
  have sh3 := sh.on nb
  clear c0 c1 c2 d0 d1 d2
  obtain ⟨c0, c1, c2⟩ := hF3a.cells
  obtain ⟨d0, d1, d2⟩ := hT3a.cells
  go_wp2_with fail
  go_at_call 66
  refine (among_ask _ uh3).mono ?_
  rintro e wq ⟨rfl, rfl⟩
  rw [HA.out]
  go_wp2_with fail
  go_at_call 66
  refine (among_ask _ nh).mono ?_
  rintro e wq ⟨rfl, rfl⟩
  rw [HB.out]
  go_wp2_with fail
  go_ret
  exact ⟨rfl, hbE3⟩
set_option maxHeartbeats 2000000 in
theorem kcasts_G0 (nm nm' : ByteArray) (k g k' g' L L' : Int) (w : World) (HL : Hid (longF k g = L)) (HL' : Hid (longF k' g' = L')) (hl : (L == 0) = false) (hl' : (L' == 0) = false) (hk : k ≠ k') (h10 : k' ≠ 10) (hk10 : k ≠ 10) (h9 : k ≠ 9) (HA : Hid (amB 1 4 k = false)) (HB : Hid (amB 5 8 k = false)) :
    Calls Try.prog 49 #[.agg #[.string nm, .int .i64 k, .int .i64 g], .agg #[.string nm', .int .i64 k', .int .i64 g']] w fun e w' => e = .returned (.bool false) ∧ Below w.heap.size w w' := by
  have b1 : (k == k') = false := by simpa using hk
  have b2 : (k' == 10) = false := by simpa using h10
  have b3 : (k == 10) = false := by simpa using hk10
  have b4 : (k == 9) = false := by simpa using h9
  clear hk h10 hk10 h9
  go_enter Try.func49, Try.ntmps49
  go_wp2_with fail
  have hF := (fb_new w nm k g).alloc (.cells #[.string nm', .int .i64 k', .int .i64 g'] 24)
  have hT := fb_new2 w (.cells #[.string nm, .int .i64 k, .int .i64 g] 24) nm' k' g'
  refine reg_begin (by kernel_rfl) (fun w0r hx0r hHeld => ?_)
  have hF0 := hF.on hx0r
  have hT0 := hT.on hx0r
  have hxA : ∀ w', Ext w0r w' → Ext w0r w' := fun _ h => h
  have q0 : ∀ w', Ext w0r w' → w'.cell? ⟨w.heap.size, 0, none⟩ = some (.string nm) := fun w' h => (hF0.on h).cells.1
  have q1 : ∀ w', Ext w0r w' → w'.cell? ⟨w.heap.size, 1, none⟩ = some (.int .i64 k) := fun w' h => (hF0.on h).cells.2.1
  have q2 : ∀ w', Ext w0r w' → w'.cell? ⟨w.heap.size, 2, none⟩ = some (.int .i64 g) := fun w' h => (hF0.on h).cells.2.2
  have p0 : ∀ w', Ext w0r w' → w'.cell? ⟨w.heap.size + 1, 0, none⟩ = some (.string nm') := fun w' h => (hT0.on h).cells.1
  have p1 : ∀ w', Ext w0r w' → w'.cell? ⟨w.heap.size + 1, 1, none⟩ = some (.int .i64 k') := fun w' h => (hT0.on h).cells.2.1
  have p2 : ∀ w', Ext w0r w' → w'.cell? ⟨w.heap.size + 1, 2, none⟩ = some (.int .i64 g') := fun w' h => (hT0.on h).cells.2.2
  refine reg_take 0 (v := ?vz41_0) at0 (by kernel_rfl) (by kernel_rfl) (by kernel_rfl) (by rfl) ?hyz41_0 hHeld ?restz41_0
  case hyz41_0 => (intro w' hSw; go_simp; try with_reducible rfl)
  try simp only [Act.put, List.setIfInBounds_toArray, List.set_cons_zero, List.set_cons_succ]
  refine reg_take 2 (v := ?vz42_2) (atS (atS at0)) (by kernel_rfl) (by kernel_rfl) (by kernel_rfl) (by rfl) ?hyz42_2 hHeld ?restz42_2
  case hyz42_2 => (intro w' hSw; go_simp; try with_reducible rfl)
  try simp only [Act.put, List.setIfInBounds_toArray, List.set_cons_zero, List.set_cons_succ]
  refine wpAnyH_ready (rs := [1]) (by kernel_rfl) (by simp) ?_
  refine AllReadyH.cons (atS at0) (fun K hK => ?_) AllReadyH.nil
  go_simp
  go_at_call 30
  refine (klong_any _ _ _ _).mono ?_
  rintro e w2 ⟨rfl, hb2⟩
  rw [HL.out]
  go_wp2_with fail
  refine hK.out _ _ hb2 (fun hHeld => ?_)
  clear hK K
  try simp only [Act.put, List.setIfInBounds_toArray, List.set_cons_zero, List.set_cons_succ]
  refine reg_on hb2 (fun hHeld => ?_)
  have hx2 : ∀ w', Ext w2 w' → Ext w0r w' := fun w' h => hxA w' (Ext.trans hb2 h)
  refine wpAnyH_ready (rs := [3]) (by kernel_rfl) (by simp) ?_
  refine AllReadyH.cons (atS (atS (atS at0))) (fun K hK => ?_) AllReadyH.nil
  go_simp
  go_at_call 30
  refine (klong_any _ _ _ _).mono ?_
  rintro e w3 ⟨rfl, hb3⟩
  rw [HL'.out]
  go_wp2_with fail
  refine hK.out _ _ hb3 (fun hHeld => ?_)
  clear hK K
  try simp only [Act.put, List.setIfInBounds_toArray, List.set_cons_zero, List.set_cons_succ]
  refine reg_on hb3 (fun hHeld => ?_)
  have hx3 : ∀ w', Ext w3 w' → Ext w0r w' := fun w' h => hx2 w' (Ext.trans hb3 h)
  refine reg_take 4 (v := ?vz43_4) (atS (atS (atS (atS at0)))) (by kernel_rfl) (by kernel_rfl) (by kernel_rfl) (by rfl) ?hyz43_4 hHeld ?restz43_4
  case hyz43_4 => (intro w' hSw; go_simp; try with_reducible rfl)
  try simp only [Act.put, List.setIfInBounds_toArray, List.set_cons_zero, List.set_cons_succ]
  refine reg_take 5 (v := ?vz44_5) (atS5 at0) (by kernel_rfl) (by kernel_rfl) (by kernel_rfl) (by rfl) ?hyz44_5 hHeld ?restz44_5
  case hyz44_5 => (intro w' hSw; go_simp; try with_reducible rfl)
  try simp only [Act.put, List.setIfInBounds_toArray, List.set_cons_zero, List.set_cons_succ]
  refine wpAnyH_done (by kernel_rfl) ?_ _
  refine NoPanic.normal ?_
  have hE := hx3 _ (Ext.refl _)
  have hF1 := hF0.on hE
  have hT1 := hT0.on hE
  have hbE : Below w.heap.size w _ := Bt (Bt (Ba (B1 _ _) _) hx0r) hE
  clear q0 q1 q2 p0 p1 p2 hx0r hE hHeld
  obtain ⟨c0, c1, c2⟩ := hF1.cells
  obtain ⟨d0, d1, d2⟩ := hT1.cells
  go_wp2_with fail
  go_at_call 61
  refine (among_new _ _ _).mono ?_
  rintro e wu ⟨up, rfl, uh, ub⟩
  have hF1a := hF1.on ub
  have hT1a := hT1.on ub
  have hbE1 := Bt hbE ub
  clear c0 c1 c2 d0 d1 d2
  obtain ⟨c0, c1, c2⟩ := hF1a.cells
  obtain ⟨d0, d1, d2⟩ := hT1a.cells
  go_wp2_with fail
  go_at_call 61
  refine (among_new _ _ _).mono ?_
  rintro e ws ⟨sp, rfl, sh, sb⟩
  have hF2a := hF1a.on sb
  have hT2a := hT1a.on sb
  have hbE2 := Bt hbE1 sb
  have uh2 := uh.on sb
  clear c0 c1 c2 d0 d1 d2
  obtain ⟨c0, c1, c2⟩ := hF2a.cells
  obtain ⟨d0, d1, d2⟩ := hT2a.cells
  go_wp2_with fail
  go_at_call 61
  refine (among_new _ _ _).mono ?_
  rintro e wn ⟨np, rfl, nh, nb⟩
  have hF3a := hF2a.on nb
  have hT3a := hT2a.on nb
  have hbE3 := Bt hbE2 nb
  have uh3 := uh2.on nb
  have sh3 := sh.on nb
  clear c0 c1 c2 d0 d1 d2
  obtain ⟨c0, c1, c2⟩ := hF3a.cells
  obtain ⟨d0, d1, d2⟩ := hT3a.cells
  go_wp2_with fail
  go_at_call 66
  refine (among_ask _ uh3).mono ?_
  rintro e wq ⟨rfl, rfl⟩
  rw [HA.out]
  go_wp2_with fail
  go_at_call 66
  refine (among_ask _ sh3).mono ?_
  rintro e wq ⟨rfl, rfl⟩
  rw [HB.out]
  go_wp2_with fail
  go_ret
  exact ⟨rfl, hbE3⟩
set_option maxHeartbeats 2000000 in
theorem kcasts_G1 (nm nm' : ByteArray) (k g k' g' L L' : Int) (w : World) (HL : Hid (longF k g = L)) (HL' : Hid (longF k' g' = L')) (hl : (L == 0) = false) (hl' : (L' == 0) = false) (hk : k ≠ k') (h10 : k' ≠ 10) (hk10 : k ≠ 10) (h9 : k ≠ 9) (HA : Hid (amB 1 4 k = false)) (HB : Hid (amB 5 8 k = true)) (HC : Hid (amB 5 8 k' = false)) :
    Calls Try.prog 49 #[.agg #[.string nm, .int .i64 k, .int .i64 g], .agg #[.string nm', .int .i64 k', .int .i64 g']] w fun e w' => e = .returned (.bool false) ∧ Below w.heap.size w w' := by
  have b1 : (k == k') = false := by simpa using hk
  have b2 : (k' == 10) = false := by simpa using h10
  have b3 : (k == 10) = false := by simpa using hk10
  have b4 : (k == 9) = false := by simpa using h9
  clear hk h10 hk10 h9
  go_enter Try.func49, Try.ntmps49
  go_wp2_with fail
  have hF := (fb_new w nm k g).alloc (.cells #[.string nm', .int .i64 k', .int .i64 g'] 24)
  have hT := fb_new2 w (.cells #[.string nm, .int .i64 k, .int .i64 g] 24) nm' k' g'
  refine reg_begin (by kernel_rfl) (fun w0r hx0r hHeld => ?_)
  have hF0 := hF.on hx0r
  have hT0 := hT.on hx0r
  have hxA : ∀ w', Ext w0r w' → Ext w0r w' := fun _ h => h
  have q0 : ∀ w', Ext w0r w' → w'.cell? ⟨w.heap.size, 0, none⟩ = some (.string nm) := fun w' h => (hF0.on h).cells.1
  have q1 : ∀ w', Ext w0r w' → w'.cell? ⟨w.heap.size, 1, none⟩ = some (.int .i64 k) := fun w' h => (hF0.on h).cells.2.1
  have q2 : ∀ w', Ext w0r w' → w'.cell? ⟨w.heap.size, 2, none⟩ = some (.int .i64 g) := fun w' h => (hF0.on h).cells.2.2
  have p0 : ∀ w', Ext w0r w' → w'.cell? ⟨w.heap.size + 1, 0, none⟩ = some (.string nm') := fun w' h => (hT0.on h).cells.1
  have p1 : ∀ w', Ext w0r w' → w'.cell? ⟨w.heap.size + 1, 1, none⟩ = some (.int .i64 k') := fun w' h => (hT0.on h).cells.2.1
  have p2 : ∀ w', Ext w0r w' → w'.cell? ⟨w.heap.size + 1, 2, none⟩ = some (.int .i64 g') := fun w' h => (hT0.on h).cells.2.2
  refine reg_take 0 (v := ?vz45_0) at0 (by kernel_rfl) (by kernel_rfl) (by kernel_rfl) (by rfl) ?hyz45_0 hHeld ?restz45_0
  case hyz45_0 => (intro w' hSw; go_simp; try with_reducible rfl)
  try simp only [Act.put, List.setIfInBounds_toArray, List.set_cons_zero, List.set_cons_succ]
  refine reg_take 2 (v := ?vz46_2) (atS (atS at0)) (by kernel_rfl) (by kernel_rfl) (by kernel_rfl) (by rfl) ?hyz46_2 hHeld ?restz46_2
  case hyz46_2 => (intro w' hSw; go_simp; try with_reducible rfl)
  try simp only [Act.put, List.setIfInBounds_toArray, List.set_cons_zero, List.set_cons_succ]
  refine wpAnyH_ready (rs := [1]) (by kernel_rfl) (by simp) ?_
  refine AllReadyH.cons (atS at0) (fun K hK => ?_) AllReadyH.nil
  go_simp
  go_at_call 30
  refine (klong_any _ _ _ _).mono ?_
  rintro e w2 ⟨rfl, hb2⟩
  rw [HL.out]
  go_wp2_with fail
  refine hK.out _ _ hb2 (fun hHeld => ?_)
  clear hK K
  try simp only [Act.put, List.setIfInBounds_toArray, List.set_cons_zero, List.set_cons_succ]
  refine reg_on hb2 (fun hHeld => ?_)
  have hx2 : ∀ w', Ext w2 w' → Ext w0r w' := fun w' h => hxA w' (Ext.trans hb2 h)
  refine wpAnyH_ready (rs := [3]) (by kernel_rfl) (by simp) ?_
  refine AllReadyH.cons (atS (atS (atS at0))) (fun K hK => ?_) AllReadyH.nil
  go_simp
  go_at_call 30
  refine (klong_any _ _ _ _).mono ?_
  rintro e w3 ⟨rfl, hb3⟩
  rw [HL'.out]
  go_wp2_with fail
  refine hK.out _ _ hb3 (fun hHeld => ?_)
  clear hK K
  try simp only [Act.put, List.setIfInBounds_toArray, List.set_cons_zero, List.set_cons_succ]
  refine reg_on hb3 (fun hHeld => ?_)
  have hx3 : ∀ w', Ext w3 w' → Ext w0r w' := fun w' h => hx2 w' (Ext.trans hb3 h)
  refine reg_take 4 (v := ?vz47_4) (atS (atS (atS (atS at0)))) (by kernel_rfl) (by kernel_rfl) (by kernel_rfl) (by rfl) ?hyz47_4 hHeld ?restz47_4
  case hyz47_4 => (intro w' hSw; go_simp; try with_reducible rfl)
  try simp only [Act.put, List.setIfInBounds_toArray, List.set_cons_zero, List.set_cons_succ]
  refine reg_take 5 (v := ?vz48_5) (atS5 at0) (by kernel_rfl) (by kernel_rfl) (by kernel_rfl) (by rfl) ?hyz48_5 hHeld ?restz48_5
  case hyz48_5 => (intro w' hSw; go_simp; try with_reducible rfl)
  try simp only [Act.put, List.setIfInBounds_toArray, List.set_cons_zero, List.set_cons_succ]
  refine wpAnyH_done (by kernel_rfl) ?_ _
  refine NoPanic.normal ?_
  have hE := hx3 _ (Ext.refl _)
  have hF1 := hF0.on hE
  have hT1 := hT0.on hE
  have hbE : Below w.heap.size w _ := Bt (Bt (Ba (B1 _ _) _) hx0r) hE
  clear q0 q1 q2 p0 p1 p2 hx0r hE hHeld
  obtain ⟨c0, c1, c2⟩ := hF1.cells
  obtain ⟨d0, d1, d2⟩ := hT1.cells
  go_wp2_with fail
  go_at_call 61
  refine (among_new _ _ _).mono ?_
  rintro e wu ⟨up, rfl, uh, ub⟩
  have hF1a := hF1.on ub
  have hT1a := hT1.on ub
  have hbE1 := Bt hbE ub
  clear c0 c1 c2 d0 d1 d2
  obtain ⟨c0, c1, c2⟩ := hF1a.cells
  obtain ⟨d0, d1, d2⟩ := hT1a.cells
  go_wp2_with fail
  go_at_call 61
  refine (among_new _ _ _).mono ?_
  rintro e ws ⟨sp, rfl, sh, sb⟩
  have hF2a := hF1a.on sb
  have hT2a := hT1a.on sb
  have hbE2 := Bt hbE1 sb
  have uh2 := uh.on sb
  clear c0 c1 c2 d0 d1 d2
  obtain ⟨c0, c1, c2⟩ := hF2a.cells
  obtain ⟨d0, d1, d2⟩ := hT2a.cells
  go_wp2_with fail
  go_at_call 61
  refine (among_new _ _ _).mono ?_
  rintro e wn ⟨np, rfl, nh, nb⟩
  have hF3a := hF2a.on nb
  have hT3a := hT2a.on nb
  have hbE3 := Bt hbE2 nb
  have uh3 := uh2.on nb
  have sh3 := sh.on nb
  clear c0 c1 c2 d0 d1 d2
  obtain ⟨c0, c1, c2⟩ := hF3a.cells
  obtain ⟨d0, d1, d2⟩ := hT3a.cells
  go_wp2_with fail
  go_at_call 66
  refine (among_ask _ uh3).mono ?_
  rintro e wq ⟨rfl, rfl⟩
  rw [HA.out]
  go_wp2_with fail
  go_at_call 66
  refine (among_ask _ sh3).mono ?_
  rintro e wq ⟨rfl, rfl⟩
  rw [HB.out]
  go_wp2_with fail
  go_at_call 66
  refine (among_ask _ sh3).mono ?_
  rintro e wq ⟨rfl, rfl⟩
  rw [HC.out]
  go_wp2_with fail
  go_ret
  exact ⟨rfl, hbE3⟩
set_option maxHeartbeats 2000000 in
theorem kcasts_G2 (nm nm' : ByteArray) (k g k' g' L L' : Int) (w : World) (HL : Hid (longF k g = L)) (HL' : Hid (longF k' g' = L')) (hl : (L == 0) = false) (hl' : (L' == 0) = false) (hk : k ≠ k') (h10 : k' ≠ 10) (hk10 : k ≠ 10) (h9 : k ≠ 9) (HA : Hid (amB 1 4 k = false)) (HB : Hid (amB 5 8 k = true)) (HC : Hid (amB 5 8 k' = true)) (x : Bool) (hx : decide (L < L') = x) :
    Calls Try.prog 49 #[.agg #[.string nm, .int .i64 k, .int .i64 g], .agg #[.string nm', .int .i64 k', .int .i64 g']] w fun e w' => e = .returned (.bool x) ∧ Below w.heap.size w w' := by
  have b1 : (k == k') = false := by simpa using hk
  have b2 : (k' == 10) = false := by simpa using h10
  have b3 : (k == 10) = false := by simpa using hk10
  have b4 : (k == 9) = false := by simpa using h9
  clear hk h10 hk10 h9
  go_enter Try.func49, Try.ntmps49
  go_wp2_with fail
  have hF := (fb_new w nm k g).alloc (.cells #[.string nm', .int .i64 k', .int .i64 g'] 24)
  have hT := fb_new2 w (.cells #[.string nm, .int .i64 k, .int .i64 g] 24) nm' k' g'
  refine reg_begin (by kernel_rfl) (fun w0r hx0r hHeld => ?_)
  have hF0 := hF.on hx0r
  have hT0 := hT.on hx0r
  have hxA : ∀ w', Ext w0r w' → Ext w0r w' := fun _ h => h
  have q0 : ∀ w', Ext w0r w' → w'.cell? ⟨w.heap.size, 0, none⟩ = some (.string nm) := fun w' h => (hF0.on h).cells.1
  have q1 : ∀ w', Ext w0r w' → w'.cell? ⟨w.heap.size, 1, none⟩ = some (.int .i64 k) := fun w' h => (hF0.on h).cells.2.1
  have q2 : ∀ w', Ext w0r w' → w'.cell? ⟨w.heap.size, 2, none⟩ = some (.int .i64 g) := fun w' h => (hF0.on h).cells.2.2
  have p0 : ∀ w', Ext w0r w' → w'.cell? ⟨w.heap.size + 1, 0, none⟩ = some (.string nm') := fun w' h => (hT0.on h).cells.1
  have p1 : ∀ w', Ext w0r w' → w'.cell? ⟨w.heap.size + 1, 1, none⟩ = some (.int .i64 k') := fun w' h => (hT0.on h).cells.2.1
  have p2 : ∀ w', Ext w0r w' → w'.cell? ⟨w.heap.size + 1, 2, none⟩ = some (.int .i64 g') := fun w' h => (hT0.on h).cells.2.2
  refine reg_take 0 (v := ?vz49_0) at0 (by kernel_rfl) (by kernel_rfl) (by kernel_rfl) (by rfl) ?hyz49_0 hHeld ?restz49_0
  case hyz49_0 => (intro w' hSw; go_simp; try with_reducible rfl)
  try simp only [Act.put, List.setIfInBounds_toArray, List.set_cons_zero, List.set_cons_succ]
  refine reg_take 2 (v := ?vz50_2) (atS (atS at0)) (by kernel_rfl) (by kernel_rfl) (by kernel_rfl) (by rfl) ?hyz50_2 hHeld ?restz50_2
  case hyz50_2 => (intro w' hSw; go_simp; try with_reducible rfl)
  try simp only [Act.put, List.setIfInBounds_toArray, List.set_cons_zero, List.set_cons_succ]
  refine wpAnyH_ready (rs := [1]) (by kernel_rfl) (by simp) ?_
  refine AllReadyH.cons (atS at0) (fun K hK => ?_) AllReadyH.nil
  go_simp
  go_at_call 30
  refine (klong_any _ _ _ _).mono ?_
  rintro e w2 ⟨rfl, hb2⟩
  rw [HL.out]
  go_wp2_with fail
  refine hK.out _ _ hb2 (fun hHeld => ?_)
  clear hK K
  try simp only [Act.put, List.setIfInBounds_toArray, List.set_cons_zero, List.set_cons_succ]
  refine reg_on hb2 (fun hHeld => ?_)
  have hx2 : ∀ w', Ext w2 w' → Ext w0r w' := fun w' h => hxA w' (Ext.trans hb2 h)
  refine wpAnyH_ready (rs := [3]) (by kernel_rfl) (by simp) ?_
  refine AllReadyH.cons (atS (atS (atS at0))) (fun K hK => ?_) AllReadyH.nil
  go_simp
  go_at_call 30
  refine (klong_any _ _ _ _).mono ?_
  rintro e w3 ⟨rfl, hb3⟩
  rw [HL'.out]
  go_wp2_with fail
  refine hK.out _ _ hb3 (fun hHeld => ?_)
  clear hK K
  try simp only [Act.put, List.setIfInBounds_toArray, List.set_cons_zero, List.set_cons_succ]
  refine reg_on hb3 (fun hHeld => ?_)
  have hx3 : ∀ w', Ext w3 w' → Ext w0r w' := fun w' h => hx2 w' (Ext.trans hb3 h)
  refine reg_take 4 (v := ?vz51_4) (atS (atS (atS (atS at0)))) (by kernel_rfl) (by kernel_rfl) (by kernel_rfl) (by rfl) ?hyz51_4 hHeld ?restz51_4
  case hyz51_4 => (intro w' hSw; go_simp; try with_reducible rfl)
  try simp only [Act.put, List.setIfInBounds_toArray, List.set_cons_zero, List.set_cons_succ]
  refine reg_take 5 (v := ?vz52_5) (atS5 at0) (by kernel_rfl) (by kernel_rfl) (by kernel_rfl) (by rfl) ?hyz52_5 hHeld ?restz52_5
  case hyz52_5 => (intro w' hSw; go_simp; try with_reducible rfl)
  try simp only [Act.put, List.setIfInBounds_toArray, List.set_cons_zero, List.set_cons_succ]
  refine wpAnyH_done (by kernel_rfl) ?_ _
  refine NoPanic.normal ?_
  have hE := hx3 _ (Ext.refl _)
  have hF1 := hF0.on hE
  have hT1 := hT0.on hE
  have hbE : Below w.heap.size w _ := Bt (Bt (Ba (B1 _ _) _) hx0r) hE
  clear q0 q1 q2 p0 p1 p2 hx0r hE hHeld
  obtain ⟨c0, c1, c2⟩ := hF1.cells
  obtain ⟨d0, d1, d2⟩ := hT1.cells
  go_wp2_with fail
  go_at_call 61
  refine (among_new _ _ _).mono ?_
  rintro e wu ⟨up, rfl, uh, ub⟩
  have hF1a := hF1.on ub
  have hT1a := hT1.on ub
  have hbE1 := Bt hbE ub
  clear c0 c1 c2 d0 d1 d2
  obtain ⟨c0, c1, c2⟩ := hF1a.cells
  obtain ⟨d0, d1, d2⟩ := hT1a.cells
  go_wp2_with fail
  go_at_call 61
  refine (among_new _ _ _).mono ?_
  rintro e ws ⟨sp, rfl, sh, sb⟩
  have hF2a := hF1a.on sb
  have hT2a := hT1a.on sb
  have hbE2 := Bt hbE1 sb
  have uh2 := uh.on sb
  clear c0 c1 c2 d0 d1 d2
  obtain ⟨c0, c1, c2⟩ := hF2a.cells
  obtain ⟨d0, d1, d2⟩ := hT2a.cells
  go_wp2_with fail
  go_at_call 61
  refine (among_new _ _ _).mono ?_
  rintro e wn ⟨np, rfl, nh, nb⟩
  have hF3a := hF2a.on nb
  have hT3a := hT2a.on nb
  have hbE3 := Bt hbE2 nb
  have uh3 := uh2.on nb
  have sh3 := sh.on nb
  clear c0 c1 c2 d0 d1 d2
  obtain ⟨c0, c1, c2⟩ := hF3a.cells
  obtain ⟨d0, d1, d2⟩ := hT3a.cells
  go_wp2_with fail
  go_at_call 66
  refine (among_ask _ uh3).mono ?_
  rintro e wq ⟨rfl, rfl⟩
  rw [HA.out]
  go_wp2_with fail
  go_at_call 66
  refine (among_ask _ sh3).mono ?_
  rintro e wq ⟨rfl, rfl⟩
  rw [HB.out]
  go_wp2_with fail
  go_at_call 66
  refine (among_ask _ sh3).mono ?_
  rintro e wq ⟨rfl, rfl⟩
  rw [HC.out]
  go_wp2_with fail
  go_ret
  exact ⟨rfl, hbE3⟩

theorem castsP_eq {k g k' g' : Int} (hm : mayF k g = true) (hm' : mayF k' g' = true) : castsF k g k' g' = castsP k k' (longF k g) (longF k' g') := by
  by_cases h12 : k = 12
  · subst h12
    by_cases h12' : k' = 12
    · subst h12'; simp [castsF, castsP, hm, hm']
    · obtain ⟨rfl, h⟩ := may_cases hm' h12'
      rcases h with rfl | rfl | rfl | rfl | rfl | rfl | rfl | rfl | rfl | rfl | rfl <;> simp [castsF, castsP, hm, hm', amB]
  · obtain ⟨rfl, h⟩ := may_cases hm h12
    by_cases h12' : k' = 12
    · subst h12'
      rcases h with rfl | rfl | rfl | rfl | rfl | rfl | rfl | rfl | rfl | rfl | rfl <;> simp [castsF, castsP, hm, hm', amB]
    · obtain ⟨rfl, h'⟩ := may_cases hm' h12'
      rcases h with rfl | rfl | rfl | rfl | rfl | rfl | rfl | rfl | rfl | rfl | rfl <;> rcases h' with rfl | rfl | rfl | rfl | rfl | rfl | rfl | rfl | rfl | rfl | rfl <;> decide
theorem kcasts_any (nm nm' : ByteArray) (k g k' g' : Int) (w : World) :
    Calls Try.prog 49 #[.agg #[.string nm, .int .i64 k, .int .i64 g], .agg #[.string nm', .int .i64 k', .int .i64 g']] w fun e w' => e = .returned (.bool (castsF k g k' g')) ∧ Below w.heap.size w w' := by
  by_cases hm : mayF k g = true
  · have hl0 := long_may hm
    have hl : (longF k g == 0) = false := by simpa using hl0
    by_cases hm' : mayF k' g' = true
    · have hl0' := long_may hm'
      have hl' : (longF k' g' == 0) = false := by simpa using hl0'
      rw [castsP_eq hm hm']
      unfold castsP
      by_cases hk : k = k'
      · rw [if_pos hk]; exact kcasts_A nm nm' k g k' g' _ _ w rfl rfl hl hl' hk
      rw [if_neg hk]
      by_cases h10 : k' = 10
      · rw [if_pos h10]; exact kcasts_B nm nm' k g k' g' _ _ w rfl rfl hl hl' hk h10 _ rfl
      rw [if_neg h10]
      by_cases hk10 : k = 10
      · rw [if_pos hk10]; exact kcasts_C nm nm' k g k' g' _ _ w rfl rfl hl hl' hk h10 hk10 _ (by rw [Bool.eq_iff_iff]; simp)
      rw [if_neg hk10]
      by_cases h9 : k = 9
      · cases hA : amB 1 4 k' with
        | true => rw [if_pos ⟨h9, rfl⟩]; exact kcasts_D nm nm' k g k' g' _ _ w rfl rfl hl hl' hk h10 hk10 h9 hA _ rfl
        | false =>
          rw [if_neg (by simp), if_pos (Or.inl h9)]
          cases hB : amB 1 8 k' with
          | true => rw [Bool.true_and]; exact kcasts_E1 nm nm' k g k' g' _ _ w rfl rfl hl hl' hk h10 hk10 h9 hA hB _ rfl
          | false => rw [Bool.false_and]; exact kcasts_E2 nm nm' k g k' g' _ _ w rfl rfl hl hl' hk h10 hk10 h9 hA hB
      rw [if_neg (fun h => h9 h.1)]
      cases hA : amB 1 4 k with
      | true =>
        rw [if_pos (Or.inr rfl)]
        cases hB : amB 1 8 k' with
        | true => rw [Bool.true_and]; exact kcasts_F1 nm nm' k g k' g' _ _ w rfl rfl hl hl' hk h10 hk10 h9 hA hB _ rfl
        | false => rw [Bool.false_and]; exact kcasts_F2 nm nm' k g k' g' _ _ w rfl rfl hl hl' hk h10 hk10 h9 hA hB
      | false =>
        rw [if_neg (by simp [h9])]
        cases hB : amB 5 8 k with
        | false => rw [Bool.false_and, Bool.false_and]; exact kcasts_G0 nm nm' k g k' g' _ _ w rfl rfl hl hl' hk h10 hk10 h9 hA hB
        | true =>
          rw [Bool.true_and]
          cases hC : amB 5 8 k' with
          | false => rw [Bool.false_and]; exact kcasts_G1 nm nm' k g k' g' _ _ w rfl rfl hl hl' hk h10 hk10 h9 hA hB hC
          | true => rw [Bool.true_and]; exact kcasts_G2 nm nm' k g k' g' _ _ w rfl rfl hl hl' hk h10 hk10 h9 hA hB hC _ rfl
    · have hm' : mayF k' g' = false := by simpa using hm'
      rw [show castsF k g k' g' = false by simp [castsF, hm']]
      exact kcasts_z2 nm nm' k g k' g' _ _ w rfl rfl hl (by rw [long_zero hm']; rfl)
  · have hm : mayF k g = false := by simpa using hm
    rw [show castsF k g k' g' = false by simp [castsF, hm]]
    exact kcasts_z1 nm nm' k g k' g' _ _ w rfl rfl (by rw [long_zero hm]; rfl)
end Go.Proofs.Ytjodbopnibdolaa
