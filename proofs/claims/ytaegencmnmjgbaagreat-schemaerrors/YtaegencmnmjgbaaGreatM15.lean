/-
  Contract of kind.Cast (written by tools/kindv.py).
-/
import Derived.Test.YtaegencmnmjgbaaGreatM10
import Derived.Test.YtaegencmnmjgbaaGreatM13
import Derived.Test.YtaegencmnmjgbaaGreatM14

namespace Go.Proofs.YtaegencmnmjgbaaGreat
open Go.RowKit
set_option linter.unusedVariables false
set_option linter.unusedSimpArgs false
set_option maxHeartbeats 2000000 in
theorem kcast_50 (vk n : Int) (t nm nm' : ByteArray) (k g k' g' : Int) (w : World) (hn : U64 n) (hr : rightF vk n t.size k g = false) :
    Calls Tryz.prog 131 #[.agg #[.int .i64 vk, .int .u64 n, .string t], .agg #[.string nm, .int .i64 k, .int .i64 g], .agg #[.string nm', .int .i64 k', .int .i64 g']] w fun e w' => e = .returned (castR vk n t k g k' g') ∧ Below w.heap.size w w' := by
  go_enter Tryz.func131, Tryz.ntmps131
  go_wp2_with fail
  go_at_call 122
  refine (kright_any _ _ _ _ _ _ _ hn).mono ?_
  rintro e w1 ⟨rfl, hb1⟩
  rw [hr]
  have hV := ((((vb_new w vk n t).alloc (.cells #[.string nm, .int .i64 k, .int .i64 g] 68)).alloc (.cells #[.string nm', .int .i64 k', .int .i64 g'] 68)).alloc (.cells #[.int .i64 0, .int .u64 0, .string ⟨#[]⟩] 71)).on hb1
  have hF := (((fb_new2 w (.cells #[.int .i64 vk, .int .u64 n, .string t] 71) nm k g).alloc (.cells #[.string nm', .int .i64 k', .int .i64 g'] 68)).alloc (.cells #[.int .i64 0, .int .u64 0, .string ⟨#[]⟩] 71)).on hb1
  have hT := ((fb_new3 w (.cells #[.int .i64 vk, .int .u64 n, .string t] 71) (.cells #[.string nm, .int .i64 k, .int .i64 g] 68) nm' k' g').alloc (.cells #[.int .i64 0, .int .u64 0, .string ⟨#[]⟩] 71)).on hb1
  have hR := (vb_new4 w (.cells #[.int .i64 vk, .int .u64 n, .string t] 71) (.cells #[.string nm, .int .i64 k, .int .i64 g] 68) (.cells #[.string nm', .int .i64 k', .int .i64 g'] 68) 0 0 ⟨#[]⟩).on hb1
  have hbw : Below w.heap.size w w1 := Bt (Ba (Ba (Ba (B1 _ _) _) _) _) hb1
  clear hb1
  obtain ⟨r0, r1, r2⟩ := hR.cells
  have g0 := hR.frozen 0
  have g1 := hR.frozen 1
  have g2 := hR.frozen 2
  go_wp2_with fail
  refine ret_VBe (by rfl) (by rfl) (((hR.setKind 0).setBits 0).setText ⟨#[]⟩) (by rfl) (by rfl) ⟨by rw [castR_50 hr]; rfl, ?_⟩
  exact ((hbw.setCell (by simp; omega) _).setCell (by simp; omega) _).setCell (by simp; omega) _
set_option maxHeartbeats 2000000 in
theorem kcast_51 (vk n : Int) (t nm nm' : ByteArray) (k g k' g' : Int) (w : World) (hn : U64 n) (hr : rightF vk n t.size k g = true) (hc : castsF k g k' g' = false) :
    Calls Tryz.prog 131 #[.agg #[.int .i64 vk, .int .u64 n, .string t], .agg #[.string nm, .int .i64 k, .int .i64 g], .agg #[.string nm', .int .i64 k', .int .i64 g']] w fun e w' => e = .returned (castR vk n t k g k' g') ∧ Below w.heap.size w w' := by
  go_enter Tryz.func131, Tryz.ntmps131
  go_wp2_with fail
  go_at_call 122
  refine (kright_any _ _ _ _ _ _ _ hn).mono ?_
  rintro e w1 ⟨rfl, hb1⟩
  rw [hr]
  have hV := ((((vb_new w vk n t).alloc (.cells #[.string nm, .int .i64 k, .int .i64 g] 68)).alloc (.cells #[.string nm', .int .i64 k', .int .i64 g'] 68)).alloc (.cells #[.int .i64 0, .int .u64 0, .string ⟨#[]⟩] 71)).on hb1
  have hF := (((fb_new2 w (.cells #[.int .i64 vk, .int .u64 n, .string t] 71) nm k g).alloc (.cells #[.string nm', .int .i64 k', .int .i64 g'] 68)).alloc (.cells #[.int .i64 0, .int .u64 0, .string ⟨#[]⟩] 71)).on hb1
  have hT := ((fb_new3 w (.cells #[.int .i64 vk, .int .u64 n, .string t] 71) (.cells #[.string nm, .int .i64 k, .int .i64 g] 68) nm' k' g').alloc (.cells #[.int .i64 0, .int .u64 0, .string ⟨#[]⟩] 71)).on hb1
  have hR := (vb_new4 w (.cells #[.int .i64 vk, .int .u64 n, .string t] 71) (.cells #[.string nm, .int .i64 k, .int .i64 g] 68) (.cells #[.string nm', .int .i64 k', .int .i64 g'] 68) 0 0 ⟨#[]⟩).on hb1
  have hbw : Below w.heap.size w w1 := Bt (Ba (Ba (Ba (B1 _ _) _) _) _) hb1
  clear hb1
  obtain ⟨x0, x1, x2⟩ := hF.cells
  obtain ⟨y0, y1, y2⟩ := hT.cells
  go_wp2_with fail
  go_at_call 164
  refine (kcasts_any _ _ _ _ _ _ _).mono ?_
  rintro e w2 ⟨rfl, hb2⟩
  rw [hc]
  clear x0 x1 x2 y0 y1 y2
  have hV := hV.on hb2
  have hF := hF.on hb2
  have hT := hT.on hb2
  have hR := hR.on hb2
  have hbw := Bt hbw hb2
  clear hb2
  obtain ⟨r0, r1, r2⟩ := hR.cells
  have g0 := hR.frozen 0
  have g1 := hR.frozen 1
  have g2 := hR.frozen 2
  go_wp2_with fail
  refine ret_VBe (by rfl) (by rfl) (((hR.setKind 0).setBits 0).setText ⟨#[]⟩) (by rfl) (by rfl) ⟨by rw [castR_51 hr hc]; rfl, ?_⟩
  exact ((hbw.setCell (by simp; omega) _).setCell (by simp; omega) _).setCell (by simp; omega) _
set_option maxHeartbeats 2000000 in
theorem kcast_T1 (vk n : Int) (t nm nm' : ByteArray) (k g k' : Int) (m : Nat) (w : World) (hn : U64 n) (hm64 : m ≤ 64) (HR : Hid (rightF vk n t.size k g = true)) (HC : Hid (castsF k g k' m = true)) (hk : k = k') :
    Calls Tryz.prog 131 #[.agg #[.int .i64 vk, .int .u64 n, .string t], .agg #[.string nm, .int .i64 k, .int .i64 g], .agg #[.string nm', .int .i64 k', .int .i64 m]] w fun e w' => e = .returned (.tuple #[.agg #[.int .i64 k', .int .u64 n, .string (cutT t m)], .int .i64 0]) ∧ Below w.heap.size w w' := by
  have b1 : (k == k') = true := by simpa using hk
  clear hk
  go_enter Tryz.func131, Tryz.ntmps131
  go_wp2_with fail
  go_at_call 122
  refine (kright_any _ _ _ _ _ _ _ hn).mono ?_
  rintro e w1 ⟨rfl, hb1⟩
  rw [HR.out]
  have hV := ((((vb_new w vk n t).alloc (.cells #[.string nm, .int .i64 k, .int .i64 g] 68)).alloc (.cells #[.string nm', .int .i64 k', .int .i64 m] 68)).alloc (.cells #[.int .i64 0, .int .u64 0, .string ⟨#[]⟩] 71)).on hb1
  have hF := (((fb_new2 w (.cells #[.int .i64 vk, .int .u64 n, .string t] 71) nm k g).alloc (.cells #[.string nm', .int .i64 k', .int .i64 m] 68)).alloc (.cells #[.int .i64 0, .int .u64 0, .string ⟨#[]⟩] 71)).on hb1
  have hT := ((fb_new3 w (.cells #[.int .i64 vk, .int .u64 n, .string t] 71) (.cells #[.string nm, .int .i64 k, .int .i64 g] 68) nm' k' m).alloc (.cells #[.int .i64 0, .int .u64 0, .string ⟨#[]⟩] 71)).on hb1
  have hR := (vb_new4 w (.cells #[.int .i64 vk, .int .u64 n, .string t] 71) (.cells #[.string nm, .int .i64 k, .int .i64 g] 68) (.cells #[.string nm', .int .i64 k', .int .i64 m] 68) 0 0 ⟨#[]⟩).on hb1
  have hbw : Below w.heap.size w w1 := Bt (Ba (Ba (Ba (B1 _ _) _) _) _) hb1
  clear hb1
  obtain ⟨x0, x1, x2⟩ := hF.cells
  obtain ⟨y0, y1, y2⟩ := hT.cells
  go_wp2_with fail
  go_at_call 164
  refine (kcasts_any _ _ _ _ _ _ _).mono ?_
  rintro e w2 ⟨rfl, hb2⟩
  rw [HC.out]
  clear x0 x1 x2 y0 y1 y2
  have hV := hV.on hb2
  have hF := hF.on hb2
  have hT := hT.on hb2
  have hR := hR.on hb2
  have hbw := Bt hbw hb2
  clear hb2
  go_wp2_with fail
  refine reg_begin (by kernel_rfl) (fun w0r hx0r hHeld => ?_)
  have hF0 := hF.on hx0r
  have hT0 := hT.on hx0r
  have hV0 := hV.on hx0r
  have hR0 := hR.on hx0r
  have hxA := hx0r
  have l3 : w.heap.size + 1 + 1 + 1 < w0r.heap.size := hR0.lt
  have p1 : ∀ w', Ext w0r w' → w'.cell? ⟨w.heap.size + 1 + 1, 1, none⟩ = some (.int .i64 k') := fun w' h => (hT0.on h).cells.2.1
  have p2 : ∀ w', Ext w0r w' → w'.cell? ⟨w.heap.size + 1 + 1, 2, none⟩ = some (.int .i64 m) := fun w' h => (hT0.on h).cells.2.2
  have q1 : ∀ w', Ext w0r w' → w'.cell? ⟨w.heap.size, 1, none⟩ = some (.int .u64 n) := fun w' h => (hV0.on h).cells.2.1
  have q2 : ∀ w', Ext w0r w' → w'.cell? ⟨w.heap.size, 2, none⟩ = some (.string t) := fun w' h => (hV0.on h).cells.2.2
  refine reg_take 0 (v := ?vz1_0) at0 (by kernel_rfl) (by kernel_rfl) (by kernel_rfl) (by rfl) ?hyz1_0 hHeld ?restz1_0
  case hyz1_0 => (intro w' hSw; go_simp; try with_reducible rfl)
  try simp only [Act.put, List.setIfInBounds_toArray, List.set_cons_zero, List.set_cons_succ]
  refine reg_take 1 (v := ?vz2_1) (atS at0) (by kernel_rfl) (by kernel_rfl) (by kernel_rfl) (by rfl) ?hyz2_1 hHeld ?restz2_1
  case hyz2_1 => (intro w' hSw; go_simp; try with_reducible rfl)
  try simp only [Act.put, List.setIfInBounds_toArray, List.set_cons_zero, List.set_cons_succ]
  refine reg_take 2 (v := ?vz3_2) (atS (atS at0)) (by kernel_rfl) (by kernel_rfl) (by kernel_rfl) (by rfl) ?hyz3_2 hHeld ?restz3_2
  case hyz3_2 => (intro w' hSw; go_simp; try with_reducible rfl)
  try simp only [Act.put, List.setIfInBounds_toArray, List.set_cons_zero, List.set_cons_succ]
  refine reg_take 3 (v := ?vz4_3) (atS (atS (atS at0))) (by kernel_rfl) (by kernel_rfl) (by kernel_rfl) (by rfl) ?hyz4_3 hHeld ?restz4_3
  case hyz4_3 => (intro w' hSw; go_simp; try with_reducible rfl)
  try simp only [Act.put, List.setIfInBounds_toArray, List.set_cons_zero, List.set_cons_succ]
  refine reg_take 4 (v := ?vz5_4) (atS (atS (atS (atS at0)))) (by kernel_rfl) (by kernel_rfl) (by kernel_rfl) (by rfl) ?hyz5_4 hHeld ?restz5_4
  case hyz5_4 => (intro w' hSw; go_simp; try with_reducible rfl)
  try simp only [Act.put, List.setIfInBounds_toArray, List.set_cons_zero, List.set_cons_succ]
  refine reg_take 5 (v := ?vz6_5) (atS5 at0) (by kernel_rfl) (by kernel_rfl) (by kernel_rfl) (by rfl) ?hyz6_5 hHeld ?restz6_5
  case hyz6_5 => (intro w' hSw; go_simp; try with_reducible rfl)
  try simp only [Act.put, List.setIfInBounds_toArray, List.set_cons_zero, List.set_cons_succ]
  refine reg_take 6 (v := ?vz7_6) (atS5 (atS at0)) (by kernel_rfl) (by kernel_rfl) (by kernel_rfl) (by rfl) ?hyz7_6 hHeld ?restz7_6
  case hyz7_6 => (intro w' hSw; go_simp; try with_reducible rfl)
  try simp only [Act.put, List.setIfInBounds_toArray, List.set_cons_zero, List.set_cons_succ]
  refine reg_take 7 (v := ?vz8_7) (atS5 (atS (atS at0))) (by kernel_rfl) (by kernel_rfl) (by kernel_rfl) (by rfl) ?hyz8_7 hHeld ?restz8_7
  case hyz8_7 => (intro w' hSw; go_simp; try with_reducible rfl)
  try simp only [Act.put, List.setIfInBounds_toArray, List.set_cons_zero, List.set_cons_succ]
  refine wpAnyH_ready (rs := [8, 10]) (by kernel_rfl) (by simp) ?_
  refine AllReadyH.cons (atS5 (atS (atS (atS at0)))) (fun K hK => ?_) (AllReadyH.cons (atS5 (atS5 at0)) (fun K hK => ?_) AllReadyH.nil)
  · skip
    go_simp
    go_at_call 165
    refine (cut_any _ m _ hm64).mono ?_
    rintro e w3 ⟨rfl, hb3⟩
    go_wp2_with fail
    refine hK.out _ _ (by first | exact hb3 | exact Bt (B1 _ _) hb3) (fun hHeld => ?_)
    clear hK K
    try simp only [Act.put, List.setIfInBounds_toArray, List.set_cons_zero, List.set_cons_succ]
    try have hZ := (vb_new w0r 0 0 ⟨#[]⟩).on hb3
    have lp : w0r.heap.size ≤ w0r.heap.size := Nat.le_refl _
    try obtain ⟨z0, z1, z2⟩ := hZ.cells
    try have f0 := hZ.frozen 0
    try have f1 := hZ.frozen 1
    try have f2 := hZ.frozen 2
    try have hU := ((hZ.setKind k').setBits n).setText (cutT t m)
    refine reg_take 9 (v := ?vz9_9) (atS5 (atS (atS (atS (atS at0))))) (by kernel_rfl) (by kernel_rfl) (by kernel_rfl) (by rfl) ?hyz9_9 hHeld ?restz9_9
    case hyz9_9 => (intro w' hSw; go_simp; try with_reducible rfl)
    try simp only [Act.put, List.setIfInBounds_toArray, List.set_cons_zero, List.set_cons_succ]
    refine wpAnyH_ready (rs := [10]) (by kernel_rfl) (by simp) ?_
    refine AllReadyH.cons (atS5 (atS5 at0)) (fun K hK => ?_) AllReadyH.nil
    go_simp
    skip
    refine hK.out _ _ (by first | exact B1 _ _ | exact Ba hb3 _) (fun hHeld => ?_)
    clear hK K
    try simp only [Act.put, List.setIfInBounds_toArray, List.set_cons_zero, List.set_cons_succ]
    try have hU := vb_new w3 k' n (cutT t m)
    try have lp : w0r.heap.size ≤ w3.heap.size := hb3.size
    try have hR3 := hR0.on hb3
    try have hbw3 := Bt (Bt hbw hx0r) hb3
    try obtain ⟨s0, s1, s2⟩ := hR3.cells
    try have e0 := hR3.frozen 0
    try have e1 := hR3.frozen 1
    try have e2 := hR3.frozen 2
    try have ls := hR3.lt
    refine wpAnyH_ready (rs := [11]) (by kernel_rfl) (by simp) ?_
    refine AllReadyH.cons (atS5 (atS5 (atS at0))) (fun K hK => ?_) AllReadyH.nil
    go_simp
    skip
    refine hK.out _ _ (by first | exact Ba hb3 _ | exact (((hHeld.setCell (by simp) _).setCell (by simp) _).setCell (by simp) _)) (fun hHeld => ?_)
    clear hK K
    try simp only [Act.put]
    refine wpAnyH_done (by kernel_rfl) ?_ _
    refine NoPanic.normal ?_
    have hF1 := hF0.on hHeld
    have hT1 := hT0.on hHeld
    have hV1 := hV0.on hHeld
    have hR1 := hR0.on hHeld
    have hb4 := Bt (Bt hbw hx0r) hHeld
    have lu := hU.lt
    have n3 := Nat.lt_of_lt_of_le l3 lp
    have n0 := Nat.lt_of_le_of_lt (show w.heap.size ≤ w.heap.size + 1 + 1 + 1 by omega) n3
    have n1 := Nat.lt_of_le_of_lt (show w.heap.size + 1 ≤ w.heap.size + 1 + 1 + 1 by omega) n3
    have n2 := Nat.lt_of_le_of_lt (show w.heap.size + 1 + 1 ≤ w.heap.size + 1 + 1 + 1 by omega) n3
    try clear z0 z1 z2
    try clear f0 f1 f2
    try clear hZ
    clear p1 p2 q1 q2 hHeld hF0 hT0 hV0 hR0 hb3 hx0r hxA hF hT hV hR hbw
    obtain ⟨v0, v1, v2⟩ := hV1.cells
    obtain ⟨x0, x1, x2⟩ := hF1.cells
    obtain ⟨y0, y1, y2⟩ := hT1.cells
    obtain ⟨r0, r1, r2⟩ := hR1.cells
    obtain ⟨u0, u1, u2⟩ := hU.cells
    have g0 := hR1.frozen 0
    have g1 := hR1.frozen 1
    have g2 := hR1.frozen 2
    have f0 := hU.frozen 0
    have f1 := hU.frozen 1
    have f2 := hU.frozen 2
    go_wp2_with fail
    first
      | (refine ret_VBe (by rfl) (by rfl) (((hR1.setKind k').setBits n).setText (cutT t m)) (by rfl) (by rfl) ⟨rfl, ?_⟩
         exact ((hb4.setCell (by simp; try omega) _).setCell (by simp; try omega) _).setCell (by simp; try omega) _)
      | (refine ret_VBe (by rfl) (by rfl) ((((hR3.setKind k').setBits n).setText (cutT t m)).alloc _) (by rfl) (by rfl) ⟨rfl, ?_⟩
         exact (((hbw3.setCell (by simp; try omega) _).setCell (by simp; try omega) _).setCell (by simp; try omega) _).alloc (by simp; omega) _)
  · skip
    go_simp
    skip
    refine hK.out _ _ (by first | exact B1 _ _ | exact Ba hb3 _) (fun hHeld => ?_)
    clear hK K
    try simp only [Act.put, List.setIfInBounds_toArray, List.set_cons_zero, List.set_cons_succ]
    try have hU := vb_new w3 k' n (cutT t m)
    try have lp : w0r.heap.size ≤ w3.heap.size := hb3.size
    try have hR3 := hR0.on hb3
    try have hbw3 := Bt (Bt hbw hx0r) hb3
    try obtain ⟨s0, s1, s2⟩ := hR3.cells
    try have e0 := hR3.frozen 0
    try have e1 := hR3.frozen 1
    try have e2 := hR3.frozen 2
    try have ls := hR3.lt
    refine wpAnyH_ready (rs := [8]) (by kernel_rfl) (by simp) ?_
    refine AllReadyH.cons (atS5 (atS (atS (atS at0)))) (fun K hK => ?_) AllReadyH.nil
    go_simp
    go_at_call 165
    refine (cut_any _ m _ hm64).mono ?_
    rintro e w3 ⟨rfl, hb3⟩
    go_wp2_with fail
    refine hK.out _ _ (by first | exact hb3 | exact Bt (B1 _ _) hb3) (fun hHeld => ?_)
    clear hK K
    try simp only [Act.put, List.setIfInBounds_toArray, List.set_cons_zero, List.set_cons_succ]
    try have hZ := (vb_new w0r 0 0 ⟨#[]⟩).on hb3
    have lp : w0r.heap.size ≤ w0r.heap.size := Nat.le_refl _
    try obtain ⟨z0, z1, z2⟩ := hZ.cells
    try have f0 := hZ.frozen 0
    try have f1 := hZ.frozen 1
    try have f2 := hZ.frozen 2
    try have hU := ((hZ.setKind k').setBits n).setText (cutT t m)
    refine reg_take 9 (v := ?vz11_9) (atS5 (atS (atS (atS (atS at0))))) (by kernel_rfl) (by kernel_rfl) (by kernel_rfl) (by rfl) ?hyz11_9 hHeld ?restz11_9
    case hyz11_9 => (intro w' hSw; go_simp; try with_reducible rfl)
    try simp only [Act.put, List.setIfInBounds_toArray, List.set_cons_zero, List.set_cons_succ]
    refine wpAnyH_ready (rs := [11]) (by kernel_rfl) (by simp) ?_
    refine AllReadyH.cons (atS5 (atS5 (atS at0))) (fun K hK => ?_) AllReadyH.nil
    go_simp
    skip
    refine hK.out _ _ (by first | exact Ba hb3 _ | exact (((hHeld.setCell (by simp) _).setCell (by simp) _).setCell (by simp) _)) (fun hHeld => ?_)
    clear hK K
    try simp only [Act.put]
    refine wpAnyH_done (by kernel_rfl) ?_ _
    refine NoPanic.normal ?_
    have hF1 := hF0.on hHeld
    have hT1 := hT0.on hHeld
    have hV1 := hV0.on hHeld
    have hR1 := hR0.on hHeld
    have hb4 := Bt (Bt hbw hx0r) hHeld
    have lu := hU.lt
    have n3 := Nat.lt_of_lt_of_le l3 lp
    have n0 := Nat.lt_of_le_of_lt (show w.heap.size ≤ w.heap.size + 1 + 1 + 1 by omega) n3
    have n1 := Nat.lt_of_le_of_lt (show w.heap.size + 1 ≤ w.heap.size + 1 + 1 + 1 by omega) n3
    have n2 := Nat.lt_of_le_of_lt (show w.heap.size + 1 + 1 ≤ w.heap.size + 1 + 1 + 1 by omega) n3
    try clear z0 z1 z2
    try clear f0 f1 f2
    try clear hZ
    clear p1 p2 q1 q2 hHeld hF0 hT0 hV0 hR0 hb3 hx0r hxA hF hT hV hR hbw
    obtain ⟨v0, v1, v2⟩ := hV1.cells
    obtain ⟨x0, x1, x2⟩ := hF1.cells
    obtain ⟨y0, y1, y2⟩ := hT1.cells
    obtain ⟨r0, r1, r2⟩ := hR1.cells
    obtain ⟨u0, u1, u2⟩ := hU.cells
    have g0 := hR1.frozen 0
    have g1 := hR1.frozen 1
    have g2 := hR1.frozen 2
    have f0 := hU.frozen 0
    have f1 := hU.frozen 1
    have f2 := hU.frozen 2
    go_wp2_with fail
    first
      | (refine ret_VBe (by rfl) (by rfl) (((hR1.setKind k').setBits n).setText (cutT t m)) (by rfl) (by rfl) ⟨rfl, ?_⟩
         exact ((hb4.setCell (by simp; try omega) _).setCell (by simp; try omega) _).setCell (by simp; try omega) _)
      | (refine ret_VBe (by rfl) (by rfl) ((((hR3.setKind k').setBits n).setText (cutT t m)).alloc _) (by rfl) (by rfl) ⟨rfl, ?_⟩
         exact (((hbw3.setCell (by simp; try omega) _).setCell (by simp; try omega) _).setCell (by simp; try omega) _).alloc (by simp; omega) _)
set_option maxHeartbeats 2000000 in
theorem kcast_T2 (vk n : Int) (t nm nm' : ByteArray) (k g k' : Int) (m : Nat) (w : World) (hn : U64 n) (hm64 : m ≤ 64) (HR : Hid (rightF vk n t.size k g = true)) (HC : Hid (castsF k g k' m = true)) (hk : k ≠ k') (h10 : k' = 10) (N : Nat) (HN : Hid (flB n vk = N)) :
    Calls Tryz.prog 131 #[.agg #[.int .i64 vk, .int .u64 n, .string t], .agg #[.string nm, .int .i64 k, .int .i64 g], .agg #[.string nm', .int .i64 k', .int .i64 m]] w fun e w' => e = .returned (.tuple #[.agg #[.int .i64 k', .int .u64 (N : Int), .string (cutT t m)], .int .i64 0]) ∧ Below w.heap.size w w' := by
  have b1 : (k == k') = false := by simpa using hk
  have b2 : (k' == 10) = true := by simpa using h10
  have hfb := run_fbits N
  clear hk h10
  go_enter Tryz.func131, Tryz.ntmps131
  go_wp2_with fail
  go_at_call 122
  refine (kright_any _ _ _ _ _ _ _ hn).mono ?_
  rintro e w1 ⟨rfl, hb1⟩
  rw [HR.out]
  have hV := ((((vb_new w vk n t).alloc (.cells #[.string nm, .int .i64 k, .int .i64 g] 68)).alloc (.cells #[.string nm', .int .i64 k', .int .i64 m] 68)).alloc (.cells #[.int .i64 0, .int .u64 0, .string ⟨#[]⟩] 71)).on hb1
  have hF := (((fb_new2 w (.cells #[.int .i64 vk, .int .u64 n, .string t] 71) nm k g).alloc (.cells #[.string nm', .int .i64 k', .int .i64 m] 68)).alloc (.cells #[.int .i64 0, .int .u64 0, .string ⟨#[]⟩] 71)).on hb1
  have hT := ((fb_new3 w (.cells #[.int .i64 vk, .int .u64 n, .string t] 71) (.cells #[.string nm, .int .i64 k, .int .i64 g] 68) nm' k' m).alloc (.cells #[.int .i64 0, .int .u64 0, .string ⟨#[]⟩] 71)).on hb1
  have hR := (vb_new4 w (.cells #[.int .i64 vk, .int .u64 n, .string t] 71) (.cells #[.string nm, .int .i64 k, .int .i64 g] 68) (.cells #[.string nm', .int .i64 k', .int .i64 m] 68) 0 0 ⟨#[]⟩).on hb1
  have hbw : Below w.heap.size w w1 := Bt (Ba (Ba (Ba (B1 _ _) _) _) _) hb1
  clear hb1
  obtain ⟨x0, x1, x2⟩ := hF.cells
  obtain ⟨y0, y1, y2⟩ := hT.cells
  go_wp2_with fail
  go_at_call 164
  refine (kcasts_any _ _ _ _ _ _ _).mono ?_
  rintro e w2 ⟨rfl, hb2⟩
  rw [HC.out]
  clear x0 x1 x2 y0 y1 y2
  have hV := hV.on hb2
  have hF := hF.on hb2
  have hT := hT.on hb2
  have hR := hR.on hb2
  have hbw := Bt hbw hb2
  clear hb2
  go_wp2_with fail
  refine reg_begin (by kernel_rfl) (fun w0r hx0r hHeld => ?_)
  have hF0 := hF.on hx0r
  have hT0 := hT.on hx0r
  have hV0 := hV.on hx0r
  have hR0 := hR.on hx0r
  have hxA := hx0r
  have l3 : w.heap.size + 1 + 1 + 1 < w0r.heap.size := hR0.lt
  have p1 : ∀ w', Ext w0r w' → w'.cell? ⟨w.heap.size + 1 + 1, 1, none⟩ = some (.int .i64 k') := fun w' h => (hT0.on h).cells.2.1
  have p2 : ∀ w', Ext w0r w' → w'.cell? ⟨w.heap.size + 1 + 1, 2, none⟩ = some (.int .i64 m) := fun w' h => (hT0.on h).cells.2.2
  have q1 : ∀ w', Ext w0r w' → w'.cell? ⟨w.heap.size, 1, none⟩ = some (.int .u64 n) := fun w' h => (hV0.on h).cells.2.1
  have q2 : ∀ w', Ext w0r w' → w'.cell? ⟨w.heap.size, 2, none⟩ = some (.string t) := fun w' h => (hV0.on h).cells.2.2
  refine reg_take 0 (v := ?vz13_0) at0 (by kernel_rfl) (by kernel_rfl) (by kernel_rfl) (by rfl) ?hyz13_0 hHeld ?restz13_0
  case hyz13_0 => (intro w' hSw; go_simp; try with_reducible rfl)
  try simp only [Act.put, List.setIfInBounds_toArray, List.set_cons_zero, List.set_cons_succ]
  refine reg_take 1 (v := ?vz14_1) (atS at0) (by kernel_rfl) (by kernel_rfl) (by kernel_rfl) (by rfl) ?hyz14_1 hHeld ?restz14_1
  case hyz14_1 => (intro w' hSw; go_simp; try with_reducible rfl)
  try simp only [Act.put, List.setIfInBounds_toArray, List.set_cons_zero, List.set_cons_succ]
  refine reg_take 2 (v := ?vz15_2) (atS (atS at0)) (by kernel_rfl) (by kernel_rfl) (by kernel_rfl) (by rfl) ?hyz15_2 hHeld ?restz15_2
  case hyz15_2 => (intro w' hSw; go_simp; try with_reducible rfl)
  try simp only [Act.put, List.setIfInBounds_toArray, List.set_cons_zero, List.set_cons_succ]
  refine reg_take 3 (v := ?vz16_3) (atS (atS (atS at0))) (by kernel_rfl) (by kernel_rfl) (by kernel_rfl) (by rfl) ?hyz16_3 hHeld ?restz16_3
  case hyz16_3 => (intro w' hSw; go_simp; try with_reducible rfl)
  try simp only [Act.put, List.setIfInBounds_toArray, List.set_cons_zero, List.set_cons_succ]
  refine reg_take 4 (v := ?vz17_4) (atS (atS (atS (atS at0)))) (by kernel_rfl) (by kernel_rfl) (by kernel_rfl) (by rfl) ?hyz17_4 hHeld ?restz17_4
  case hyz17_4 => (intro w' hSw; go_simp; try with_reducible rfl)
  try simp only [Act.put, List.setIfInBounds_toArray, List.set_cons_zero, List.set_cons_succ]
  refine reg_take 5 (v := ?vz18_5) (atS5 at0) (by kernel_rfl) (by kernel_rfl) (by kernel_rfl) (by rfl) ?hyz18_5 hHeld ?restz18_5
  case hyz18_5 => (intro w' hSw; go_simp; try with_reducible rfl)
  try simp only [Act.put, List.setIfInBounds_toArray, List.set_cons_zero, List.set_cons_succ]
  refine reg_take 6 (v := ?vz19_6) (atS5 (atS at0)) (by kernel_rfl) (by kernel_rfl) (by kernel_rfl) (by rfl) ?hyz19_6 hHeld ?restz19_6
  case hyz19_6 => (intro w' hSw; go_simp; try with_reducible rfl)
  try simp only [Act.put, List.setIfInBounds_toArray, List.set_cons_zero, List.set_cons_succ]
  refine reg_take 7 (v := ?vz20_7) (atS5 (atS (atS at0))) (by kernel_rfl) (by kernel_rfl) (by kernel_rfl) (by rfl) ?hyz20_7 hHeld ?restz20_7
  case hyz20_7 => (intro w' hSw; go_simp; try with_reducible rfl)
  try simp only [Act.put, List.setIfInBounds_toArray, List.set_cons_zero, List.set_cons_succ]
  refine wpAnyH_ready (rs := [8, 10]) (by kernel_rfl) (by simp) ?_
  refine AllReadyH.cons (atS5 (atS (atS (atS at0)))) (fun K hK => ?_) (AllReadyH.cons (atS5 (atS5 at0)) (fun K hK => ?_) AllReadyH.nil)
  · skip
    go_simp
    go_at_call 165
    refine (cut_any _ m _ hm64).mono ?_
    rintro e w3 ⟨rfl, hb3⟩
    go_wp2_with fail
    refine hK.out _ _ (by first | exact hb3 | exact Bt (B1 _ _) hb3) (fun hHeld => ?_)
    clear hK K
    try simp only [Act.put, List.setIfInBounds_toArray, List.set_cons_zero, List.set_cons_succ]
    try have hZ := (vb_new w0r 0 0 ⟨#[]⟩).on hb3
    have lp : w0r.heap.size ≤ w0r.heap.size := Nat.le_refl _
    try obtain ⟨z0, z1, z2⟩ := hZ.cells
    try have f0 := hZ.frozen 0
    try have f1 := hZ.frozen 1
    try have f2 := hZ.frozen 2
    try have hU := ((hZ.setKind k').setBits n).setText (cutT t m)
    refine reg_take 9 (v := ?vz21_9) (atS5 (atS (atS (atS (atS at0))))) (by kernel_rfl) (by kernel_rfl) (by kernel_rfl) (by rfl) ?hyz21_9 hHeld ?restz21_9
    case hyz21_9 => (intro w' hSw; go_simp; try with_reducible rfl)
    try simp only [Act.put, List.setIfInBounds_toArray, List.set_cons_zero, List.set_cons_succ]
    refine wpAnyH_ready (rs := [10]) (by kernel_rfl) (by simp) ?_
    refine AllReadyH.cons (atS5 (atS5 at0)) (fun K hK => ?_) AllReadyH.nil
    go_simp
    skip
    refine hK.out _ _ (by first | exact B1 _ _ | exact Ba hb3 _) (fun hHeld => ?_)
    clear hK K
    try simp only [Act.put, List.setIfInBounds_toArray, List.set_cons_zero, List.set_cons_succ]
    try have hU := vb_new w3 k' n (cutT t m)
    try have lp : w0r.heap.size ≤ w3.heap.size := hb3.size
    try have hR3 := hR0.on hb3
    try have hbw3 := Bt (Bt hbw hx0r) hb3
    try obtain ⟨s0, s1, s2⟩ := hR3.cells
    try have e0 := hR3.frozen 0
    try have e1 := hR3.frozen 1
    try have e2 := hR3.frozen 2
    try have ls := hR3.lt
    refine wpAnyH_ready (rs := [11]) (by kernel_rfl) (by simp) ?_
    refine AllReadyH.cons (atS5 (atS5 (atS at0))) (fun K hK => ?_) AllReadyH.nil
    go_simp
    skip
    refine hK.out _ _ (by first | exact Ba hb3 _ | exact (((hHeld.setCell (by simp) _).setCell (by simp) _).setCell (by simp) _)) (fun hHeld => ?_)
    clear hK K
    try simp only [Act.put]
    refine wpAnyH_done (by kernel_rfl) ?_ _
    refine NoPanic.normal ?_
    have hF1 := hF0.on hHeld
    have hT1 := hT0.on hHeld
    have hV1 := hV0.on hHeld
    have hR1 := hR0.on hHeld
    have hb4 := Bt (Bt hbw hx0r) hHeld
    have lu := hU.lt
    have n3 := Nat.lt_of_lt_of_le l3 lp
    have n0 := Nat.lt_of_le_of_lt (show w.heap.size ≤ w.heap.size + 1 + 1 + 1 by omega) n3
    have n1 := Nat.lt_of_le_of_lt (show w.heap.size + 1 ≤ w.heap.size + 1 + 1 + 1 by omega) n3
    have n2 := Nat.lt_of_le_of_lt (show w.heap.size + 1 + 1 ≤ w.heap.size + 1 + 1 + 1 by omega) n3
    try clear z0 z1 z2
    try clear f0 f1 f2
    try clear hZ
    clear p1 p2 q1 q2 hHeld hF0 hT0 hV0 hR0 hb3 hx0r hxA hF hT hV hR hbw
    obtain ⟨v0, v1, v2⟩ := hV1.cells
    obtain ⟨x0, x1, x2⟩ := hF1.cells
    obtain ⟨y0, y1, y2⟩ := hT1.cells
    obtain ⟨r0, r1, r2⟩ := hR1.cells
    obtain ⟨u0, u1, u2⟩ := hU.cells
    have g0 := hR1.frozen 0
    have g1 := hR1.frozen 1
    have g2 := hR1.frozen 2
    have f0 := hU.frozen 0
    have f1 := hU.frozen 1
    have f2 := hU.frozen 2
    go_wp2_with fail
    go_at_call 167
    refine (float_any _ _ _ _ hn).mono ?_
    rintro e w5 ⟨rfl, hb5⟩
    rw [HN.out]
    have hV2 := hV1.on hb5
    have hR2 := hR1.on hb5
    have hU2 := hU.on hb5
    have hb6 := Bt hb4 hb5
    have lr2 := hR2.lt
    have lu2 := hU2.lt
    clear v0 v1 v2 x0 x1 x2 y0 y1 y2 r0 r1 r2 u0 u1 u2 g0 g1 g2 f0 f1 f2
    obtain ⟨r0, r1, r2⟩ := hR2.cells
    obtain ⟨u0, u1, u2⟩ := hU2.cells
    have g0 := hR2.frozen 0
    have g1 := hR2.frozen 1
    have g2 := hR2.frozen 2
    have f0 := hU2.frozen 0
    have f1 := hU2.frozen 1
    have f2 := hU2.frozen 2
    go_wp2_with fail
    refine ret_VBe (by rfl) (by rfl) ((((hR2.other (by omega) 1 _).setKind k').setBits (N : Int)).setText (cutT t m)) (by rfl) (by rfl) ⟨rfl, ?_⟩
    exact (((hb6.setCell (by simp; try omega) _).setCell (by simp; try omega) _).setCell (by simp; try omega) _).setCell (by simp; try omega) _
  · skip
    go_simp
    skip
    refine hK.out _ _ (by first | exact B1 _ _ | exact Ba hb3 _) (fun hHeld => ?_)
    clear hK K
    try simp only [Act.put, List.setIfInBounds_toArray, List.set_cons_zero, List.set_cons_succ]
    try have hU := vb_new w3 k' n (cutT t m)
    try have lp : w0r.heap.size ≤ w3.heap.size := hb3.size
    try have hR3 := hR0.on hb3
    try have hbw3 := Bt (Bt hbw hx0r) hb3
    try obtain ⟨s0, s1, s2⟩ := hR3.cells
    try have e0 := hR3.frozen 0
    try have e1 := hR3.frozen 1
    try have e2 := hR3.frozen 2
    try have ls := hR3.lt
    refine wpAnyH_ready (rs := [8]) (by kernel_rfl) (by simp) ?_
    refine AllReadyH.cons (atS5 (atS (atS (atS at0)))) (fun K hK => ?_) AllReadyH.nil
    go_simp
    go_at_call 165
    refine (cut_any _ m _ hm64).mono ?_
    rintro e w3 ⟨rfl, hb3⟩
    go_wp2_with fail
    refine hK.out _ _ (by first | exact hb3 | exact Bt (B1 _ _) hb3) (fun hHeld => ?_)
    clear hK K
    try simp only [Act.put, List.setIfInBounds_toArray, List.set_cons_zero, List.set_cons_succ]
    try have hZ := (vb_new w0r 0 0 ⟨#[]⟩).on hb3
    have lp : w0r.heap.size ≤ w0r.heap.size := Nat.le_refl _
    try obtain ⟨z0, z1, z2⟩ := hZ.cells
    try have f0 := hZ.frozen 0
    try have f1 := hZ.frozen 1
    try have f2 := hZ.frozen 2
    try have hU := ((hZ.setKind k').setBits n).setText (cutT t m)
    refine reg_take 9 (v := ?vz23_9) (atS5 (atS (atS (atS (atS at0))))) (by kernel_rfl) (by kernel_rfl) (by kernel_rfl) (by rfl) ?hyz23_9 hHeld ?restz23_9
    case hyz23_9 => (intro w' hSw; go_simp; try with_reducible rfl)
    try simp only [Act.put, List.setIfInBounds_toArray, List.set_cons_zero, List.set_cons_succ]
    refine wpAnyH_ready (rs := [11]) (by kernel_rfl) (by simp) ?_
    refine AllReadyH.cons (atS5 (atS5 (atS at0))) (fun K hK => ?_) AllReadyH.nil
    go_simp
    skip
    refine hK.out _ _ (by first | exact Ba hb3 _ | exact (((hHeld.setCell (by simp) _).setCell (by simp) _).setCell (by simp) _)) (fun hHeld => ?_)
    clear hK K
    try simp only [Act.put]
    refine wpAnyH_done (by kernel_rfl) ?_ _
    refine NoPanic.normal ?_
    have hF1 := hF0.on hHeld
    have hT1 := hT0.on hHeld
    have hV1 := hV0.on hHeld
    have hR1 := hR0.on hHeld
    have hb4 := Bt (Bt hbw hx0r) hHeld
    have lu := hU.lt
    have n3 := Nat.lt_of_lt_of_le l3 lp
    have n0 := Nat.lt_of_le_of_lt (show w.heap.size ≤ w.heap.size + 1 + 1 + 1 by omega) n3
    have n1 := Nat.lt_of_le_of_lt (show w.heap.size + 1 ≤ w.heap.size + 1 + 1 + 1 by omega) n3
    have n2 := Nat.lt_of_le_of_lt (show w.heap.size + 1 + 1 ≤ w.heap.size + 1 + 1 + 1 by omega) n3
    try clear z0 z1 z2
    try clear f0 f1 f2
    try clear hZ
    clear p1 p2 q1 q2 hHeld hF0 hT0 hV0 hR0 hb3 hx0r hxA hF hT hV hR hbw
    obtain ⟨v0, v1, v2⟩ := hV1.cells
    obtain ⟨x0, x1, x2⟩ := hF1.cells
    obtain ⟨y0, y1, y2⟩ := hT1.cells
    obtain ⟨r0, r1, r2⟩ := hR1.cells
    obtain ⟨u0, u1, u2⟩ := hU.cells
    have g0 := hR1.frozen 0
    have g1 := hR1.frozen 1
    have g2 := hR1.frozen 2
    have f0 := hU.frozen 0
    have f1 := hU.frozen 1
    have f2 := hU.frozen 2
    go_wp2_with fail
    go_at_call 167
    refine (float_any _ _ _ _ hn).mono ?_
    rintro e w5 ⟨rfl, hb5⟩
    rw [HN.out]
    have hV2 := hV1.on hb5
    have hR2 := hR1.on hb5
    have hU2 := hU.on hb5
    have hb6 := Bt hb4 hb5
    have lr2 := hR2.lt
    have lu2 := hU2.lt
    clear v0 v1 v2 x0 x1 x2 y0 y1 y2 r0 r1 r2 u0 u1 u2 g0 g1 g2 f0 f1 f2
    obtain ⟨r0, r1, r2⟩ := hR2.cells
    obtain ⟨u0, u1, u2⟩ := hU2.cells
    have g0 := hR2.frozen 0
    have g1 := hR2.frozen 1
    have g2 := hR2.frozen 2
    have f0 := hU2.frozen 0
    have f1 := hU2.frozen 1
    have f2 := hU2.frozen 2
    go_wp2_with fail
    refine ret_VBe (by rfl) (by rfl) ((((hR2.other (by omega) 1 _).setKind k').setBits (N : Int)).setText (cutT t m)) (by rfl) (by rfl) ⟨rfl, ?_⟩
    exact (((hb6.setCell (by simp; try omega) _).setCell (by simp; try omega) _).setCell (by simp; try omega) _).setCell (by simp; try omega) _
set_option maxHeartbeats 2000000 in
theorem kcast_T3 (vk n : Int) (t nm nm' : ByteArray) (k g k' : Int) (m : Nat) (w : World) (hn : U64 n) (hm64 : m ≤ 64) (HR : Hid (rightF vk n t.size k g = true)) (HC : Hid (castsF k g k' m = true)) (hk : k ≠ k') (h10 : k' ≠ 10) (hk10 : k = 10) (W : Int) (HW : Hid (wholeN n.toNat = W)) (N : Int) (HN : Hid (IntKind.u64.wrap W = N)) :
    Calls Tryz.prog 131 #[.agg #[.int .i64 vk, .int .u64 n, .string t], .agg #[.string nm, .int .i64 k, .int .i64 g], .agg #[.string nm', .int .i64 k', .int .i64 m]] w fun e w' => e = .returned (.tuple #[.agg #[.int .i64 k', .int .u64 N, .string (cutT t m)], .int .i64 0]) ∧ Below w.heap.size w w' := by
  have b1 : (k == k') = false := by simpa using hk
  have b2 : (k' == 10) = false := by simpa using h10
  have b3 : (k == 10) = true := by simpa using hk10
  clear hk h10 hk10
  go_enter Tryz.func131, Tryz.ntmps131
  go_wp2_with fail
  go_at_call 122
  refine (kright_any _ _ _ _ _ _ _ hn).mono ?_
  rintro e w1 ⟨rfl, hb1⟩
  rw [HR.out]
  have hV := ((((vb_new w vk n t).alloc (.cells #[.string nm, .int .i64 k, .int .i64 g] 68)).alloc (.cells #[.string nm', .int .i64 k', .int .i64 m] 68)).alloc (.cells #[.int .i64 0, .int .u64 0, .string ⟨#[]⟩] 71)).on hb1
  have hF := (((fb_new2 w (.cells #[.int .i64 vk, .int .u64 n, .string t] 71) nm k g).alloc (.cells #[.string nm', .int .i64 k', .int .i64 m] 68)).alloc (.cells #[.int .i64 0, .int .u64 0, .string ⟨#[]⟩] 71)).on hb1
  have hT := ((fb_new3 w (.cells #[.int .i64 vk, .int .u64 n, .string t] 71) (.cells #[.string nm, .int .i64 k, .int .i64 g] 68) nm' k' m).alloc (.cells #[.int .i64 0, .int .u64 0, .string ⟨#[]⟩] 71)).on hb1
  have hR := (vb_new4 w (.cells #[.int .i64 vk, .int .u64 n, .string t] 71) (.cells #[.string nm, .int .i64 k, .int .i64 g] 68) (.cells #[.string nm', .int .i64 k', .int .i64 m] 68) 0 0 ⟨#[]⟩).on hb1
  have hbw : Below w.heap.size w w1 := Bt (Ba (Ba (Ba (B1 _ _) _) _) _) hb1
  clear hb1
  obtain ⟨x0, x1, x2⟩ := hF.cells
  obtain ⟨y0, y1, y2⟩ := hT.cells
  go_wp2_with fail
  go_at_call 164
  refine (kcasts_any _ _ _ _ _ _ _).mono ?_
  rintro e w2 ⟨rfl, hb2⟩
  rw [HC.out]
  clear x0 x1 x2 y0 y1 y2
  have hV := hV.on hb2
  have hF := hF.on hb2
  have hT := hT.on hb2
  have hR := hR.on hb2
  have hbw := Bt hbw hb2
  clear hb2
  go_wp2_with fail
  refine reg_begin (by kernel_rfl) (fun w0r hx0r hHeld => ?_)
  have hF0 := hF.on hx0r
  have hT0 := hT.on hx0r
  have hV0 := hV.on hx0r
  have hR0 := hR.on hx0r
  have hxA := hx0r
  have l3 : w.heap.size + 1 + 1 + 1 < w0r.heap.size := hR0.lt
  have p1 : ∀ w', Ext w0r w' → w'.cell? ⟨w.heap.size + 1 + 1, 1, none⟩ = some (.int .i64 k') := fun w' h => (hT0.on h).cells.2.1
  have p2 : ∀ w', Ext w0r w' → w'.cell? ⟨w.heap.size + 1 + 1, 2, none⟩ = some (.int .i64 m) := fun w' h => (hT0.on h).cells.2.2
  have q1 : ∀ w', Ext w0r w' → w'.cell? ⟨w.heap.size, 1, none⟩ = some (.int .u64 n) := fun w' h => (hV0.on h).cells.2.1
  have q2 : ∀ w', Ext w0r w' → w'.cell? ⟨w.heap.size, 2, none⟩ = some (.string t) := fun w' h => (hV0.on h).cells.2.2
  refine reg_take 0 (v := ?vz25_0) at0 (by kernel_rfl) (by kernel_rfl) (by kernel_rfl) (by rfl) ?hyz25_0 hHeld ?restz25_0
  case hyz25_0 => (intro w' hSw; go_simp; try with_reducible rfl)
  try simp only [Act.put, List.setIfInBounds_toArray, List.set_cons_zero, List.set_cons_succ]
  refine reg_take 1 (v := ?vz26_1) (atS at0) (by kernel_rfl) (by kernel_rfl) (by kernel_rfl) (by rfl) ?hyz26_1 hHeld ?restz26_1
  case hyz26_1 => (intro w' hSw; go_simp; try with_reducible rfl)
  try simp only [Act.put, List.setIfInBounds_toArray, List.set_cons_zero, List.set_cons_succ]
  refine reg_take 2 (v := ?vz27_2) (atS (atS at0)) (by kernel_rfl) (by kernel_rfl) (by kernel_rfl) (by rfl) ?hyz27_2 hHeld ?restz27_2
  case hyz27_2 => (intro w' hSw; go_simp; try with_reducible rfl)
  try simp only [Act.put, List.setIfInBounds_toArray, List.set_cons_zero, List.set_cons_succ]
  refine reg_take 3 (v := ?vz28_3) (atS (atS (atS at0))) (by kernel_rfl) (by kernel_rfl) (by kernel_rfl) (by rfl) ?hyz28_3 hHeld ?restz28_3
  case hyz28_3 => (intro w' hSw; go_simp; try with_reducible rfl)
  try simp only [Act.put, List.setIfInBounds_toArray, List.set_cons_zero, List.set_cons_succ]
  refine reg_take 4 (v := ?vz29_4) (atS (atS (atS (atS at0)))) (by kernel_rfl) (by kernel_rfl) (by kernel_rfl) (by rfl) ?hyz29_4 hHeld ?restz29_4
  case hyz29_4 => (intro w' hSw; go_simp; try with_reducible rfl)
  try simp only [Act.put, List.setIfInBounds_toArray, List.set_cons_zero, List.set_cons_succ]
  refine reg_take 5 (v := ?vz30_5) (atS5 at0) (by kernel_rfl) (by kernel_rfl) (by kernel_rfl) (by rfl) ?hyz30_5 hHeld ?restz30_5
  case hyz30_5 => (intro w' hSw; go_simp; try with_reducible rfl)
  try simp only [Act.put, List.setIfInBounds_toArray, List.set_cons_zero, List.set_cons_succ]
  refine reg_take 6 (v := ?vz31_6) (atS5 (atS at0)) (by kernel_rfl) (by kernel_rfl) (by kernel_rfl) (by rfl) ?hyz31_6 hHeld ?restz31_6
  case hyz31_6 => (intro w' hSw; go_simp; try with_reducible rfl)
  try simp only [Act.put, List.setIfInBounds_toArray, List.set_cons_zero, List.set_cons_succ]
  refine reg_take 7 (v := ?vz32_7) (atS5 (atS (atS at0))) (by kernel_rfl) (by kernel_rfl) (by kernel_rfl) (by rfl) ?hyz32_7 hHeld ?restz32_7
  case hyz32_7 => (intro w' hSw; go_simp; try with_reducible rfl)
  try simp only [Act.put, List.setIfInBounds_toArray, List.set_cons_zero, List.set_cons_succ]
  refine wpAnyH_ready (rs := [8, 10]) (by kernel_rfl) (by simp) ?_
  refine AllReadyH.cons (atS5 (atS (atS (atS at0)))) (fun K hK => ?_) (AllReadyH.cons (atS5 (atS5 at0)) (fun K hK => ?_) AllReadyH.nil)
  · skip
    go_simp
    go_at_call 165
    refine (cut_any _ m _ hm64).mono ?_
    rintro e w3 ⟨rfl, hb3⟩
    go_wp2_with fail
    refine hK.out _ _ (by first | exact hb3 | exact Bt (B1 _ _) hb3) (fun hHeld => ?_)
    clear hK K
    try simp only [Act.put, List.setIfInBounds_toArray, List.set_cons_zero, List.set_cons_succ]
    try have hZ := (vb_new w0r 0 0 ⟨#[]⟩).on hb3
    have lp : w0r.heap.size ≤ w0r.heap.size := Nat.le_refl _
    try obtain ⟨z0, z1, z2⟩ := hZ.cells
    try have f0 := hZ.frozen 0
    try have f1 := hZ.frozen 1
    try have f2 := hZ.frozen 2
    try have hU := ((hZ.setKind k').setBits n).setText (cutT t m)
    refine reg_take 9 (v := ?vz33_9) (atS5 (atS (atS (atS (atS at0))))) (by kernel_rfl) (by kernel_rfl) (by kernel_rfl) (by rfl) ?hyz33_9 hHeld ?restz33_9
    case hyz33_9 => (intro w' hSw; go_simp; try with_reducible rfl)
    try simp only [Act.put, List.setIfInBounds_toArray, List.set_cons_zero, List.set_cons_succ]
    refine wpAnyH_ready (rs := [10]) (by kernel_rfl) (by simp) ?_
    refine AllReadyH.cons (atS5 (atS5 at0)) (fun K hK => ?_) AllReadyH.nil
    go_simp
    skip
    refine hK.out _ _ (by first | exact B1 _ _ | exact Ba hb3 _) (fun hHeld => ?_)
    clear hK K
    try simp only [Act.put, List.setIfInBounds_toArray, List.set_cons_zero, List.set_cons_succ]
    try have hU := vb_new w3 k' n (cutT t m)
    try have lp : w0r.heap.size ≤ w3.heap.size := hb3.size
    try have hR3 := hR0.on hb3
    try have hbw3 := Bt (Bt hbw hx0r) hb3
    try obtain ⟨s0, s1, s2⟩ := hR3.cells
    try have e0 := hR3.frozen 0
    try have e1 := hR3.frozen 1
    try have e2 := hR3.frozen 2
    try have ls := hR3.lt
    refine wpAnyH_ready (rs := [11]) (by kernel_rfl) (by simp) ?_
    refine AllReadyH.cons (atS5 (atS5 (atS at0))) (fun K hK => ?_) AllReadyH.nil
    go_simp
    skip
    refine hK.out _ _ (by first | exact Ba hb3 _ | exact (((hHeld.setCell (by simp) _).setCell (by simp) _).setCell (by simp) _)) (fun hHeld => ?_)
    clear hK K
    try simp only [Act.put]
    refine wpAnyH_done (by kernel_rfl) ?_ _
    refine NoPanic.normal ?_
    have hF1 := hF0.on hHeld
    have hT1 := hT0.on hHeld
    have hV1 := hV0.on hHeld
    have hR1 := hR0.on hHeld
    have hb4 := Bt (Bt hbw hx0r) hHeld
    have lu := hU.lt
    have n3 := Nat.lt_of_lt_of_le l3 lp
    have n0 := Nat.lt_of_le_of_lt (show w.heap.size ≤ w.heap.size + 1 + 1 + 1 by omega) n3
    have n1 := Nat.lt_of_le_of_lt (show w.heap.size + 1 ≤ w.heap.size + 1 + 1 + 1 by omega) n3
    have n2 := Nat.lt_of_le_of_lt (show w.heap.size + 1 + 1 ≤ w.heap.size + 1 + 1 + 1 by omega) n3
    try clear z0 z1 z2
    try clear f0 f1 f2
    try clear hZ
    clear p1 p2 q1 q2 hHeld hF0 hT0 hV0 hR0 hb3 hx0r hxA hF hT hV hR hbw
    obtain ⟨v0, v1, v2⟩ := hV1.cells
    obtain ⟨x0, x1, x2⟩ := hF1.cells
    obtain ⟨y0, y1, y2⟩ := hT1.cells
    obtain ⟨r0, r1, r2⟩ := hR1.cells
    obtain ⟨u0, u1, u2⟩ := hU.cells
    have g0 := hR1.frozen 0
    have g1 := hR1.frozen 1
    have g2 := hR1.frozen 2
    have f0 := hU.frozen 0
    have f1 := hU.frozen 1
    have f2 := hU.frozen 2
    go_wp2_with fail
    go_at_call 168
    refine (kwhole_any _ _ hn).mono ?_
    rintro e w5 ⟨rfl, hb5⟩
    rw [HW.out]
    have hwr := HN.out
    have hV2 := hV1.on hb5
    have hR2 := hR1.on hb5
    have hU2 := hU.on hb5
    have hb6 := Bt hb4 hb5
    have lr2 := hR2.lt
    have lu2 := hU2.lt
    clear v0 v1 v2 x0 x1 x2 y0 y1 y2 r0 r1 r2 u0 u1 u2 g0 g1 g2 f0 f1 f2
    obtain ⟨r0, r1, r2⟩ := hR2.cells
    obtain ⟨u0, u1, u2⟩ := hU2.cells
    have g0 := hR2.frozen 0
    have g1 := hR2.frozen 1
    have g2 := hR2.frozen 2
    have f0 := hU2.frozen 0
    have f1 := hU2.frozen 1
    have f2 := hU2.frozen 2
    go_wp2_with fail
    refine ret_VBe (by rfl) (by rfl) ((((hR2.other (by omega) 1 _).setKind k').setBits N).setText (cutT t m)) (by rfl) (by rfl) ⟨rfl, ?_⟩
    exact (((hb6.setCell (by simp; try omega) _).setCell (by simp; try omega) _).setCell (by simp; try omega) _).setCell (by simp; try omega) _
  · skip
    go_simp
    skip
    refine hK.out _ _ (by first | exact B1 _ _ | exact Ba hb3 _) (fun hHeld => ?_)
    clear hK K
    try simp only [Act.put, List.setIfInBounds_toArray, List.set_cons_zero, List.set_cons_succ]
    try have hU := vb_new w3 k' n (cutT t m)
    try have lp : w0r.heap.size ≤ w3.heap.size := hb3.size
    try have hR3 := hR0.on hb3
    try have hbw3 := Bt (Bt hbw hx0r) hb3
    try obtain ⟨s0, s1, s2⟩ := hR3.cells
    try have e0 := hR3.frozen 0
    try have e1 := hR3.frozen 1
    try have e2 := hR3.frozen 2
    try have ls := hR3.lt
    refine wpAnyH_ready (rs := [8]) (by kernel_rfl) (by simp) ?_
    refine AllReadyH.cons (atS5 (atS (atS (atS at0)))) (fun K hK => ?_) AllReadyH.nil
    go_simp
    go_at_call 165
    refine (cut_any _ m _ hm64).mono ?_
    rintro e w3 ⟨rfl, hb3⟩
    go_wp2_with fail
    refine hK.out _ _ (by first | exact hb3 | exact Bt (B1 _ _) hb3) (fun hHeld => ?_)
    clear hK K
    try simp only [Act.put, List.setIfInBounds_toArray, List.set_cons_zero, List.set_cons_succ]
    try have hZ := (vb_new w0r 0 0 ⟨#[]⟩).on hb3
    have lp : w0r.heap.size ≤ w0r.heap.size := Nat.le_refl _
    try obtain ⟨z0, z1, z2⟩ := hZ.cells
    try have f0 := hZ.frozen 0
    try have f1 := hZ.frozen 1
    try have f2 := hZ.frozen 2
    try have hU := ((hZ.setKind k').setBits n).setText (cutT t m)
    refine reg_take 9 (v := ?vz35_9) (atS5 (atS (atS (atS (atS at0))))) (by kernel_rfl) (by kernel_rfl) (by kernel_rfl) (by rfl) ?hyz35_9 hHeld ?restz35_9
    case hyz35_9 => (intro w' hSw; go_simp; try with_reducible rfl)
    try simp only [Act.put, List.setIfInBounds_toArray, List.set_cons_zero, List.set_cons_succ]
    refine wpAnyH_ready (rs := [11]) (by kernel_rfl) (by simp) ?_
    refine AllReadyH.cons (atS5 (atS5 (atS at0))) (fun K hK => ?_) AllReadyH.nil
    go_simp
    skip
    refine hK.out _ _ (by first | exact Ba hb3 _ | exact (((hHeld.setCell (by simp) _).setCell (by simp) _).setCell (by simp) _)) (fun hHeld => ?_)
    clear hK K
    try simp only [Act.put]
    refine wpAnyH_done (by kernel_rfl) ?_ _
    refine NoPanic.normal ?_
    have hF1 := hF0.on hHeld
    have hT1 := hT0.on hHeld
    have hV1 := hV0.on hHeld
    have hR1 := hR0.on hHeld
    have hb4 := Bt (Bt hbw hx0r) hHeld
    have lu := hU.lt
    have n3 := Nat.lt_of_lt_of_le l3 lp
    have n0 := Nat.lt_of_le_of_lt (show w.heap.size ≤ w.heap.size + 1 + 1 + 1 by omega) n3
    have n1 := Nat.lt_of_le_of_lt (show w.heap.size + 1 ≤ w.heap.size + 1 + 1 + 1 by omega) n3
    have n2 := Nat.lt_of_le_of_lt (show w.heap.size + 1 + 1 ≤ w.heap.size + 1 + 1 + 1 by omega) n3
    try clear z0 z1 z2
    try clear f0 f1 f2
    try clear hZ
    clear p1 p2 q1 q2 hHeld hF0 hT0 hV0 hR0 hb3 hx0r hxA hF hT hV hR hbw
    obtain ⟨v0, v1, v2⟩ := hV1.cells
    obtain ⟨x0, x1, x2⟩ := hF1.cells
    obtain ⟨y0, y1, y2⟩ := hT1.cells
    obtain ⟨r0, r1, r2⟩ := hR1.cells
    obtain ⟨u0, u1, u2⟩ := hU.cells
    have g0 := hR1.frozen 0
    have g1 := hR1.frozen 1
    have g2 := hR1.frozen 2
    have f0 := hU.frozen 0
    have f1 := hU.frozen 1
    have f2 := hU.frozen 2
    go_wp2_with fail
    go_at_call 168
    refine (kwhole_any _ _ hn).mono ?_
    rintro e w5 ⟨rfl, hb5⟩
    rw [HW.out]
    have hwr := HN.out
    have hV2 := hV1.on hb5
    have hR2 := hR1.on hb5
    have hU2 := hU.on hb5
    have hb6 := Bt hb4 hb5
    have lr2 := hR2.lt
    have lu2 := hU2.lt
    clear v0 v1 v2 x0 x1 x2 y0 y1 y2 r0 r1 r2 u0 u1 u2 g0 g1 g2 f0 f1 f2
    obtain ⟨r0, r1, r2⟩ := hR2.cells
    obtain ⟨u0, u1, u2⟩ := hU2.cells
    have g0 := hR2.frozen 0
    have g1 := hR2.frozen 1
    have g2 := hR2.frozen 2
    have f0 := hU2.frozen 0
    have f1 := hU2.frozen 1
    have f2 := hU2.frozen 2
    go_wp2_with fail
    refine ret_VBe (by rfl) (by rfl) ((((hR2.other (by omega) 1 _).setKind k').setBits N).setText (cutT t m)) (by rfl) (by rfl) ⟨rfl, ?_⟩
    exact (((hb6.setCell (by simp; try omega) _).setCell (by simp; try omega) _).setCell (by simp; try omega) _).setCell (by simp; try omega) _
set_option maxHeartbeats 2000000 in
theorem kcast_T4 (vk n : Int) (t nm nm' : ByteArray) (k g k' : Int) (m : Nat) (w : World) (hn : U64 n) (hm64 : m ≤ 64) (HR : Hid (rightF vk n t.size k g = true)) (HC : Hid (castsF k g k' m = true)) (hk : k ≠ k') (h10 : k' ≠ 10) (hk10 : k ≠ 10) :
    Calls Tryz.prog 131 #[.agg #[.int .i64 vk, .int .u64 n, .string t], .agg #[.string nm, .int .i64 k, .int .i64 g], .agg #[.string nm', .int .i64 k', .int .i64 m]] w fun e w' => e = .returned (.tuple #[.agg #[.int .i64 k', .int .u64 n, .string (cutT t m)], .int .i64 0]) ∧ Below w.heap.size w w' := by
  have b1 : (k == k') = false := by simpa using hk
  have b2 : (k' == 10) = false := by simpa using h10
  have b3 : (k == 10) = false := by simpa using hk10
  clear hk h10 hk10
  go_enter Tryz.func131, Tryz.ntmps131
  go_wp2_with fail
  go_at_call 122
  refine (kright_any _ _ _ _ _ _ _ hn).mono ?_
  rintro e w1 ⟨rfl, hb1⟩
  rw [HR.out]
  have hV := ((((vb_new w vk n t).alloc (.cells #[.string nm, .int .i64 k, .int .i64 g] 68)).alloc (.cells #[.string nm', .int .i64 k', .int .i64 m] 68)).alloc (.cells #[.int .i64 0, .int .u64 0, .string ⟨#[]⟩] 71)).on hb1
  have hF := (((fb_new2 w (.cells #[.int .i64 vk, .int .u64 n, .string t] 71) nm k g).alloc (.cells #[.string nm', .int .i64 k', .int .i64 m] 68)).alloc (.cells #[.int .i64 0, .int .u64 0, .string ⟨#[]⟩] 71)).on hb1
  have hT := ((fb_new3 w (.cells #[.int .i64 vk, .int .u64 n, .string t] 71) (.cells #[.string nm, .int .i64 k, .int .i64 g] 68) nm' k' m).alloc (.cells #[.int .i64 0, .int .u64 0, .string ⟨#[]⟩] 71)).on hb1
  have hR := (vb_new4 w (.cells #[.int .i64 vk, .int .u64 n, .string t] 71) (.cells #[.string nm, .int .i64 k, .int .i64 g] 68) (.cells #[.string nm', .int .i64 k', .int .i64 m] 68) 0 0 ⟨#[]⟩).on hb1
  have hbw : Below w.heap.size w w1 := Bt (Ba (Ba (Ba (B1 _ _) _) _) _) hb1
  clear hb1
  obtain ⟨x0, x1, x2⟩ := hF.cells
  obtain ⟨y0, y1, y2⟩ := hT.cells
  go_wp2_with fail
  go_at_call 164
  refine (kcasts_any _ _ _ _ _ _ _).mono ?_
  rintro e w2 ⟨rfl, hb2⟩
  rw [HC.out]
  clear x0 x1 x2 y0 y1 y2
  have hV := hV.on hb2
  have hF := hF.on hb2
  have hT := hT.on hb2
  have hR := hR.on hb2
  have hbw := Bt hbw hb2
  clear hb2
  go_wp2_with fail
  refine reg_begin (by kernel_rfl) (fun w0r hx0r hHeld => ?_)
  have hF0 := hF.on hx0r
  have hT0 := hT.on hx0r
  have hV0 := hV.on hx0r
  have hR0 := hR.on hx0r
  have hxA := hx0r
  have l3 : w.heap.size + 1 + 1 + 1 < w0r.heap.size := hR0.lt
  have p1 : ∀ w', Ext w0r w' → w'.cell? ⟨w.heap.size + 1 + 1, 1, none⟩ = some (.int .i64 k') := fun w' h => (hT0.on h).cells.2.1
  have p2 : ∀ w', Ext w0r w' → w'.cell? ⟨w.heap.size + 1 + 1, 2, none⟩ = some (.int .i64 m) := fun w' h => (hT0.on h).cells.2.2
  have q1 : ∀ w', Ext w0r w' → w'.cell? ⟨w.heap.size, 1, none⟩ = some (.int .u64 n) := fun w' h => (hV0.on h).cells.2.1
  have q2 : ∀ w', Ext w0r w' → w'.cell? ⟨w.heap.size, 2, none⟩ = some (.string t) := fun w' h => (hV0.on h).cells.2.2
  refine reg_take 0 (v := ?vz37_0) at0 (by kernel_rfl) (by kernel_rfl) (by kernel_rfl) (by rfl) ?hyz37_0 hHeld ?restz37_0
  case hyz37_0 => (intro w' hSw; go_simp; try with_reducible rfl)
  try simp only [Act.put, List.setIfInBounds_toArray, List.set_cons_zero, List.set_cons_succ]
  refine reg_take 1 (v := ?vz38_1) (atS at0) (by kernel_rfl) (by kernel_rfl) (by kernel_rfl) (by rfl) ?hyz38_1 hHeld ?restz38_1
  case hyz38_1 => (intro w' hSw; go_simp; try with_reducible rfl)
  try simp only [Act.put, List.setIfInBounds_toArray, List.set_cons_zero, List.set_cons_succ]
  refine reg_take 2 (v := ?vz39_2) (atS (atS at0)) (by kernel_rfl) (by kernel_rfl) (by kernel_rfl) (by rfl) ?hyz39_2 hHeld ?restz39_2
  case hyz39_2 => (intro w' hSw; go_simp; try with_reducible rfl)
  try simp only [Act.put, List.setIfInBounds_toArray, List.set_cons_zero, List.set_cons_succ]
  refine reg_take 3 (v := ?vz40_3) (atS (atS (atS at0))) (by kernel_rfl) (by kernel_rfl) (by kernel_rfl) (by rfl) ?hyz40_3 hHeld ?restz40_3
  case hyz40_3 => (intro w' hSw; go_simp; try with_reducible rfl)
  try simp only [Act.put, List.setIfInBounds_toArray, List.set_cons_zero, List.set_cons_succ]
  refine reg_take 4 (v := ?vz41_4) (atS (atS (atS (atS at0)))) (by kernel_rfl) (by kernel_rfl) (by kernel_rfl) (by rfl) ?hyz41_4 hHeld ?restz41_4
  case hyz41_4 => (intro w' hSw; go_simp; try with_reducible rfl)
  try simp only [Act.put, List.setIfInBounds_toArray, List.set_cons_zero, List.set_cons_succ]
  refine reg_take 5 (v := ?vz42_5) (atS5 at0) (by kernel_rfl) (by kernel_rfl) (by kernel_rfl) (by rfl) ?hyz42_5 hHeld ?restz42_5
  case hyz42_5 => (intro w' hSw; go_simp; try with_reducible rfl)
  try simp only [Act.put, List.setIfInBounds_toArray, List.set_cons_zero, List.set_cons_succ]
  refine reg_take 6 (v := ?vz43_6) (atS5 (atS at0)) (by kernel_rfl) (by kernel_rfl) (by kernel_rfl) (by rfl) ?hyz43_6 hHeld ?restz43_6
  case hyz43_6 => (intro w' hSw; go_simp; try with_reducible rfl)
  try simp only [Act.put, List.setIfInBounds_toArray, List.set_cons_zero, List.set_cons_succ]
  refine reg_take 7 (v := ?vz44_7) (atS5 (atS (atS at0))) (by kernel_rfl) (by kernel_rfl) (by kernel_rfl) (by rfl) ?hyz44_7 hHeld ?restz44_7
  case hyz44_7 => (intro w' hSw; go_simp; try with_reducible rfl)
  try simp only [Act.put, List.setIfInBounds_toArray, List.set_cons_zero, List.set_cons_succ]
  refine wpAnyH_ready (rs := [8, 10]) (by kernel_rfl) (by simp) ?_
  refine AllReadyH.cons (atS5 (atS (atS (atS at0)))) (fun K hK => ?_) (AllReadyH.cons (atS5 (atS5 at0)) (fun K hK => ?_) AllReadyH.nil)
  · skip
    go_simp
    go_at_call 165
    refine (cut_any _ m _ hm64).mono ?_
    rintro e w3 ⟨rfl, hb3⟩
    go_wp2_with fail
    refine hK.out _ _ (by first | exact hb3 | exact Bt (B1 _ _) hb3) (fun hHeld => ?_)
    clear hK K
    try simp only [Act.put, List.setIfInBounds_toArray, List.set_cons_zero, List.set_cons_succ]
    try have hZ := (vb_new w0r 0 0 ⟨#[]⟩).on hb3
    have lp : w0r.heap.size ≤ w0r.heap.size := Nat.le_refl _
    try obtain ⟨z0, z1, z2⟩ := hZ.cells
    try have f0 := hZ.frozen 0
    try have f1 := hZ.frozen 1
    try have f2 := hZ.frozen 2
    try have hU := ((hZ.setKind k').setBits n).setText (cutT t m)
    refine reg_take 9 (v := ?vz45_9) (atS5 (atS (atS (atS (atS at0))))) (by kernel_rfl) (by kernel_rfl) (by kernel_rfl) (by rfl) ?hyz45_9 hHeld ?restz45_9
    case hyz45_9 => (intro w' hSw; go_simp; try with_reducible rfl)
    try simp only [Act.put, List.setIfInBounds_toArray, List.set_cons_zero, List.set_cons_succ]
    refine wpAnyH_ready (rs := [10]) (by kernel_rfl) (by simp) ?_
    refine AllReadyH.cons (atS5 (atS5 at0)) (fun K hK => ?_) AllReadyH.nil
    go_simp
    skip
    refine hK.out _ _ (by first | exact B1 _ _ | exact Ba hb3 _) (fun hHeld => ?_)
    clear hK K
    try simp only [Act.put, List.setIfInBounds_toArray, List.set_cons_zero, List.set_cons_succ]
    try have hU := vb_new w3 k' n (cutT t m)
    try have lp : w0r.heap.size ≤ w3.heap.size := hb3.size
    try have hR3 := hR0.on hb3
    try have hbw3 := Bt (Bt hbw hx0r) hb3
    try obtain ⟨s0, s1, s2⟩ := hR3.cells
    try have e0 := hR3.frozen 0
    try have e1 := hR3.frozen 1
    try have e2 := hR3.frozen 2
    try have ls := hR3.lt
    refine wpAnyH_ready (rs := [11]) (by kernel_rfl) (by simp) ?_
    refine AllReadyH.cons (atS5 (atS5 (atS at0))) (fun K hK => ?_) AllReadyH.nil
    go_simp
    skip
    refine hK.out _ _ (by first | exact Ba hb3 _ | exact (((hHeld.setCell (by simp) _).setCell (by simp) _).setCell (by simp) _)) (fun hHeld => ?_)
    clear hK K
    try simp only [Act.put]
    refine wpAnyH_done (by kernel_rfl) ?_ _
    refine NoPanic.normal ?_
    have hF1 := hF0.on hHeld
    have hT1 := hT0.on hHeld
    have hV1 := hV0.on hHeld
    have hR1 := hR0.on hHeld
    have hb4 := Bt (Bt hbw hx0r) hHeld
    have lu := hU.lt
    have n3 := Nat.lt_of_lt_of_le l3 lp
    have n0 := Nat.lt_of_le_of_lt (show w.heap.size ≤ w.heap.size + 1 + 1 + 1 by omega) n3
    have n1 := Nat.lt_of_le_of_lt (show w.heap.size + 1 ≤ w.heap.size + 1 + 1 + 1 by omega) n3
    have n2 := Nat.lt_of_le_of_lt (show w.heap.size + 1 + 1 ≤ w.heap.size + 1 + 1 + 1 by omega) n3
    try clear z0 z1 z2
    try clear f0 f1 f2
    try clear hZ
    clear p1 p2 q1 q2 hHeld hF0 hT0 hV0 hR0 hb3 hx0r hxA hF hT hV hR hbw
    obtain ⟨v0, v1, v2⟩ := hV1.cells
    obtain ⟨x0, x1, x2⟩ := hF1.cells
    obtain ⟨y0, y1, y2⟩ := hT1.cells
    obtain ⟨r0, r1, r2⟩ := hR1.cells
    obtain ⟨u0, u1, u2⟩ := hU.cells
    have g0 := hR1.frozen 0
    have g1 := hR1.frozen 1
    have g2 := hR1.frozen 2
    have f0 := hU.frozen 0
    have f1 := hU.frozen 1
    have f2 := hU.frozen 2
    go_wp2_with fail
    first
      | (refine ret_VBe (by rfl) (by rfl) (((hR1.setKind k').setBits n).setText (cutT t m)) (by rfl) (by rfl) ⟨rfl, ?_⟩
         exact ((hb4.setCell (by simp; try omega) _).setCell (by simp; try omega) _).setCell (by simp; try omega) _)
      | (refine ret_VBe (by rfl) (by rfl) ((((hR3.setKind k').setBits n).setText (cutT t m)).alloc _) (by rfl) (by rfl) ⟨rfl, ?_⟩
         exact (((hbw3.setCell (by simp; try omega) _).setCell (by simp; try omega) _).setCell (by simp; try omega) _).alloc (by simp; omega) _)
  · skip
    go_simp
    skip
    refine hK.out _ _ (by first | exact B1 _ _ | exact Ba hb3 _) (fun hHeld => ?_)
    clear hK K
    try simp only [Act.put, List.setIfInBounds_toArray, List.set_cons_zero, List.set_cons_succ]
    try have hU := vb_new w3 k' n (cutT t m)
    try have lp : w0r.heap.size ≤ w3.heap.size := hb3.size
    try have hR3 := hR0.on hb3
    try have hbw3 := Bt (Bt hbw hx0r) hb3
    try obtain ⟨s0, s1, s2⟩ := hR3.cells
    try have e0 := hR3.frozen 0
    try have e1 := hR3.frozen 1
    try have e2 := hR3.frozen 2
    try have ls := hR3.lt
    refine wpAnyH_ready (rs := [8]) (by kernel_rfl) (by simp) ?_
    refine AllReadyH.cons (atS5 (atS (atS (atS at0)))) (fun K hK => ?_) AllReadyH.nil
    go_simp
    go_at_call 165
    refine (cut_any _ m _ hm64).mono ?_
    rintro e w3 ⟨rfl, hb3⟩
    go_wp2_with fail
    refine hK.out _ _ (by first | exact hb3 | exact Bt (B1 _ _) hb3) (fun hHeld => ?_)
    clear hK K
    try simp only [Act.put, List.setIfInBounds_toArray, List.set_cons_zero, List.set_cons_succ]
    try have hZ := (vb_new w0r 0 0 ⟨#[]⟩).on hb3
    have lp : w0r.heap.size ≤ w0r.heap.size := Nat.le_refl _
    try obtain ⟨z0, z1, z2⟩ := hZ.cells
    try have f0 := hZ.frozen 0
    try have f1 := hZ.frozen 1
    try have f2 := hZ.frozen 2
    try have hU := ((hZ.setKind k').setBits n).setText (cutT t m)
    refine reg_take 9 (v := ?vz47_9) (atS5 (atS (atS (atS (atS at0))))) (by kernel_rfl) (by kernel_rfl) (by kernel_rfl) (by rfl) ?hyz47_9 hHeld ?restz47_9
    case hyz47_9 => (intro w' hSw; go_simp; try with_reducible rfl)
    try simp only [Act.put, List.setIfInBounds_toArray, List.set_cons_zero, List.set_cons_succ]
    refine wpAnyH_ready (rs := [11]) (by kernel_rfl) (by simp) ?_
    refine AllReadyH.cons (atS5 (atS5 (atS at0))) (fun K hK => ?_) AllReadyH.nil
    go_simp
    skip
    refine hK.out _ _ (by first | exact Ba hb3 _ | exact (((hHeld.setCell (by simp) _).setCell (by simp) _).setCell (by simp) _)) (fun hHeld => ?_)
    clear hK K
    try simp only [Act.put]
    refine wpAnyH_done (by kernel_rfl) ?_ _
    refine NoPanic.normal ?_
    have hF1 := hF0.on hHeld
    have hT1 := hT0.on hHeld
    have hV1 := hV0.on hHeld
    have hR1 := hR0.on hHeld
    have hb4 := Bt (Bt hbw hx0r) hHeld
    have lu := hU.lt
    have n3 := Nat.lt_of_lt_of_le l3 lp
    have n0 := Nat.lt_of_le_of_lt (show w.heap.size ≤ w.heap.size + 1 + 1 + 1 by omega) n3
    have n1 := Nat.lt_of_le_of_lt (show w.heap.size + 1 ≤ w.heap.size + 1 + 1 + 1 by omega) n3
    have n2 := Nat.lt_of_le_of_lt (show w.heap.size + 1 + 1 ≤ w.heap.size + 1 + 1 + 1 by omega) n3
    try clear z0 z1 z2
    try clear f0 f1 f2
    try clear hZ
    clear p1 p2 q1 q2 hHeld hF0 hT0 hV0 hR0 hb3 hx0r hxA hF hT hV hR hbw
    obtain ⟨v0, v1, v2⟩ := hV1.cells
    obtain ⟨x0, x1, x2⟩ := hF1.cells
    obtain ⟨y0, y1, y2⟩ := hT1.cells
    obtain ⟨r0, r1, r2⟩ := hR1.cells
    obtain ⟨u0, u1, u2⟩ := hU.cells
    have g0 := hR1.frozen 0
    have g1 := hR1.frozen 1
    have g2 := hR1.frozen 2
    have f0 := hU.frozen 0
    have f1 := hU.frozen 1
    have f2 := hU.frozen 2
    go_wp2_with fail
    first
      | (refine ret_VBe (by rfl) (by rfl) (((hR1.setKind k').setBits n).setText (cutT t m)) (by rfl) (by rfl) ⟨rfl, ?_⟩
         exact ((hb4.setCell (by simp; try omega) _).setCell (by simp; try omega) _).setCell (by simp; try omega) _)
      | (refine ret_VBe (by rfl) (by rfl) ((((hR3.setKind k').setBits n).setText (cutT t m)).alloc _) (by rfl) (by rfl) ⟨rfl, ?_⟩
         exact (((hbw3.setCell (by simp; try omega) _).setCell (by simp; try omega) _).setCell (by simp; try omega) _).alloc (by simp; omega) _)
theorem castT_cut {t : ByteArray} {k' g' : Int} (hm : mayF k' g' = true) : castT t k' g' = cutT t g'.toNat := by
  unfold castT
  by_cases h12 : k' = 12
  · rw [if_pos h12]
    obtain ⟨⟨l⟩⟩ := t
    show (ByteArray.mk l.toArray ++ zs g'.toNat).extract 0 g'.toNat = _
    unfold zs
    rw [ByteArray.mk_append_mk]
    try rw [List.append_toArray]
    rw [ext_at]
    simp [cutT, cutL]
  · rw [if_neg h12, (may_cases hm h12).1]
    exact (cutT_zero t).symm
theorem castN_fl {n k : Int} (hn : U64 n) (h : amB 1 8 k = true) : castN n k 10 = (flB n k : Nat) := by
  have hn1 := hn.1
  have hn2 := hn.2
  rw [pw8] at hn2
  have hk : 1 ≤ k ∧ k ≤ 8 := by simp [amB] at h; omega
  unfold castN flB
  rw [if_pos rfl]
  by_cases h4 : k ≤ 4
  · have : amB 5 8 k = false := by simp [amB]; omega
    rw [if_pos h4, this, if_neg (by decide)]
  · have : amB 5 8 k = true := by simp [amB]; omega
    rw [if_neg h4, if_pos hk.2, this, if_pos rfl]
    by_cases h63 : 9223372036854775808 ≤ n
    · have e : wrap64 n = n - 18446744073709551616 := by unfold wrap64; omega
      rw [if_pos h63, e, show (n - 18446744073709551616).natAbs = (18446744073709551616 - n).toNat by omega, decide_eq_true (by omega)]
    · have e : wrap64 n = n := by unfold wrap64; omega
      rw [if_neg h63, e, show n.natAbs = n.toNat by omega, decide_eq_false (by omega)]
theorem right_kind {vk n : Int} {m : Nat} {k g : Int} (h : rightF vk n m k g = true) : vk = k ∧ mayF k g = true := by
  unfold rightF at h; simp at h; exact ⟨h.1.2, h.1.1⟩
theorem kcast_any (vk n : Int) (t nm nm' : ByteArray) (k g k' g' : Int) (w : World) (hn : U64 n) :
    Calls Tryz.prog 131 #[.agg #[.int .i64 vk, .int .u64 n, .string t], .agg #[.string nm, .int .i64 k, .int .i64 g], .agg #[.string nm', .int .i64 k', .int .i64 g']] w fun e w' => e = .returned (castR vk n t k g k' g') ∧ Below w.heap.size w w' := by
  by_cases hr : rightF vk n t.size k g = true
  · by_cases hc : castsF k g k' g' = true
    · obtain ⟨hvk, hmay⟩ := right_kind hr
      have hm' : mayF k' g' = true := by unfold castsF at hc; simp at hc; exact hc.1.2
      have hP := hc
      rw [castsP_eq hmay hm'] at hP
      rw [castR_ok hr hc, castT_cut hm']
      have hg : 0 ≤ g' ∧ g' ≤ 64 := by
        by_cases h : k' = 12
        · subst h; have := may12 hm'; omega
        · have := (may_cases hm' h).1; omega
      obtain ⟨m, rfl⟩ := Int.eq_ofNat_of_zero_le hg.1
      rw [Int.toNat_natCast]
      have hm64 : m ≤ 64 := by omega
      by_cases hk : k = k'
      · have e : castN n k k' = n := by
          unfold castN
          by_cases h10 : k' = 10
          · rw [if_pos h10, if_neg (by omega), if_neg (by omega)]
          · rw [if_neg h10, if_neg (by omega)]
        rw [e]
        exact kcast_T1 vk n t nm nm' k g k' m w hn hm64 hr hc hk
      by_cases h10 : k' = 10
      · unfold castsP at hP
        rw [if_neg hk, if_pos h10] at hP
        subst h10
        rw [castN_fl hn hP, ← hvk]
        rw [← hvk] at hr hc hk
        exact kcast_T2 vk n t nm nm' vk g 10 m w hn hm64 hr hc hk rfl _ rfl
      by_cases hk10 : k = 10
      · unfold castsP at hP
        rw [if_neg hk, if_neg h10, if_pos hk10] at hP
        have h8 : k' = 8 := by simpa using hP
        have e : castN n k k' = IntKind.u64.wrap (wholeN n.toNat) := by
          unfold castN; rw [if_neg h10, if_pos ⟨h8, hk10⟩]
        rw [e]
        exact kcast_T3 vk n t nm nm' k g k' m w hn hm64 hr hc hk h10 hk10 _ rfl _ rfl
      · have e : castN n k k' = n := by
          unfold castN; rw [if_neg h10, if_neg (fun h => hk10 h.2)]
        rw [e]
        exact kcast_T4 vk n t nm nm' k g k' m w hn hm64 hr hc hk h10 hk10
    · exact kcast_51 vk n t nm nm' k g k' g' w hn hr (by simpa using hc)
  · exact kcast_50 vk n t nm nm' k g k' g' w hn (by simpa using hr)
end Go.Proofs.YtaegencmnmjgbaaGreat
