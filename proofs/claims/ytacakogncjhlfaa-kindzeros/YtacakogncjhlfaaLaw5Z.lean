/-
  KindZeros: the walk.
-/
import Derived.Test.YtacakogncjhlfaaKindL
namespace Go.Proofs.Ytacakogncjhlfaa
open Go.RowKit
set_option linter.unusedVariables false
set_option linter.unusedSimpArgs false

theorem rd_zrow (W : World) {m : Nat} (h : m ≤ 65536) : Rd (W.alloc (.cells (zrow m).toArray 5)) (W.alloc (.cells (zrow m).toArray 5)).heap.size (some ⟨W.heap.size, 0, none⟩) m m (List.replicate m (0 : UInt8)) := by
  refine ⟨by simp, Nat.le_refl _, by unfold maxLen; omega, (fun h => by cases h), fun _ => ⟨_, 0, rfl, by rw [World.size_alloc]; omega, fun i hi => ?_⟩⟩
  rw [row_cell (heap_alloc_new W _)]
  simp at hi
  simp [zrow, hi]
theorem long_none {k g : Int} (h : mayF k g = false) : longF k g = 0 := by simp [longF, h]
theorem long_pos {k g : Int} (h : mayF k g = true) : 0 < longF k g := by
  by_cases h12 : k = 12
  · subst h12; have := may12 h; simp [longF, h]; omega
  · have hk := (may_cases h h12).2
    rw [show longF k g = sizeOfKind k by simp [longF, h, h12]]
    rcases hk with rfl | rfl | rfl | rfl | rfl | rfl | rfl | rfl | rfl | rfl | rfl <;> decide
theorem zero_right {k g : Int} (h : mayF k g = true) : rightF k 0 (zs g.toNat).size k g = true := by
  rw [zs_size]
  by_cases h12 : k = 12
  · subst h12; have := may12 h; rw [rightF_12 h]; simp; omega
  · obtain ⟨rfl, hk⟩ := may_cases h h12
    rcases hk with rfl | rfl | rfl | rfl | rfl | rfl | rfl | rfl | rfl | rfl | rfl <;> decide
theorem zero_enc {k g : Int} (h : mayF k g = true) : (encT k 0 (zs g.toNat) k g).toList = List.replicate (longF k g).toNat (0 : UInt8) := by
  rw [ByteArray.toList_eq, show encT k 0 (zs g.toNat) k g = encL 0 (zs g.toNat) k g by simp [encT, zero_right h]]
  by_cases h12 : k = 12
  · subst h12
    rw [show longF 12 g = g by simp [longF, h], show encL 0 (zs g.toNat) 12 g = zs g.toNat by simp [encL]]
    simp [zs]
  · obtain ⟨rfl, hk⟩ := may_cases h h12
    rw [show encL 0 (zs (0 : Int).toNat) k 0 = ⟨((le 0 8).take (longF k 0).toNat).toArray⟩ by simp [encL, h12]]
    rcases hk with rfl | rfl | rfl | rfl | rfl | rfl | rfl | rfl | rfl | rfl | rfl <;> decide

set_option maxHeartbeats 1000000 in
theorem walk_KindZeros (nm : ByteArray) (k g : Int) (w : World) (hnm : nm.size ≤ maxLen) (hkw : (Lit.int .i64 k).wf = true) (hgw : (Lit.int .i64 g).wf = true) :
    Calls Try.prog 8 #[.agg #[.string nm, .int .i64 k, .int .i64 g]] w fun e w' => e = .returned (.bool true) ∧ Below w.heap.size w w' := by
  clear hnm hkw hgw
  have h0 : U64 0 := ⟨by decide, by rw [pw8]; decide⟩
  by_cases hm : mayF k g = true
  · have hK : zeroK k g = k := by simp [zeroK, hm]
    have hT : zeroT k g = zs g.toNat := by simp [zeroT, hm]
    have hlp := long_pos hm
    have hl64 := longF_le k g
    obtain ⟨m, hmm⟩ := Int.eq_ofNat_of_zero_le (Int.le_of_lt hlp)
    have hen := zero_enc hm
    have hri := zero_right hm
    have hee : encE k 0 (zs g.toNat) k g = 0 := by simp [encE, hri]
    rw [hmm, Int.toNat_natCast] at hen
    rw [hmm] at hlp hl64
    obtain ⟨Z, hZ⟩ : ∃ Z, Z = zs g.toNat := ⟨_, rfl⟩
    rw [← hZ] at hT hen hri hee
    have HE := hid hen; have HR := hid hri; have HEE := hid hee; have HK := hid hK; have HT := hid hT; have HMM := hid hmm
    have bm : ((m : Int) == 0) = false := by simp; omega
    clear hZ hen hri hee hK hT hm hmm
    go_enter Try.func8, Try.ntmps8
    go_wp2_with fail
    go_at_call 20
    refine (kzero_any _ _ _ _).mono ?_
    rintro e w1 ⟨rfl, hb1⟩
    rw [HK.out, HT.out]
    have hf1 := (fb_new w nm k g).on hb1
    have hbw := Bt (B1 _ _) hb1
    have hf2 := hf1.alloc (.cells #[.int .i64 k, .int .u64 0, .string Z] 24)
    have hv2 := vb_new w1 k 0 Z
    have hbw2 := Ba hbw (.cells #[.int .i64 k, .int .u64 0, .string Z] 24)
    obtain ⟨c0, c1, c2⟩ := hf1.cells
    have l1 := hf1.lt
    go_wp2_with fail
    go_at_call 18
    refine (klong_any _ _ _ _).mono ?_
    rintro e w2 ⟨rfl, hb2⟩
    rw [HMM.out]
    clear c0 c1 c2
    have hf3 := hf2.on hb2
    have hv3 := hv2.on hb2
    have hbw3 := Bt hbw2 hb2
    obtain ⟨c0, c1, c2⟩ := hf3.cells
    obtain ⟨d0, d1, d2⟩ := hv3.cells
    go_wp2_with fail
    go_at_call 12
    refine (kencode_any _ _ _ _ _ _ _ h0).mono ?_
    rintro e w3 ⟨A, len, cap, rfl, hrd, hb3⟩
    rw [HE.out] at hrd
    rw [HEE.out]
    clear c0 c1 c2 d0 d1 d2
    have hf4 := hf3.on hb3
    have hv4 := hv3.on hb3
    have hbw4 := Bt hbw3 hb3
    go_wp2_with fail
    refine reg_begin (by kernel_rfl) (fun w0r hx0r hHeld => ?_)
    have hf5 := hf4.on hx0r
    have hv5 := hv4.on hx0r
    have hrd5 := hrd.on hx0r
    have hmk := run_make8 m m rfl (by omega)
    have hcz : ∀ (W w' : World), Ext (W.alloc (.cells (zrow m).toArray 5)) w' → (convert 27 9 (.slice (some ⟨W.heap.size, 0, none⟩) m m)).run Try.prog w' = .ok (.string ⟨(List.replicate m (0 : UInt8)).toArray⟩) w' := fun W w' hb => ((rd_zrow W (by omega)).on hb).conv
    have hcv : ∀ w', Ext w0r w' → (convert 27 9 (.slice A len cap)).run Try.prog w' = .ok (.string ⟨(List.replicate m (0 : UInt8)).toArray⟩) w' := fun w' hb => (hrd5.on hb).conv
    have q0 : ∀ w', Ext w0r w' → w'.cell? ⟨w.heap.size, 0, none⟩ = some (.string nm) := fun w' h => (hf5.on h).cells.1
    have q1 : ∀ w', Ext w0r w' → w'.cell? ⟨w.heap.size, 1, none⟩ = some (.int .i64 k) := fun w' h => (hf5.on h).cells.2.1
    have q2 : ∀ w', Ext w0r w' → w'.cell? ⟨w.heap.size, 2, none⟩ = some (.int .i64 g) := fun w' h => (hf5.on h).cells.2.2
    have p0 : ∀ w', Ext w0r w' → w'.cell? ⟨w1.heap.size, 0, none⟩ = some (.int .i64 k) := fun w' h => (hv5.on h).cells.1
    have p1 : ∀ w', Ext w0r w' → w'.cell? ⟨w1.heap.size, 1, none⟩ = some (.int .u64 0) := fun w' h => (hv5.on h).cells.2.1
    have p2 : ∀ w', Ext w0r w' → w'.cell? ⟨w1.heap.size, 2, none⟩ = some (.string Z) := fun w' h => (hv5.on h).cells.2.2
    refine wpAnyH_ready (rs := [0]) (by kernel_rfl) (by simp) ?_
    refine AllReadyH.cons at0 (fun K hK => ?_) AllReadyH.nil
    go_simp
    go_at_call 11
    refine (alive_any _).mono ?_
    rintro e w4 ⟨rfl, hb4⟩
    go_wp2_with fail
    refine hK.out _ _ hb4 (fun hHeld => ?_)
    clear hK K
    try simp only [Act.put, List.setIfInBounds_toArray, List.set_cons_zero, List.set_cons_succ]
    refine reg_on hb4 (fun hHeld => ?_)
    have hx4 : ∀ {w'}, Ext w4 w' → Ext w0r w' := fun h => Ext.trans hb4 h
    have hcv4 : ∀ w', Ext w4 w' → (convert 27 9 (.slice A len cap)).run Try.prog w' = .ok (.string ⟨(List.replicate m (0 : UInt8)).toArray⟩) w' := fun w' hb => hcv w' (hx4 hb)
    refine reg_take 1 (v := ?vb1) (atS at0) (by kernel_rfl) (by kernel_rfl) (by kernel_rfl) (by rfl) ?hyb1 hHeld ?restb1
    case hyb1 => (intro w' hSw; go_simp; try with_reducible rfl)
    try simp only [Act.put, List.setIfInBounds_toArray, List.set_cons_zero, List.set_cons_succ]
    refine reg_take 2 (v := ?vb2) (atS (atS at0)) (by kernel_rfl) (by kernel_rfl) (by kernel_rfl) (by rfl) ?hyb2 hHeld ?restb2
    case hyb2 => (intro w' hSw; go_simp; try with_reducible rfl)
    try simp only [Act.put, List.setIfInBounds_toArray, List.set_cons_zero, List.set_cons_succ]
    refine reg_take 3 (v := ?vb3) (atS (atS (atS at0))) (by kernel_rfl) (by kernel_rfl) (by kernel_rfl) (by rfl) ?hyb3 hHeld ?restb3
    case hyb3 => (intro w' hSw; go_simp; try with_reducible rfl)
    try simp only [Act.put, List.setIfInBounds_toArray, List.set_cons_zero, List.set_cons_succ]
    refine reg_take 4 (v := ?vb4) (atS (atS (atS (atS at0)))) (by kernel_rfl) (by kernel_rfl) (by kernel_rfl) (by rfl) ?hyb4 hHeld ?restb4
    case hyb4 => (intro w' hSw; go_simp; try with_reducible rfl)
    try simp only [Act.put, List.setIfInBounds_toArray, List.set_cons_zero, List.set_cons_succ]
    refine reg_take 5 (v := ?vb5) (atS5 at0) (by kernel_rfl) (by kernel_rfl) (by kernel_rfl) (by rfl) ?hyb5 hHeld ?restb5
    case hyb5 => (intro w' hSw; go_simp; try with_reducible rfl)
    try simp only [Act.put, List.setIfInBounds_toArray, List.set_cons_zero, List.set_cons_succ]
    refine reg_take 6 (v := ?vb6) (atS5 (atS at0)) (by kernel_rfl) (by kernel_rfl) (by kernel_rfl) (by rfl) ?hyb6 hHeld ?restb6
    case hyb6 => (intro w' hSw; go_simp; try with_reducible rfl)
    try simp only [Act.put, List.setIfInBounds_toArray, List.set_cons_zero, List.set_cons_succ]
    refine reg_take 7 (v := ?vb7) (atS5 (atS (atS at0))) (by kernel_rfl) (by kernel_rfl) (by kernel_rfl) (by rfl) ?hyb7 hHeld ?restb7
    case hyb7 => (intro w' hSw; go_simp; try with_reducible rfl)
    try simp only [Act.put, List.setIfInBounds_toArray, List.set_cons_zero, List.set_cons_succ]
    refine reg_take 8 (v := ?vb8) (atS5 (atS (atS (atS at0)))) (by kernel_rfl) (by kernel_rfl) (by kernel_rfl) (by rfl) ?hyb8 hHeld ?restb8
    case hyb8 => (intro w' hSw; go_simp; try with_reducible rfl)
    try simp only [Act.put, List.setIfInBounds_toArray, List.set_cons_zero, List.set_cons_succ]
    refine wpAnyH_ready (rs := [9]) (by kernel_rfl) (by simp) ?_
    refine AllReadyH.cons (atS5 (atS (atS (atS (atS at0))))) (fun K hK => ?_) AllReadyH.nil
    go_simp
    skip
    refine hK.out _ _ (B1 _ _) (fun hHeld => ?_)
    clear hK K
    try simp only [Act.put, List.setIfInBounds_toArray, List.set_cons_zero, List.set_cons_succ]
    refine reg_on (B1 _ _) (fun hHeld => ?_)
    have hx5 : ∀ {w'}, Ext (w4.alloc (.cells (zrow m).toArray 5)) w' → Ext w0r w' := fun h => hx4 (Ext.trans (B1 _ _) h)
    have hcz5 := hcz w4
    have q0 := fun w' (h : Ext (w4.alloc (.cells (zrow m).toArray 5)) w') => q0 w' (hx5 h)
    have q1 := fun w' (h : Ext (w4.alloc (.cells (zrow m).toArray 5)) w') => q1 w' (hx5 h)
    have q2 := fun w' (h : Ext (w4.alloc (.cells (zrow m).toArray 5)) w') => q2 w' (hx5 h)
    have p0 := fun w' (h : Ext (w4.alloc (.cells (zrow m).toArray 5)) w') => p0 w' (hx5 h)
    have p1 := fun w' (h : Ext (w4.alloc (.cells (zrow m).toArray 5)) w') => p1 w' (hx5 h)
    have p2 := fun w' (h : Ext (w4.alloc (.cells (zrow m).toArray 5)) w') => p2 w' (hx5 h)
    refine reg_take 10 (v := ?vb10) (atS5 (atS5 at0)) (by kernel_rfl) (by kernel_rfl) (by kernel_rfl) (by rfl) ?hyb10 hHeld ?restb10
    case hyb10 => (intro w' hSw; go_simp; try with_reducible rfl)
    try simp only [Act.put, List.setIfInBounds_toArray, List.set_cons_zero, List.set_cons_succ]
    refine reg_take 11 (v := ?vb11) (atS5 (atS5 (atS at0))) (by kernel_rfl) (by kernel_rfl) (by kernel_rfl) (by rfl) ?hyb11 hHeld ?restb11
    case hyb11 => (intro w' hSw; go_simp; try with_reducible rfl)
    try simp only [Act.put, List.setIfInBounds_toArray, List.set_cons_zero, List.set_cons_succ]
    refine reg_take 12 (v := ?vb12) (atS5 (atS5 (atS (atS at0)))) (by kernel_rfl) (by kernel_rfl) (by kernel_rfl) (by rfl) ?hyb12 hHeld ?restb12
    case hyb12 => (intro w' hSw; go_simp; try with_reducible rfl)
    try simp only [Act.put, List.setIfInBounds_toArray, List.set_cons_zero, List.set_cons_succ]
    refine reg_take 13 (v := ?vb13) (atS5 (atS5 (atS (atS (atS at0))))) (by kernel_rfl) (by kernel_rfl) (by kernel_rfl) (by rfl) ?hyb13 hHeld ?restb13
    case hyb13 => (intro w' hSw; go_simp; try with_reducible rfl)
    try simp only [Act.put, List.setIfInBounds_toArray, List.set_cons_zero, List.set_cons_succ]
    refine reg_take 14 (v := ?vb14) (atS5 (atS5 (atS (atS (atS (atS at0)))))) (by kernel_rfl) (by kernel_rfl) (by kernel_rfl) (by rfl) ?hyb14 hHeld ?restb14
    case hyb14 => (intro w' hSw; go_simp; try with_reducible rfl)
    try simp only [Act.put, List.setIfInBounds_toArray, List.set_cons_zero, List.set_cons_succ]
    refine reg_take 15 (v := ?vb15) (atS5 (atS5 (atS5 at0))) (by kernel_rfl) (by kernel_rfl) (by kernel_rfl) (by rfl) ?hyb15 hHeld ?restb15
    case hyb15 => (intro w' hSw; go_simp; try with_reducible rfl)
    try simp only [Act.put, List.setIfInBounds_toArray, List.set_cons_zero, List.set_cons_succ]
    refine wpAnyH_ready (rs := [16]) (by kernel_rfl) (by simp) ?_
    refine AllReadyH.cons (atS5 (atS5 (atS5 (atS at0)))) (fun K hK => ?_) AllReadyH.nil
    go_simp
    go_at_call 16
    refine (kright_any _ _ _ _ _ _ _ h0).mono ?_
    rintro e w5 ⟨rfl, hb5⟩
    rw [HR.out]
    go_wp2_with fail
    refine hK.out _ _ hb5 (fun hHeld => ?_)
    clear hK K
    try simp only [Act.put, List.setIfInBounds_toArray, List.set_cons_zero, List.set_cons_succ]
    refine reg_on hb5 (fun hHeld => ?_)
    refine reg_take 17 (v := ?vb17) (atS5 (atS5 (atS5 (atS (atS at0))))) (by kernel_rfl) (by kernel_rfl) (by kernel_rfl) (by rfl) ?hyb17 hHeld ?restb17
    case hyb17 => (intro w' hSw; go_simp; try with_reducible rfl)
    try simp only [Act.put, List.setIfInBounds_toArray, List.set_cons_zero, List.set_cons_succ]
    refine reg_take 18 (v := ?vb18) (atS5 (atS5 (atS5 (atS (atS (atS at0)))))) (by kernel_rfl) (by kernel_rfl) (by kernel_rfl) (by rfl) ?hyb18 hHeld ?restb18
    case hyb18 => (intro w' hSw; go_simp; try with_reducible rfl)
    try simp only [Act.put, List.setIfInBounds_toArray, List.set_cons_zero, List.set_cons_succ]
    refine wpAnyH_done (by kernel_rfl) ?_ _
    refine NoPanic.normal ?_
    go_wp2_with fail
    go_ret
    exact ⟨rfl, Bt (Ba (Bt (Bt hbw4 hx0r) hb4) _) hb5⟩
  · have hm : mayF k g = false := by simpa using hm
    have hK : zeroK k g = 0 := by simp [zeroK, hm]
    have hT : zeroT k g = ⟨#[]⟩ := by simp [zeroT, hm]
    have hL := long_none hm
    have hri : ∀ (a b : Int) (m : Nat), rightF a b m k g = false := fun a b m => rightF_no1 hm
    have HR := hid hri; have HK := hid hK; have HT := hid hT; have HL := hid hL
    clear hri hK hT hm hL
    go_enter Try.func8, Try.ntmps8
    go_wp2_with fail
    go_at_call 20
    refine (kzero_any _ _ _ _).mono ?_
    rintro e w1 ⟨rfl, hb1⟩
    rw [HK.out, HT.out]
    have hf1 := (fb_new w nm k g).on hb1
    have hbw := Bt (B1 _ _) hb1
    have hf2 := hf1.alloc (.cells #[.int .i64 0, .int .u64 0, .string ⟨#[]⟩] 24)
    have hv2 := vb_new w1 0 0 ⟨#[]⟩
    have hbw2 := Ba hbw (.cells #[.int .i64 0, .int .u64 0, .string ⟨#[]⟩] 24)
    obtain ⟨c0, c1, c2⟩ := hf1.cells
    have l1 := hf1.lt
    go_wp2_with fail
    go_at_call 18
    refine (klong_any _ _ _ _).mono ?_
    rintro e w2 ⟨rfl, hb2⟩
    rw [HL.out]
    clear c0 c1 c2
    have hf3 := hf2.on hb2
    have hv3 := hv2.on hb2
    have hbw3 := Bt hbw2 hb2
    go_wp2_with fail
    go_at_call 11
    refine (alive_any _).mono ?_
    rintro e w3 ⟨rfl, hb3⟩
    have hf4 := hf3.on hb3
    have hv4 := hv3.on hb3
    have hbw4 := Bt hbw3 hb3
    obtain ⟨c0, c1, c2⟩ := hf4.cells
    obtain ⟨d0, d1, d2⟩ := hv4.cells
    go_wp2_with fail
    go_at_call 16
    refine (kright_any _ _ _ _ _ _ _ h0).mono ?_
    rintro e w4 ⟨rfl, hb4⟩
    rw [HR.out]
    go_wp2_with fail
    go_ret
    exact ⟨rfl, Bt hbw4 hb4⟩
end Go.Proofs.Ytacakogncjhlfaa
