/-
  The program's askMoves, and Right, of layer 7.
-/
import Derived.Test.YtaegencmnmjgbaaGreatM26
import Derived.Test.YtaegencmnmjgbaaGreatM13
import Derived.Test.YtaegencmnmjgbaaGreatM21
import Derived.Deep.Cut

namespace Go.Proofs.YtaegencmnmjgbaaGreat
open Go.RowKit
set_option linter.unusedVariables false
set_option linter.unusedSimpArgs false
theorem askMoves_any (w : World) (A : Option Addr) (n c : Nat) :
    Calls Tryz.prog 130 #[.slice A n c] w fun e w' => e = .returned (.func (.func 163) #[] #[.pointer (some ⟨w.heap.size, 0, none⟩)]) ∧ w' = w.alloc (.cells #[.slice A n c] 32) := by
  go_enter Tryz.func130, Tryz.ntmps130
  go_wp2
  go_ret
  exact ⟨rfl, rfl⟩
def mvV (m : Mv) : Value := .agg #[.int .i64 m.fr, .int .i64 m.k, .int .u64 m.n, .string m.t]
def fdV (f : Fd) : Value := .agg #[.string (bs f.nm), .int .i64 f.k, .int .i64 f.g]
set_option maxRecDepth 20000 in
set_option maxHeartbeats 8000000 in
theorem ask1_any {w : World} {A : Option Addr} {n c : Nat} {o : List Fd} (h : RdF w w.heap.size A n c o) (m : Mv) (f : Fd) (hu : U64 m.n) {p : Nat} (hp : w.heap[p]? = some (.cells #[.slice A n c] 32 (0, 0))) :
    Calls Tryz.prog 163 #[mvV m, fdV f, .pointer (some ⟨p, 0, none⟩)] w fun e w' => e = .returned (.bool (mvB o m f)) ∧ Below w.heap.size w w' := by
  have hn64 : (n : Int) ≤ 9223372036854775807 := by have := Nat.le_trans h.2.1 h.2.2.1; unfold maxLen at this; omega
  have HLO : Hid (o.length = n) := hid h.1
  obtain ⟨w0, hw0⟩ : ∃ w0, w0 = ((w.alloc (.cells #[.int .i64 m.fr, .int .i64 m.k, .int .u64 m.n, .string m.t] 161)).alloc (.cells #[.string (bs f.nm), .int .i64 f.k, .int .i64 f.g] 68)) := ⟨_, rfl⟩
  have HW0 := hid hw0
  have HB0 : Hid (Below w.heap.size w w0) := by rw [hw0]; exact Ba (B1 _ _) _
  obtain ⟨pm, hpm⟩ : ∃ pm, pm = w.heap.size := ⟨_, rfl⟩
  obtain ⟨pf, hpf⟩ : ∃ pf, pf = w.heap.size + 1 := ⟨_, rfl⟩
  have HPM := hid hpm; have HPF := hid hpf
  have HM0 : Hid (MB w0 pm m 161) := by rw [hw0, hpm]; exact hid ((mb_new w m _).on (B1 _ _))
  have HF0 : Hid (FB w0 pf (bs f.nm) f.k f.g) := by rw [hw0, hpf]; exact hid (fb_new2 w _ _ _ _)
  have HP0 : Hid (∀ w', Below w0.heap.size w0 w' → w'.cell? ⟨p, 0, none⟩ = some (.slice A n c)) := hid (fun w' hb => by
    have h0 := (HB0.out.block p (row_lt hp)).trans hp
    rw [row_cell ((hb.block p (row_lt h0)).trans h0)]; rfl)
  have H := hid h; have HU := hid hu
  have s1 := HP0.out w0 (B0 _)
  clear h hu hp hw0 hpm hpf
  obtain ⟨q0, q1, q2, q3⟩ := (HM0.out.on (B0 w0)).cells
  obtain ⟨f0, f1, f2⟩ := (HF0.out.on (B0 w0)).cells
  unfold mvV fdV
  go_enter Tryz.func163, Tryz.ntmps163
  go_upto_region 1 with fail
  rw [← HW0.out, ← HPF.out, ← HPM.out]
  by_cases g3 : m.fr = -1
  · have t3 : (m.fr == -1) = true := by simpa using g3
    have HE : Hid (mvB o m f = (rightF m.k m.n m.t.size f.k f.g && (decide (f.k ≠ 11) || decide (m.n = 0)))) := hid (mvB_new g3)
    obtain ⟨rb, hrb⟩ : ∃ rb, rb = rightF m.k m.n m.t.size f.k f.g := ⟨_, rfl⟩
    have HRB := hid hrb
    rw [← hrb] at HE
    have G3 := hid g3
    clear hrb g3
    go_wp2_with fail
    refine (kright_any m.k m.n m.t (bs f.nm) f.k f.g w0 HU.out).mono ?_
    rintro e w1 ⟨rfl, hb1⟩
    rw [← HRB.out]
    have HB1 := hid hb1
    clear hb1 q0 q1 q2 q3 f0 f1 f2 s1
    obtain ⟨q0, q1, q2, q3⟩ := (HM0.out.on HB1.out).cells
    obtain ⟨f0, f1, f2⟩ := (HF0.out.on HB1.out).cells
    cases rb
    · go_wp2_with fail
      go_ret
      exact ⟨by rw [HE.out]; rfl, Bt HB0.out HB1.out⟩
    · by_cases g4 : f.k = 11
      · have t4 : (f.k != 11) = false := by simpa using g4
        by_cases g5 : m.n = 0
        · have t5 : (m.n == 0) = true := by simpa using g5
          have HE2 : Hid (mvB o m f = true) := hid (by rw [HE.out]; simp [g5])
          clear g4 g5
          go_wp2_with fail
          go_ret
          exact ⟨by rw [HE2.out]; rfl, Bt HB0.out HB1.out⟩
        · have t5 : (m.n == 0) = false := by simpa using g5
          have HE2 : Hid (mvB o m f = false) := hid (by rw [HE.out]; simp [g4, g5])
          clear g4 g5
          go_wp2_with fail
          go_ret
          exact ⟨by rw [HE2.out]; rfl, Bt HB0.out HB1.out⟩
      · have t4 : (f.k != 11) = true := by simpa using g4
        have HE2 : Hid (mvB o m f = true) := hid (by rw [HE.out]; simp [g4])
        clear g4
        go_wp2_with fail
        go_ret
        exact ⟨by rw [HE2.out]; rfl, Bt HB0.out HB1.out⟩
  · have t3 : (m.fr == -1) = false := by simpa using g3
    by_cases g1 : 0 ≤ m.fr ∧ m.fr < (n : Int)
    · have t1 : decide (0 ≤ m.fr) = true := decide_eq_true g1.1
      have t2 : decide (m.fr < (n : Int)) = true := decide_eq_true g1.2
      obtain ⟨g, hg⟩ : ∃ g, o[m.fr.toNat]? = some g := ⟨_, List.getElem?_eq_getElem (by have := HLO.out; omega)⟩
      obtain ⟨_, _, _, _, b3', off3, rfl, hc3⟩ := H.out.at hg
      have HC3 := hid hc3
      have HW3 : Hid (mvB o m f = (m.zero && castsF g.k g.g f.k f.g)) := hid (mvB_old g1.1 hg)
      have hfn : (m.fr.toNat : Int) = m.fr := Int.toNat_of_nonneg g1.1
      have hfl : m.fr < (n : Int) := g1.2
      have hf0 : 0 ≤ m.fr := g1.1
      clear hc3 hg g1 g3
      go_upto_region 4 with fail
      clear q0 q1 q2 q3 f0 f1 f2 s1
      by_cases g5 : m.k = 0
      · have t5 : (m.k == 0) = true := by simpa using g5
        by_cases g6 : m.n = 0
        · have t6 : (m.n == 0) = true := by simpa using g6
          by_cases g7 : m.t.toList = []
          · have HZ : Hid (m.zero = true) := hid (by simp [Mv.zero, g5, g6, toList_nil g7])
            have G5 := hid g5; have G6 := hid g6
            clear g5 g6
            obtain ⟨cb, hcb⟩ : ∃ cb, cb = castsF g.k g.g f.k f.g := ⟨_, rfl⟩
            have HCB := hid hcb
            rw [HZ.out, ← hcb, Bool.true_and] at HW3
            clear hcb
            refine reg_begin (by kernel_rfl) (fun w0h hx0h hHeld => ?_)
            have a0 : ∀ w', Ext w0h w' → MB w' pm m 161 := fun w' h => (HM0.out.on (Bt (B0 _) hx0h)).on h
            have a1 := fun w' h => (a0 w' h).cells.1
            have a2 := fun w' h => (a0 w' h).cells.2.1
            have a3 := fun w' h => (a0 w' h).cells.2.2.1
            have a4 := fun w' h => (a0 w' h).cells.2.2.2
            have b0 : ∀ w', Ext w0h w' → FB w' pf (bs f.nm) f.k f.g := fun w' h => (HF0.out.on (Bt (B0 _) hx0h)).on h
            have b1 := fun w' h => (b0 w' h).cells.1
            have b2 := fun w' h => (b0 w' h).cells.2.1
            have b3 := fun w' h => (b0 w' h).cells.2.2
            have s1 : ∀ w', Ext w0h w' → w'.cell? ⟨p, 0, none⟩ = some (.slice (some ⟨b3', off3, none⟩) n c) := fun w' h => HP0.out w' (Bt (Bt (B0 _) hx0h) h)
            have z0 : ∀ w', Ext w0h w' → FdC w' b3' (off3 + m.fr.toNat * 3) g := fun w' h => HC3.out w' (Bt HB0.out (Bt (Bt (B0 _) hx0h) h))
            have z1 := fun w' h => (z0 w' h).1
            have z2 := fun w' h => (z0 w' h).2.1
            have z3 := fun w' h => (z0 w' h).2.2
            clear a0 b0 z0
            refine reg_take 0 (v := ?vb0) at0 (by kernel_rfl) (by kernel_rfl) (by kernel_rfl) (by rfl) ?hyb0 hHeld ?restb0
            case hyb0 => (intro w' hSw; go_simp; try with_reducible rfl)
            try simp only [Act.put, List.setIfInBounds_toArray, List.set_cons_zero, List.set_cons_succ]
            refine reg_take 1 (v := ?vb1) (atS at0) (by kernel_rfl) (by kernel_rfl) (by kernel_rfl) (by rfl) ?hyb1 hHeld ?restb1
            case hyb1 => (intro w' hSw; go_simp; try with_reducible rfl)
            try simp only [Act.put, List.setIfInBounds_toArray, List.set_cons_zero, List.set_cons_succ]
            refine reg_take 2 (v := ?vb2) (atS (atS at0)) (by kernel_rfl) (by kernel_rfl) (by kernel_rfl) (by rfl) ?hyb2 hHeld ?restb2
            case hyb2 => (intro w' hSw; go_simp; try with_reducible rfl)
            try simp only [Act.put, List.setIfInBounds_toArray, List.set_cons_zero, List.set_cons_succ]
            refine reg_take 3 (v := ?vb3) (atS (atS (atS at0))) (by kernel_rfl) (by kernel_rfl) (by kernel_rfl) (by rfl) ?hyb3 hHeld ?restb3
            case hyb3 => (intro w' hSw; go_simp; try with_reducible rfl)
            try simp only [Act.put, List.setIfInBounds_toArray, List.set_cons_zero, List.set_cons_succ]
            refine reg_take 4 (v := ?vb4) (atS (atS (atS (atS at0)))) (by kernel_rfl) (by kernel_rfl) (by kernel_rfl) (by rfl) ?hyb4 hHeld ?restb4
            case hyb4 => (intro w' hSw; go_simp; try with_reducible rfl)
            try simp only [Act.put, List.setIfInBounds_toArray, List.set_cons_zero, List.set_cons_succ]
            refine reg_take 5 (v := ?vb5) (atS5 at0) (by kernel_rfl) (by kernel_rfl) (by kernel_rfl) (by rfl) ?hyb5 hHeld ?restb5
            case hyb5 => (intro w' hSw; go_simp; try with_reducible rfl)
            try simp only [Act.put, List.setIfInBounds_toArray, List.set_cons_zero, List.set_cons_succ]
            refine reg_take 6 (v := ?vb6) (atS5 (atS at0)) (by kernel_rfl) (by kernel_rfl) (by kernel_rfl) (by rfl) ?hyb6 hHeld ?restb6
            case hyb6 => (intro w' hSw; go_simp; try with_reducible rfl)
            try simp only [Act.put, List.setIfInBounds_toArray, List.set_cons_zero, List.set_cons_succ]
            refine reg_take 7 (v := ?vb7) (atS5 (atS (atS at0))) (by kernel_rfl) (by kernel_rfl) (by kernel_rfl) (by rfl) ?hyb7 hHeld ?restb7
            case hyb7 => (intro w' hSw; go_simp; try with_reducible rfl)
            try simp only [Act.put, List.setIfInBounds_toArray, List.set_cons_zero, List.set_cons_succ]
            refine reg_take 8 (v := ?vb8) (atS5 (atS (atS (atS at0)))) (by kernel_rfl) (by kernel_rfl) (by kernel_rfl) (by rfl) ?hyb8 hHeld ?restb8
            case hyb8 => (intro w' hSw; go_simp; try with_reducible rfl)
            try simp only [Act.put, List.setIfInBounds_toArray, List.set_cons_zero, List.set_cons_succ]
            refine reg_take 9 (v := ?vb9) (atS5 (atS (atS (atS (atS at0))))) (by kernel_rfl) (by kernel_rfl) (by kernel_rfl) (by rfl) ?hyb9 hHeld ?restb9
            case hyb9 => (intro w' hSw; go_simp; try with_reducible rfl)
            try simp only [Act.put, List.setIfInBounds_toArray, List.set_cons_zero, List.set_cons_succ]
            refine reg_take 10 (v := ?vb10) (atS5 (atS5 at0)) (by kernel_rfl) (by kernel_rfl) (by kernel_rfl) (by rfl) ?hyb10 hHeld ?restb10
            case hyb10 => (intro w' hSw; go_simp; try with_reducible rfl)
            try simp only [Act.put, List.setIfInBounds_toArray, List.set_cons_zero, List.set_cons_succ]
            refine reg_take 11 (v := ?vb11) (atS5 (atS5 (atS at0))) (by kernel_rfl) (by kernel_rfl) (by kernel_rfl) (by rfl) ?hyb11 hHeld ?restb11
            case hyb11 => (intro w' hSw; go_simp; try with_reducible rfl)
            try simp only [Act.put, List.setIfInBounds_toArray, List.set_cons_zero, List.set_cons_succ]
            refine reg_take 12 (v := ?vb12) (atS5 (atS5 (atS (atS at0)))) (by kernel_rfl) (by kernel_rfl) (by kernel_rfl) (by rfl) ?hyb12 hHeld ?restb12
            case hyb12 => (intro w' hSw; go_simp; try with_reducible rfl)
            try simp only [Act.put, List.setIfInBounds_toArray, List.set_cons_zero, List.set_cons_succ]
            refine reg_take 13 (v := ?vb13) (atS5 (atS5 (atS (atS (atS at0))))) (by kernel_rfl) (by kernel_rfl) (by kernel_rfl) (by rfl) ?hyb13 hHeld ?restb13
            case hyb13 => (intro w' hSw; go_simp; try with_reducible rfl)
            try simp only [Act.put, List.setIfInBounds_toArray, List.set_cons_zero, List.set_cons_succ]
            refine wpAnyH_ready (rs := [14]) (by kernel_rfl) (by simp) ?_
            refine AllReadyH.cons (atS5 (atS5 (atS (atS (atS (atS at0)))))) (fun K hK => ?_) AllReadyH.nil
            go_simp
            refine (kcasts_any (bs g.nm) (bs f.nm) g.k g.g f.k f.g _).mono ?_
            rintro e w4 ⟨rfl, hb4⟩
            rw [← HCB.out]
            go_wp2_with fail
            refine hK.out _ _ hb4 (fun hHeld => ?_)
            clear hK K
            try simp only [Act.put, List.setIfInBounds_toArray, List.set_cons_zero, List.set_cons_succ]
            refine reg_on hb4 (fun hHeld => ?_)
            refine reg_take 15 (v := ?vb15) (atS5 (atS5 (atS5 at0))) (by kernel_rfl) (by kernel_rfl) (by kernel_rfl) (by rfl) ?hyb15 hHeld ?restb15
            case hyb15 => (intro w' hSw; go_simp; try with_reducible rfl)
            try simp only [Act.put, List.setIfInBounds_toArray, List.set_cons_zero, List.set_cons_succ]
            refine reg_take 16 (v := ?vb16) (atS5 (atS5 (atS5 (atS at0)))) (by kernel_rfl) (by kernel_rfl) (by kernel_rfl) (by rfl) ?hyb16 hHeld ?restb16
            case hyb16 => (intro w' hSw; go_simp; try with_reducible rfl)
            try simp only [Act.put, List.setIfInBounds_toArray, List.set_cons_zero, List.set_cons_succ]
            refine wpAnyH_done (by kernel_rfl) ?_ _
            refine NoPanic.normal ?_
            clear a1 a2 a3 a4 b1 b2 b3 s1 z1 z2 z3
            go_wp2_with fail
            go_ret
            exact ⟨by rw [HW3.out]; rfl, Bt HB0.out (Bt (Bt (B0 _) hx0h) hb4)⟩
          · skip
            have HE : Hid (mvB o m f = false) := hid (by rw [HW3.out]; simp [Mv.zero, g5, g6, toList_ne g7])
            clear g5 g6
            refine reg_begin (by kernel_rfl) (fun w0i hx0i hHeld => ?_)
            have a0 : ∀ w', Ext w0i w' → MB w' pm m 161 := fun w' h => (HM0.out.on (Bt (B0 _) hx0i)).on h
            have a1 := fun w' h => (a0 w' h).cells.1
            have a2 := fun w' h => (a0 w' h).cells.2.1
            have a3 := fun w' h => (a0 w' h).cells.2.2.1
            have a4 := fun w' h => (a0 w' h).cells.2.2.2
            have b0 : ∀ w', Ext w0i w' → FB w' pf (bs f.nm) f.k f.g := fun w' h => (HF0.out.on (Bt (B0 _) hx0i)).on h
            have b1 := fun w' h => (b0 w' h).cells.1
            have b2 := fun w' h => (b0 w' h).cells.2.1
            have b3 := fun w' h => (b0 w' h).cells.2.2
            have s1 : ∀ w', Ext w0i w' → w'.cell? ⟨p, 0, none⟩ = some (.slice (some ⟨b3', off3, none⟩) n c) := fun w' h => HP0.out w' (Bt (Bt (B0 _) hx0i) h)
            have z0 : ∀ w', Ext w0i w' → FdC w' b3' (off3 + m.fr.toNat * 3) g := fun w' h => HC3.out w' (Bt HB0.out (Bt (Bt (B0 _) hx0i) h))
            have z1 := fun w' h => (z0 w' h).1
            have z2 := fun w' h => (z0 w' h).2.1
            have z3 := fun w' h => (z0 w' h).2.2
            clear a0 b0 z0
            refine reg_take 0 (v := ?vc0) at0 (by kernel_rfl) (by kernel_rfl) (by kernel_rfl) (by rfl) ?hyc0 hHeld ?restc0
            case hyc0 => (intro w' hSw; go_simp; try with_reducible rfl)
            try simp only [Act.put, List.setIfInBounds_toArray, List.set_cons_zero, List.set_cons_succ]
            refine reg_take 1 (v := ?vc1) (atS at0) (by kernel_rfl) (by kernel_rfl) (by kernel_rfl) (by rfl) ?hyc1 hHeld ?restc1
            case hyc1 => (intro w' hSw; go_simp; try with_reducible rfl)
            try simp only [Act.put, List.setIfInBounds_toArray, List.set_cons_zero, List.set_cons_succ]
            refine reg_take 2 (v := ?vc2) (atS (atS at0)) (by kernel_rfl) (by kernel_rfl) (by kernel_rfl) (by rfl) ?hyc2 hHeld ?restc2
            case hyc2 => (intro w' hSw; go_simp; try with_reducible rfl)
            try simp only [Act.put, List.setIfInBounds_toArray, List.set_cons_zero, List.set_cons_succ]
            refine reg_take 3 (v := ?vc3) (atS (atS (atS at0))) (by kernel_rfl) (by kernel_rfl) (by kernel_rfl) (by rfl) ?hyc3 hHeld ?restc3
            case hyc3 => (intro w' hSw; go_simp; try with_reducible rfl)
            try simp only [Act.put, List.setIfInBounds_toArray, List.set_cons_zero, List.set_cons_succ]
            refine reg_take 4 (v := ?vc4) (atS (atS (atS (atS at0)))) (by kernel_rfl) (by kernel_rfl) (by kernel_rfl) (by rfl) ?hyc4 hHeld ?restc4
            case hyc4 => (intro w' hSw; go_simp; try with_reducible rfl)
            try simp only [Act.put, List.setIfInBounds_toArray, List.set_cons_zero, List.set_cons_succ]
            refine reg_take 5 (v := ?vc5) (atS5 at0) (by kernel_rfl) (by kernel_rfl) (by kernel_rfl) (by rfl) ?hyc5 hHeld ?restc5
            case hyc5 => (intro w' hSw; go_simp; try with_reducible rfl)
            try simp only [Act.put, List.setIfInBounds_toArray, List.set_cons_zero, List.set_cons_succ]
            refine reg_take 6 (v := ?vc6) (atS5 (atS at0)) (by kernel_rfl) (by kernel_rfl) (by kernel_rfl) (by rfl) ?hyc6 hHeld ?restc6
            case hyc6 => (intro w' hSw; go_simp; try with_reducible rfl)
            try simp only [Act.put, List.setIfInBounds_toArray, List.set_cons_zero, List.set_cons_succ]
            refine reg_take 7 (v := ?vc7) (atS5 (atS (atS at0))) (by kernel_rfl) (by kernel_rfl) (by kernel_rfl) (by rfl) ?hyc7 hHeld ?restc7
            case hyc7 => (intro w' hSw; go_simp; try with_reducible rfl)
            try simp only [Act.put, List.setIfInBounds_toArray, List.set_cons_zero, List.set_cons_succ]
            refine reg_skip 8 (atS5 (atS (atS (atS at0)))) (by kernel_rfl) (by kernel_rfl) (by kernel_rfl) (by rfl) hHeld ?_
            try simp only [Act.put, List.setIfInBounds_toArray, List.set_cons_zero, List.set_cons_succ]
            refine reg_skip 9 (atS5 (atS (atS (atS (atS at0))))) (by kernel_rfl) (by kernel_rfl) (by kernel_rfl) (by rfl) hHeld ?_
            try simp only [Act.put, List.setIfInBounds_toArray, List.set_cons_zero, List.set_cons_succ]
            refine reg_skip 10 (atS5 (atS5 at0)) (by kernel_rfl) (by kernel_rfl) (by kernel_rfl) (by rfl) hHeld ?_
            try simp only [Act.put, List.setIfInBounds_toArray, List.set_cons_zero, List.set_cons_succ]
            refine reg_skip 11 (atS5 (atS5 (atS at0))) (by kernel_rfl) (by kernel_rfl) (by kernel_rfl) (by rfl) hHeld ?_
            try simp only [Act.put, List.setIfInBounds_toArray, List.set_cons_zero, List.set_cons_succ]
            refine reg_skip 12 (atS5 (atS5 (atS (atS at0)))) (by kernel_rfl) (by kernel_rfl) (by kernel_rfl) (by rfl) hHeld ?_
            try simp only [Act.put, List.setIfInBounds_toArray, List.set_cons_zero, List.set_cons_succ]
            refine reg_skip 13 (atS5 (atS5 (atS (atS (atS at0))))) (by kernel_rfl) (by kernel_rfl) (by kernel_rfl) (by rfl) hHeld ?_
            try simp only [Act.put, List.setIfInBounds_toArray, List.set_cons_zero, List.set_cons_succ]
            refine reg_skip 14 (atS5 (atS5 (atS (atS (atS (atS at0)))))) (by kernel_rfl) (by kernel_rfl) (by kernel_rfl) (by rfl) hHeld ?_
            try simp only [Act.put, List.setIfInBounds_toArray, List.set_cons_zero, List.set_cons_succ]
            refine reg_take 15 (v := ?vc15) (atS5 (atS5 (atS5 at0))) (by kernel_rfl) (by kernel_rfl) (by kernel_rfl) (by rfl) ?hyc15 hHeld ?restc15
            case hyc15 => (intro w' hSw; go_simp; try with_reducible rfl)
            try simp only [Act.put, List.setIfInBounds_toArray, List.set_cons_zero, List.set_cons_succ]
            refine reg_take 16 (v := ?vc16) (atS5 (atS5 (atS5 (atS at0)))) (by kernel_rfl) (by kernel_rfl) (by kernel_rfl) (by rfl) ?hyc16 hHeld ?restc16
            case hyc16 => (intro w' hSw; go_simp; try with_reducible rfl)
            try simp only [Act.put, List.setIfInBounds_toArray, List.set_cons_zero, List.set_cons_succ]
            refine wpAnyH_done (by kernel_rfl) ?_ _
            refine NoPanic.normal ?_
            clear a1 a2 a3 a4 b1 b2 b3 s1 z1 z2 z3
            go_wp2_with fail
            go_ret
            exact ⟨by rw [HE.out]; rfl, Bt HB0.out (Bt (B0 _) hx0i)⟩
        · have t6 : (m.n == 0) = false := by simpa using g6
          have HE : Hid (mvB o m f = false) := hid (by rw [HW3.out]; simp [Mv.zero, g5, g6])
          clear g5 g6
          refine reg_begin (by kernel_rfl) (fun w0j hx0j hHeld => ?_)
          have a0 : ∀ w', Ext w0j w' → MB w' pm m 161 := fun w' h => (HM0.out.on (Bt (B0 _) hx0j)).on h
          have a1 := fun w' h => (a0 w' h).cells.1
          have a2 := fun w' h => (a0 w' h).cells.2.1
          have a3 := fun w' h => (a0 w' h).cells.2.2.1
          have a4 := fun w' h => (a0 w' h).cells.2.2.2
          have b0 : ∀ w', Ext w0j w' → FB w' pf (bs f.nm) f.k f.g := fun w' h => (HF0.out.on (Bt (B0 _) hx0j)).on h
          have b1 := fun w' h => (b0 w' h).cells.1
          have b2 := fun w' h => (b0 w' h).cells.2.1
          have b3 := fun w' h => (b0 w' h).cells.2.2
          have s1 : ∀ w', Ext w0j w' → w'.cell? ⟨p, 0, none⟩ = some (.slice (some ⟨b3', off3, none⟩) n c) := fun w' h => HP0.out w' (Bt (Bt (B0 _) hx0j) h)
          have z0 : ∀ w', Ext w0j w' → FdC w' b3' (off3 + m.fr.toNat * 3) g := fun w' h => HC3.out w' (Bt HB0.out (Bt (Bt (B0 _) hx0j) h))
          have z1 := fun w' h => (z0 w' h).1
          have z2 := fun w' h => (z0 w' h).2.1
          have z3 := fun w' h => (z0 w' h).2.2
          clear a0 b0 z0
          refine reg_take 0 (v := ?vd0) at0 (by kernel_rfl) (by kernel_rfl) (by kernel_rfl) (by rfl) ?hyd0 hHeld ?restd0
          case hyd0 => (intro w' hSw; go_simp; try with_reducible rfl)
          try simp only [Act.put, List.setIfInBounds_toArray, List.set_cons_zero, List.set_cons_succ]
          refine reg_take 1 (v := ?vd1) (atS at0) (by kernel_rfl) (by kernel_rfl) (by kernel_rfl) (by rfl) ?hyd1 hHeld ?restd1
          case hyd1 => (intro w' hSw; go_simp; try with_reducible rfl)
          try simp only [Act.put, List.setIfInBounds_toArray, List.set_cons_zero, List.set_cons_succ]
          refine reg_take 2 (v := ?vd2) (atS (atS at0)) (by kernel_rfl) (by kernel_rfl) (by kernel_rfl) (by rfl) ?hyd2 hHeld ?restd2
          case hyd2 => (intro w' hSw; go_simp; try with_reducible rfl)
          try simp only [Act.put, List.setIfInBounds_toArray, List.set_cons_zero, List.set_cons_succ]
          refine reg_take 3 (v := ?vd3) (atS (atS (atS at0))) (by kernel_rfl) (by kernel_rfl) (by kernel_rfl) (by rfl) ?hyd3 hHeld ?restd3
          case hyd3 => (intro w' hSw; go_simp; try with_reducible rfl)
          try simp only [Act.put, List.setIfInBounds_toArray, List.set_cons_zero, List.set_cons_succ]
          refine reg_take 4 (v := ?vd4) (atS (atS (atS (atS at0)))) (by kernel_rfl) (by kernel_rfl) (by kernel_rfl) (by rfl) ?hyd4 hHeld ?restd4
          case hyd4 => (intro w' hSw; go_simp; try with_reducible rfl)
          try simp only [Act.put, List.setIfInBounds_toArray, List.set_cons_zero, List.set_cons_succ]
          refine reg_take 5 (v := ?vd5) (atS5 at0) (by kernel_rfl) (by kernel_rfl) (by kernel_rfl) (by rfl) ?hyd5 hHeld ?restd5
          case hyd5 => (intro w' hSw; go_simp; try with_reducible rfl)
          try simp only [Act.put, List.setIfInBounds_toArray, List.set_cons_zero, List.set_cons_succ]
          refine reg_take 6 (v := ?vd6) (atS5 (atS at0)) (by kernel_rfl) (by kernel_rfl) (by kernel_rfl) (by rfl) ?hyd6 hHeld ?restd6
          case hyd6 => (intro w' hSw; go_simp; try with_reducible rfl)
          try simp only [Act.put, List.setIfInBounds_toArray, List.set_cons_zero, List.set_cons_succ]
          refine reg_take 7 (v := ?vd7) (atS5 (atS (atS at0))) (by kernel_rfl) (by kernel_rfl) (by kernel_rfl) (by rfl) ?hyd7 hHeld ?restd7
          case hyd7 => (intro w' hSw; go_simp; try with_reducible rfl)
          try simp only [Act.put, List.setIfInBounds_toArray, List.set_cons_zero, List.set_cons_succ]
          refine reg_skip 8 (atS5 (atS (atS (atS at0)))) (by kernel_rfl) (by kernel_rfl) (by kernel_rfl) (by rfl) hHeld ?_
          try simp only [Act.put, List.setIfInBounds_toArray, List.set_cons_zero, List.set_cons_succ]
          refine reg_skip 9 (atS5 (atS (atS (atS (atS at0))))) (by kernel_rfl) (by kernel_rfl) (by kernel_rfl) (by rfl) hHeld ?_
          try simp only [Act.put, List.setIfInBounds_toArray, List.set_cons_zero, List.set_cons_succ]
          refine reg_skip 10 (atS5 (atS5 at0)) (by kernel_rfl) (by kernel_rfl) (by kernel_rfl) (by rfl) hHeld ?_
          try simp only [Act.put, List.setIfInBounds_toArray, List.set_cons_zero, List.set_cons_succ]
          refine reg_skip 11 (atS5 (atS5 (atS at0))) (by kernel_rfl) (by kernel_rfl) (by kernel_rfl) (by rfl) hHeld ?_
          try simp only [Act.put, List.setIfInBounds_toArray, List.set_cons_zero, List.set_cons_succ]
          refine reg_skip 12 (atS5 (atS5 (atS (atS at0)))) (by kernel_rfl) (by kernel_rfl) (by kernel_rfl) (by rfl) hHeld ?_
          try simp only [Act.put, List.setIfInBounds_toArray, List.set_cons_zero, List.set_cons_succ]
          refine reg_skip 13 (atS5 (atS5 (atS (atS (atS at0))))) (by kernel_rfl) (by kernel_rfl) (by kernel_rfl) (by rfl) hHeld ?_
          try simp only [Act.put, List.setIfInBounds_toArray, List.set_cons_zero, List.set_cons_succ]
          refine reg_skip 14 (atS5 (atS5 (atS (atS (atS (atS at0)))))) (by kernel_rfl) (by kernel_rfl) (by kernel_rfl) (by rfl) hHeld ?_
          try simp only [Act.put, List.setIfInBounds_toArray, List.set_cons_zero, List.set_cons_succ]
          refine reg_take 15 (v := ?vd15) (atS5 (atS5 (atS5 at0))) (by kernel_rfl) (by kernel_rfl) (by kernel_rfl) (by rfl) ?hyd15 hHeld ?restd15
          case hyd15 => (intro w' hSw; go_simp; try with_reducible rfl)
          try simp only [Act.put, List.setIfInBounds_toArray, List.set_cons_zero, List.set_cons_succ]
          refine reg_take 16 (v := ?vd16) (atS5 (atS5 (atS5 (atS at0)))) (by kernel_rfl) (by kernel_rfl) (by kernel_rfl) (by rfl) ?hyd16 hHeld ?restd16
          case hyd16 => (intro w' hSw; go_simp; try with_reducible rfl)
          try simp only [Act.put, List.setIfInBounds_toArray, List.set_cons_zero, List.set_cons_succ]
          refine wpAnyH_done (by kernel_rfl) ?_ _
          refine NoPanic.normal ?_
          clear a1 a2 a3 a4 b1 b2 b3 s1 z1 z2 z3
          go_wp2_with fail
          go_ret
          exact ⟨by rw [HE.out]; rfl, Bt HB0.out (Bt (B0 _) hx0j)⟩
      · have t5 : (m.k == 0) = false := by simpa using g5
        have HE : Hid (mvB o m f = false) := hid (by rw [HW3.out]; simp [Mv.zero, g5])
        clear g5
        refine reg_begin (by kernel_rfl) (fun w0k hx0k hHeld => ?_)
        have a0 : ∀ w', Ext w0k w' → MB w' pm m 161 := fun w' h => (HM0.out.on (Bt (B0 _) hx0k)).on h
        have a1 := fun w' h => (a0 w' h).cells.1
        have a2 := fun w' h => (a0 w' h).cells.2.1
        have a3 := fun w' h => (a0 w' h).cells.2.2.1
        have a4 := fun w' h => (a0 w' h).cells.2.2.2
        have b0 : ∀ w', Ext w0k w' → FB w' pf (bs f.nm) f.k f.g := fun w' h => (HF0.out.on (Bt (B0 _) hx0k)).on h
        have b1 := fun w' h => (b0 w' h).cells.1
        have b2 := fun w' h => (b0 w' h).cells.2.1
        have b3 := fun w' h => (b0 w' h).cells.2.2
        have s1 : ∀ w', Ext w0k w' → w'.cell? ⟨p, 0, none⟩ = some (.slice (some ⟨b3', off3, none⟩) n c) := fun w' h => HP0.out w' (Bt (Bt (B0 _) hx0k) h)
        have z0 : ∀ w', Ext w0k w' → FdC w' b3' (off3 + m.fr.toNat * 3) g := fun w' h => HC3.out w' (Bt HB0.out (Bt (Bt (B0 _) hx0k) h))
        have z1 := fun w' h => (z0 w' h).1
        have z2 := fun w' h => (z0 w' h).2.1
        have z3 := fun w' h => (z0 w' h).2.2
        clear a0 b0 z0
        refine reg_take 0 (v := ?ve0) at0 (by kernel_rfl) (by kernel_rfl) (by kernel_rfl) (by rfl) ?hye0 hHeld ?reste0
        case hye0 => (intro w' hSw; go_simp; try with_reducible rfl)
        try simp only [Act.put, List.setIfInBounds_toArray, List.set_cons_zero, List.set_cons_succ]
        refine reg_take 1 (v := ?ve1) (atS at0) (by kernel_rfl) (by kernel_rfl) (by kernel_rfl) (by rfl) ?hye1 hHeld ?reste1
        case hye1 => (intro w' hSw; go_simp; try with_reducible rfl)
        try simp only [Act.put, List.setIfInBounds_toArray, List.set_cons_zero, List.set_cons_succ]
        refine reg_take 2 (v := ?ve2) (atS (atS at0)) (by kernel_rfl) (by kernel_rfl) (by kernel_rfl) (by rfl) ?hye2 hHeld ?reste2
        case hye2 => (intro w' hSw; go_simp; try with_reducible rfl)
        try simp only [Act.put, List.setIfInBounds_toArray, List.set_cons_zero, List.set_cons_succ]
        refine reg_take 3 (v := ?ve3) (atS (atS (atS at0))) (by kernel_rfl) (by kernel_rfl) (by kernel_rfl) (by rfl) ?hye3 hHeld ?reste3
        case hye3 => (intro w' hSw; go_simp; try with_reducible rfl)
        try simp only [Act.put, List.setIfInBounds_toArray, List.set_cons_zero, List.set_cons_succ]
        refine reg_take 4 (v := ?ve4) (atS (atS (atS (atS at0)))) (by kernel_rfl) (by kernel_rfl) (by kernel_rfl) (by rfl) ?hye4 hHeld ?reste4
        case hye4 => (intro w' hSw; go_simp; try with_reducible rfl)
        try simp only [Act.put, List.setIfInBounds_toArray, List.set_cons_zero, List.set_cons_succ]
        refine reg_take 5 (v := ?ve5) (atS5 at0) (by kernel_rfl) (by kernel_rfl) (by kernel_rfl) (by rfl) ?hye5 hHeld ?reste5
        case hye5 => (intro w' hSw; go_simp; try with_reducible rfl)
        try simp only [Act.put, List.setIfInBounds_toArray, List.set_cons_zero, List.set_cons_succ]
        refine reg_take 6 (v := ?ve6) (atS5 (atS at0)) (by kernel_rfl) (by kernel_rfl) (by kernel_rfl) (by rfl) ?hye6 hHeld ?reste6
        case hye6 => (intro w' hSw; go_simp; try with_reducible rfl)
        try simp only [Act.put, List.setIfInBounds_toArray, List.set_cons_zero, List.set_cons_succ]
        refine reg_take 7 (v := ?ve7) (atS5 (atS (atS at0))) (by kernel_rfl) (by kernel_rfl) (by kernel_rfl) (by rfl) ?hye7 hHeld ?reste7
        case hye7 => (intro w' hSw; go_simp; try with_reducible rfl)
        try simp only [Act.put, List.setIfInBounds_toArray, List.set_cons_zero, List.set_cons_succ]
        refine reg_skip 8 (atS5 (atS (atS (atS at0)))) (by kernel_rfl) (by kernel_rfl) (by kernel_rfl) (by rfl) hHeld ?_
        try simp only [Act.put, List.setIfInBounds_toArray, List.set_cons_zero, List.set_cons_succ]
        refine reg_skip 9 (atS5 (atS (atS (atS (atS at0))))) (by kernel_rfl) (by kernel_rfl) (by kernel_rfl) (by rfl) hHeld ?_
        try simp only [Act.put, List.setIfInBounds_toArray, List.set_cons_zero, List.set_cons_succ]
        refine reg_skip 10 (atS5 (atS5 at0)) (by kernel_rfl) (by kernel_rfl) (by kernel_rfl) (by rfl) hHeld ?_
        try simp only [Act.put, List.setIfInBounds_toArray, List.set_cons_zero, List.set_cons_succ]
        refine reg_skip 11 (atS5 (atS5 (atS at0))) (by kernel_rfl) (by kernel_rfl) (by kernel_rfl) (by rfl) hHeld ?_
        try simp only [Act.put, List.setIfInBounds_toArray, List.set_cons_zero, List.set_cons_succ]
        refine reg_skip 12 (atS5 (atS5 (atS (atS at0)))) (by kernel_rfl) (by kernel_rfl) (by kernel_rfl) (by rfl) hHeld ?_
        try simp only [Act.put, List.setIfInBounds_toArray, List.set_cons_zero, List.set_cons_succ]
        refine reg_skip 13 (atS5 (atS5 (atS (atS (atS at0))))) (by kernel_rfl) (by kernel_rfl) (by kernel_rfl) (by rfl) hHeld ?_
        try simp only [Act.put, List.setIfInBounds_toArray, List.set_cons_zero, List.set_cons_succ]
        refine reg_skip 14 (atS5 (atS5 (atS (atS (atS (atS at0)))))) (by kernel_rfl) (by kernel_rfl) (by kernel_rfl) (by rfl) hHeld ?_
        try simp only [Act.put, List.setIfInBounds_toArray, List.set_cons_zero, List.set_cons_succ]
        refine reg_take 15 (v := ?ve15) (atS5 (atS5 (atS5 at0))) (by kernel_rfl) (by kernel_rfl) (by kernel_rfl) (by rfl) ?hye15 hHeld ?reste15
        case hye15 => (intro w' hSw; go_simp; try with_reducible rfl)
        try simp only [Act.put, List.setIfInBounds_toArray, List.set_cons_zero, List.set_cons_succ]
        refine reg_take 16 (v := ?ve16) (atS5 (atS5 (atS5 (atS at0)))) (by kernel_rfl) (by kernel_rfl) (by kernel_rfl) (by rfl) ?hye16 hHeld ?reste16
        case hye16 => (intro w' hSw; go_simp; try with_reducible rfl)
        try simp only [Act.put, List.setIfInBounds_toArray, List.set_cons_zero, List.set_cons_succ]
        refine wpAnyH_done (by kernel_rfl) ?_ _
        refine NoPanic.normal ?_
        clear a1 a2 a3 a4 b1 b2 b3 s1 z1 z2 z3
        go_wp2_with fail
        go_ret
        exact ⟨by rw [HE.out]; rfl, Bt HB0.out (Bt (B0 _) hx0k)⟩
    · have HE : Hid (mvB o m f = false) := hid (mvB_out (by have := HLO.out; omega))
      by_cases g2 : 0 ≤ m.fr
      · have t1 : decide (0 ≤ m.fr) = true := decide_eq_true g2
        have t2 : decide (m.fr < (n : Int)) = false := decide_eq_false (by omega)
        clear g1 g3 g2
        go_upto_region 4 with fail
        clear q0 q1 q2 q3 f0 f1 f2 s1
        refine reg_begin (by kernel_rfl) (fun w0l hx0l hHeld => ?_)
        have a0 : ∀ w', Ext w0l w' → MB w' pm m 161 := fun w' h => (HM0.out.on (Bt (B0 _) hx0l)).on h
        have a1 := fun w' h => (a0 w' h).cells.1
        have a2 := fun w' h => (a0 w' h).cells.2.1
        have a3 := fun w' h => (a0 w' h).cells.2.2.1
        have a4 := fun w' h => (a0 w' h).cells.2.2.2
        have b0 : ∀ w', Ext w0l w' → FB w' pf (bs f.nm) f.k f.g := fun w' h => (HF0.out.on (Bt (B0 _) hx0l)).on h
        have b1 := fun w' h => (b0 w' h).cells.1
        have b2 := fun w' h => (b0 w' h).cells.2.1
        have b3 := fun w' h => (b0 w' h).cells.2.2
        have s1 : ∀ w', Ext w0l w' → w'.cell? ⟨p, 0, none⟩ = some (.slice A n c) := fun w' h => HP0.out w' (Bt (Bt (B0 _) hx0l) h)
        clear a0 b0
        refine reg_take 0 (v := ?vf0) at0 (by kernel_rfl) (by kernel_rfl) (by kernel_rfl) (by rfl) ?hyf0 hHeld ?restf0
        case hyf0 => (intro w' hSw; go_simp; try with_reducible rfl)
        try simp only [Act.put, List.setIfInBounds_toArray, List.set_cons_zero, List.set_cons_succ]
        refine reg_take 1 (v := ?vf1) (atS at0) (by kernel_rfl) (by kernel_rfl) (by kernel_rfl) (by rfl) ?hyf1 hHeld ?restf1
        case hyf1 => (intro w' hSw; go_simp; try with_reducible rfl)
        try simp only [Act.put, List.setIfInBounds_toArray, List.set_cons_zero, List.set_cons_succ]
        refine reg_skip 2 (atS (atS at0)) (by kernel_rfl) (by kernel_rfl) (by kernel_rfl) (by rfl) hHeld ?_
        try simp only [Act.put, List.setIfInBounds_toArray, List.set_cons_zero, List.set_cons_succ]
        refine reg_skip 3 (atS (atS (atS at0))) (by kernel_rfl) (by kernel_rfl) (by kernel_rfl) (by rfl) hHeld ?_
        try simp only [Act.put, List.setIfInBounds_toArray, List.set_cons_zero, List.set_cons_succ]
        refine reg_skip 4 (atS (atS (atS (atS at0)))) (by kernel_rfl) (by kernel_rfl) (by kernel_rfl) (by rfl) hHeld ?_
        try simp only [Act.put, List.setIfInBounds_toArray, List.set_cons_zero, List.set_cons_succ]
        refine reg_skip 5 (atS5 at0) (by kernel_rfl) (by kernel_rfl) (by kernel_rfl) (by rfl) hHeld ?_
        try simp only [Act.put, List.setIfInBounds_toArray, List.set_cons_zero, List.set_cons_succ]
        refine reg_take 6 (v := ?vf6) (atS5 (atS at0)) (by kernel_rfl) (by kernel_rfl) (by kernel_rfl) (by rfl) ?hyf6 hHeld ?restf6
        case hyf6 => (intro w' hSw; go_simp; try with_reducible rfl)
        try simp only [Act.put, List.setIfInBounds_toArray, List.set_cons_zero, List.set_cons_succ]
        refine reg_take 7 (v := ?vf7) (atS5 (atS (atS at0))) (by kernel_rfl) (by kernel_rfl) (by kernel_rfl) (by rfl) ?hyf7 hHeld ?restf7
        case hyf7 => (intro w' hSw; go_simp; try with_reducible rfl)
        try simp only [Act.put, List.setIfInBounds_toArray, List.set_cons_zero, List.set_cons_succ]
        refine reg_skip 8 (atS5 (atS (atS (atS at0)))) (by kernel_rfl) (by kernel_rfl) (by kernel_rfl) (by rfl) hHeld ?_
        try simp only [Act.put, List.setIfInBounds_toArray, List.set_cons_zero, List.set_cons_succ]
        refine reg_skip 9 (atS5 (atS (atS (atS (atS at0))))) (by kernel_rfl) (by kernel_rfl) (by kernel_rfl) (by rfl) hHeld ?_
        try simp only [Act.put, List.setIfInBounds_toArray, List.set_cons_zero, List.set_cons_succ]
        refine reg_skip 10 (atS5 (atS5 at0)) (by kernel_rfl) (by kernel_rfl) (by kernel_rfl) (by rfl) hHeld ?_
        try simp only [Act.put, List.setIfInBounds_toArray, List.set_cons_zero, List.set_cons_succ]
        refine reg_skip 11 (atS5 (atS5 (atS at0))) (by kernel_rfl) (by kernel_rfl) (by kernel_rfl) (by rfl) hHeld ?_
        try simp only [Act.put, List.setIfInBounds_toArray, List.set_cons_zero, List.set_cons_succ]
        refine reg_skip 12 (atS5 (atS5 (atS (atS at0)))) (by kernel_rfl) (by kernel_rfl) (by kernel_rfl) (by rfl) hHeld ?_
        try simp only [Act.put, List.setIfInBounds_toArray, List.set_cons_zero, List.set_cons_succ]
        refine reg_skip 13 (atS5 (atS5 (atS (atS (atS at0))))) (by kernel_rfl) (by kernel_rfl) (by kernel_rfl) (by rfl) hHeld ?_
        try simp only [Act.put, List.setIfInBounds_toArray, List.set_cons_zero, List.set_cons_succ]
        refine reg_skip 14 (atS5 (atS5 (atS (atS (atS (atS at0)))))) (by kernel_rfl) (by kernel_rfl) (by kernel_rfl) (by rfl) hHeld ?_
        try simp only [Act.put, List.setIfInBounds_toArray, List.set_cons_zero, List.set_cons_succ]
        refine reg_take 15 (v := ?vf15) (atS5 (atS5 (atS5 at0))) (by kernel_rfl) (by kernel_rfl) (by kernel_rfl) (by rfl) ?hyf15 hHeld ?restf15
        case hyf15 => (intro w' hSw; go_simp; try with_reducible rfl)
        try simp only [Act.put, List.setIfInBounds_toArray, List.set_cons_zero, List.set_cons_succ]
        refine reg_take 16 (v := ?vf16) (atS5 (atS5 (atS5 (atS at0)))) (by kernel_rfl) (by kernel_rfl) (by kernel_rfl) (by rfl) ?hyf16 hHeld ?restf16
        case hyf16 => (intro w' hSw; go_simp; try with_reducible rfl)
        try simp only [Act.put, List.setIfInBounds_toArray, List.set_cons_zero, List.set_cons_succ]
        refine wpAnyH_done (by kernel_rfl) ?_ _
        refine NoPanic.normal ?_
        clear a1 a2 a3 a4 b1 b2 b3 s1
        go_wp2_with fail
        go_ret
        exact ⟨by rw [HE.out]; rfl, Bt HB0.out (Bt (B0 _) hx0l)⟩
      · have t1 : decide (0 ≤ m.fr) = false := decide_eq_false g2
        clear g1 g3 g2
        go_upto_region 4 with fail
        clear q0 q1 q2 q3 f0 f1 f2 s1
        refine reg_begin (by kernel_rfl) (fun w0n hx0n hHeld => ?_)
        have a0 : ∀ w', Ext w0n w' → MB w' pm m 161 := fun w' h => (HM0.out.on (Bt (B0 _) hx0n)).on h
        have a1 := fun w' h => (a0 w' h).cells.1
        have a2 := fun w' h => (a0 w' h).cells.2.1
        have a3 := fun w' h => (a0 w' h).cells.2.2.1
        have a4 := fun w' h => (a0 w' h).cells.2.2.2
        have b0 : ∀ w', Ext w0n w' → FB w' pf (bs f.nm) f.k f.g := fun w' h => (HF0.out.on (Bt (B0 _) hx0n)).on h
        have b1 := fun w' h => (b0 w' h).cells.1
        have b2 := fun w' h => (b0 w' h).cells.2.1
        have b3 := fun w' h => (b0 w' h).cells.2.2
        have s1 : ∀ w', Ext w0n w' → w'.cell? ⟨p, 0, none⟩ = some (.slice A n c) := fun w' h => HP0.out w' (Bt (Bt (B0 _) hx0n) h)
        clear a0 b0
        refine reg_take 0 (v := ?vg0) at0 (by kernel_rfl) (by kernel_rfl) (by kernel_rfl) (by rfl) ?hyg0 hHeld ?restg0
        case hyg0 => (intro w' hSw; go_simp; try with_reducible rfl)
        try simp only [Act.put, List.setIfInBounds_toArray, List.set_cons_zero, List.set_cons_succ]
        refine reg_take 1 (v := ?vg1) (atS at0) (by kernel_rfl) (by kernel_rfl) (by kernel_rfl) (by rfl) ?hyg1 hHeld ?restg1
        case hyg1 => (intro w' hSw; go_simp; try with_reducible rfl)
        try simp only [Act.put, List.setIfInBounds_toArray, List.set_cons_zero, List.set_cons_succ]
        refine reg_skip 2 (atS (atS at0)) (by kernel_rfl) (by kernel_rfl) (by kernel_rfl) (by rfl) hHeld ?_
        try simp only [Act.put, List.setIfInBounds_toArray, List.set_cons_zero, List.set_cons_succ]
        refine reg_skip 3 (atS (atS (atS at0))) (by kernel_rfl) (by kernel_rfl) (by kernel_rfl) (by rfl) hHeld ?_
        try simp only [Act.put, List.setIfInBounds_toArray, List.set_cons_zero, List.set_cons_succ]
        refine reg_skip 4 (atS (atS (atS (atS at0)))) (by kernel_rfl) (by kernel_rfl) (by kernel_rfl) (by rfl) hHeld ?_
        try simp only [Act.put, List.setIfInBounds_toArray, List.set_cons_zero, List.set_cons_succ]
        refine reg_skip 5 (atS5 at0) (by kernel_rfl) (by kernel_rfl) (by kernel_rfl) (by rfl) hHeld ?_
        try simp only [Act.put, List.setIfInBounds_toArray, List.set_cons_zero, List.set_cons_succ]
        refine reg_take 6 (v := ?vg6) (atS5 (atS at0)) (by kernel_rfl) (by kernel_rfl) (by kernel_rfl) (by rfl) ?hyg6 hHeld ?restg6
        case hyg6 => (intro w' hSw; go_simp; try with_reducible rfl)
        try simp only [Act.put, List.setIfInBounds_toArray, List.set_cons_zero, List.set_cons_succ]
        refine reg_take 7 (v := ?vg7) (atS5 (atS (atS at0))) (by kernel_rfl) (by kernel_rfl) (by kernel_rfl) (by rfl) ?hyg7 hHeld ?restg7
        case hyg7 => (intro w' hSw; go_simp; try with_reducible rfl)
        try simp only [Act.put, List.setIfInBounds_toArray, List.set_cons_zero, List.set_cons_succ]
        refine reg_skip 8 (atS5 (atS (atS (atS at0)))) (by kernel_rfl) (by kernel_rfl) (by kernel_rfl) (by rfl) hHeld ?_
        try simp only [Act.put, List.setIfInBounds_toArray, List.set_cons_zero, List.set_cons_succ]
        refine reg_skip 9 (atS5 (atS (atS (atS (atS at0))))) (by kernel_rfl) (by kernel_rfl) (by kernel_rfl) (by rfl) hHeld ?_
        try simp only [Act.put, List.setIfInBounds_toArray, List.set_cons_zero, List.set_cons_succ]
        refine reg_skip 10 (atS5 (atS5 at0)) (by kernel_rfl) (by kernel_rfl) (by kernel_rfl) (by rfl) hHeld ?_
        try simp only [Act.put, List.setIfInBounds_toArray, List.set_cons_zero, List.set_cons_succ]
        refine reg_skip 11 (atS5 (atS5 (atS at0))) (by kernel_rfl) (by kernel_rfl) (by kernel_rfl) (by rfl) hHeld ?_
        try simp only [Act.put, List.setIfInBounds_toArray, List.set_cons_zero, List.set_cons_succ]
        refine reg_skip 12 (atS5 (atS5 (atS (atS at0)))) (by kernel_rfl) (by kernel_rfl) (by kernel_rfl) (by rfl) hHeld ?_
        try simp only [Act.put, List.setIfInBounds_toArray, List.set_cons_zero, List.set_cons_succ]
        refine reg_skip 13 (atS5 (atS5 (atS (atS (atS at0))))) (by kernel_rfl) (by kernel_rfl) (by kernel_rfl) (by rfl) hHeld ?_
        try simp only [Act.put, List.setIfInBounds_toArray, List.set_cons_zero, List.set_cons_succ]
        refine reg_skip 14 (atS5 (atS5 (atS (atS (atS (atS at0)))))) (by kernel_rfl) (by kernel_rfl) (by kernel_rfl) (by rfl) hHeld ?_
        try simp only [Act.put, List.setIfInBounds_toArray, List.set_cons_zero, List.set_cons_succ]
        refine reg_take 15 (v := ?vg15) (atS5 (atS5 (atS5 at0))) (by kernel_rfl) (by kernel_rfl) (by kernel_rfl) (by rfl) ?hyg15 hHeld ?restg15
        case hyg15 => (intro w' hSw; go_simp; try with_reducible rfl)
        try simp only [Act.put, List.setIfInBounds_toArray, List.set_cons_zero, List.set_cons_succ]
        refine reg_take 16 (v := ?vg16) (atS5 (atS5 (atS5 (atS at0)))) (by kernel_rfl) (by kernel_rfl) (by kernel_rfl) (by rfl) ?hyg16 hHeld ?restg16
        case hyg16 => (intro w' hSw; go_simp; try with_reducible rfl)
        try simp only [Act.put, List.setIfInBounds_toArray, List.set_cons_zero, List.set_cons_succ]
        refine wpAnyH_done (by kernel_rfl) ?_ _
        refine NoPanic.normal ?_
        clear a1 a2 a3 a4 b1 b2 b3 s1
        go_wp2_with fail
        go_ret
        exact ⟨by rw [HE.out]; rfl, Bt HB0.out (Bt (B0 _) hx0n)⟩
end Go.Proofs.YtaegencmnmjgbaaGreat
