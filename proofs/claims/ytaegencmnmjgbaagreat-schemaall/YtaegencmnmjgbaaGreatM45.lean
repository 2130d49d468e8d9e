/-
  The program's through of layer 7.
-/
import Derived.Test.YtaegencmnmjgbaaGreatM36
import Derived.Test.YtaegencmnmjgbaaGreatM15
import Derived.Deep.Cut

namespace Go.Proofs.YtaegencmnmjgbaaGreat
open Go.RowKit
set_option linter.unusedVariables false
set_option linter.unusedSimpArgs false
theorem ret_MBp {fn : Func} {p : Tmp} (hf : fn.results = #[.cell p 161]) {R : Ending → World → Prop} {a : Act} {w : World} {b : Nat} {m : Mv} (hp : a.tmps.getD p undef = .pointer (some ⟨b, 0, none⟩)) (hv : MB w b m 161)
    (hd : a.defers = []) (hR : R (.returned (mvV m)) w) : bodyPost Tryz.prog fn R .ret a w :=
  bodyPost_ret_by (results_cell_row hf a.tmps w b 161 _ (0, 0) _ hp hv Tryz.underlying161 rfl (by kernel_rfl)) hd hR
set_option maxRecDepth 20000 in
set_option maxHeartbeats 8000000 in
theorem p7thr_any {w : World} {va vb : Value} {a b : Tb} (ha : RdT w w.heap.size va a) (hb : RdT w w.heap.size vb b) (hra : rightT a = true) (hrb : rightT b = true) (hsame : a.nw = b.o) {j : Nat} {y : Mv} {f : Fd} (hy : b.mv[j]? = some y) (hf : b.nw[j]? = some f) :
    Calls Tryz.prog 140 #[va, vb, .int .i64 (j : Int)] w fun e w' => e = .returned (mvV (thrM a y f)) ∧ Below w.heap.size w w' := by
  obtain ⟨A, n, c, A2, n2, c2, A3, n3, c3, rfl, h1, h2, h3⟩ := ha
  obtain ⟨B, m, d, B2, m2, d2, B3', m3, d3, rfl, k1, k2, k3⟩ := hb
  have hj16 : j < 16 := by have := (List.getElem?_eq_some_iff.1 hf).1; have := right_len (rightT_iff.1 hrb).2.1; omega
  obtain ⟨w0, hw0⟩ : ∃ w0, w0 = ((w.alloc (.cells #[.slice A n c, .slice A2 n2 c2, .slice A3 n3 c3] 92)).alloc (.cells #[.slice B m d, .slice B2 m2 d2, .slice B3' m3 d3] 92)).alloc (.cells #[.int .i64 0, .int .i64 0, .int .u64 0, .string ⟨#[]⟩] 161) := ⟨_, rfl⟩
  have HW0 := hid hw0
  have HB0 : Hid (Below w.heap.size w w0) := by rw [hw0]; exact Ba (Ba (B1 _ _) _) _
  obtain ⟨ra, hra'⟩ : ∃ ra, ra = w.heap.size := ⟨_, rfl⟩
  obtain ⟨rb, hrb'⟩ : ∃ rb, rb = w.heap.size + 1 := ⟨_, rfl⟩
  obtain ⟨rz, hrz⟩ : ∃ rz, rz = w.heap.size + 1 + 1 := ⟨_, rfl⟩
  have HRA := hid hra'; have HRB := hid hrb'; have HRZ := hid hrz
  have HTA : Hid (TBx w0 ra (.slice A n c) (.slice A2 n2 c2) (.slice A3 n3 c3) 92) := by rw [hw0, hra']; exact ((tb_new w _ _ _ _).on (B1 _ _)).on (B1 _ _)
  have HTB : Hid (TBx w0 rb (.slice B m d) (.slice B2 m2 d2) (.slice B3' m3 d3) 92) := by
    rw [hw0, hrb', ← World.size_alloc w (.cells #[.slice A n c, .slice A2 n2 c2, .slice A3 n3 c3] 92)]; exact (tb_new _ _ _ _ _).on (B1 _ _)
  have HTZ : Hid (MB w0 rz ⟨0, 0, 0, ⟨#[]⟩⟩ 161) := by
    have e : rz = ((w.alloc (.cells #[.slice A n c, .slice A2 n2 c2, .slice A3 n3 c3] 92)).alloc (.cells #[.slice B m d, .slice B2 m2 d2, .slice B3' m3 d3] 92)).heap.size := by rw [hrz]; simp
    rw [hw0, e]; exact mb_new _ ⟨0, 0, 0, ⟨#[]⟩⟩ _
  have HZW : Hid (w.heap.size ≤ rz ∧ rz < w0.heap.size) := hid ⟨by omega, HTZ.out.lt⟩
  have H1 := hid (h1.on HB0.out); have H2 := hid (h2.on HB0.out); have H3 := hid (h3.on HB0.out)
  have K1 := hid (k1.on HB0.out); have K2 := hid (k2.on HB0.out); have K3 := hid (k3.on HB0.out)
  have HSAME := hid hsame
  have HMV := hid (mvB_from ((rightT_iff.1 hrb).2.2.2 j y f hy hf))
  have HRTA := hid hra
  obtain ⟨hjm3, hf64, hk64, hnu, bb, off, rfl, hc⟩ := K3.out.at hy
  obtain ⟨hjm2, hfk, hfg, hfn, b2', off2, rfl, hc2⟩ := K2.out.at hf
  have HC2 := hid hc2
  obtain ⟨d0, d1, d2', d3'⟩ := hc w0 (B0 _)
  have hji : (j : Int) < m3 := by omega
  have hji2 : (j : Int) < m2 := by omega
  have hj0 : (0 : Int) ≤ j := by omega
  obtain ⟨p, hp⟩ : ∃ p, p = w0.heap.size := ⟨_, rfl⟩
  obtain ⟨W1, hW1⟩ : ∃ W1, W1 = w0.alloc (.cells #[.int .i64 y.fr, .int .i64 y.k, .int .u64 y.n, .string y.t] 161) := ⟨_, rfl⟩
  have HP := hid hp; have HW1 := hid hW1
  have HMB1 : Hid (MB W1 p y 161) := by rw [hW1, hp]; exact hid (mb_new _ _ _)
  have HB1 : Hid (Below w0.heap.size w0 W1) := by rw [hW1]; exact hid (B1 _ _)
  have HS1 : Hid (W1.heap.size = p + 1) := by rw [hW1, hp]; exact hid (World.size_alloc _ _)
  clear h1 h2 h3 k1 k2 k3 hw0 hra' hrb' hrz hsame hra hrb hc hc2 hy hf hp hW1
  obtain ⟨a0, a1, a2⟩ := (HTA.out.on (B0 w0)).cells
  obtain ⟨b0, b1, b2⟩ := (HTB.out.on (B0 w0)).cells
  obtain ⟨z0, z1, z2, z3⟩ := (HTZ.out.on (B0 w0)).cells
  have fz0 := (HTZ.out.on (B0 w0)).frozen 0; have fz1 := (HTZ.out.on (B0 w0)).frozen 1; have fz2 := (HTZ.out.on (B0 w0)).frozen 2; have fz3 := (HTZ.out.on (B0 w0)).frozen 3
  go_enter Tryz.func140, Tryz.ntmps140
  go_upto_region 1 with fail
  rw [← HW0.out, ← HRZ.out, ← HRB.out, ← HRA.out]
  go_upto_region 2 with fail
  rw [← HW1.out, ← HP.out]
  clear d0 d1 d2' d3'
  clear a0 a1 a2 b0 b1 b2 z0 z1 z2 z3 fz0 fz1 fz2 fz3
  obtain ⟨a0, a1, a2⟩ := (HTA.out.on HB1.out).cells
  obtain ⟨b0, b1, b2⟩ := (HTB.out.on HB1.out).cells
  obtain ⟨z0, z1, z2, z3⟩ := (HTZ.out.on HB1.out).cells
  have fz0 := (HTZ.out.on HB1.out).frozen 0; have fz1 := (HTZ.out.on HB1.out).frozen 1; have fz2 := (HTZ.out.on HB1.out).frozen 2; have fz3 := (HTZ.out.on HB1.out).frozen 3
  obtain ⟨g0, g1, g2, g3⟩ := HMB1.out.cells
  by_cases hfr : 0 ≤ y.fr
  · have t0 : (y.fr == -1) = false := by simp; omega
    obtain ⟨gg, hgg⟩ : ∃ gg, b.o[y.fr.toNat]? = some gg := by
      rcases HMV.out with h | ⟨g, _, hg, _⟩
      · omega
      · exact ⟨g, hg⟩
    have HGG : Hid (a.nw[y.fr.toNat]? = some gg) := by rw [HSAME.out]; exact hid hgg
    have hyl : y.fr.toNat < a.nw.length := (List.getElem?_eq_some_iff.1 HGG.out).1
    obtain ⟨x, hx⟩ : ∃ x, a.mv[y.fr.toNat]? = some x := ⟨_, List.getElem?_eq_getElem (by have := (rightT_iff.1 HRTA.out).2.2.1; omega)⟩
    obtain ⟨hx1, xf64, xk64, xnu, xb, xoff, rfl, xc⟩ := H3.out.at hx
    obtain ⟨hg1, _, _, _, gb, goff, rfl, gc⟩ := H2.out.at HGG.out
    have HGC := hid gc
    have hxi : y.fr < (n3 : Int) := by omega
    have hgi : y.fr < (n2 : Int) := by omega
    have hxn : (y.fr.toNat : Int) = y.fr := Int.toNat_of_nonneg hfr
    obtain ⟨d0, d1, d2', d3'⟩ := xc W1 HB1.out
    have HX := hid hx
    obtain ⟨p2, hp2⟩ : ∃ p2, p2 = W1.heap.size := ⟨_, rfl⟩
    obtain ⟨W2, hW2⟩ : ∃ W2, W2 = W1.alloc (.cells #[.int .i64 x.fr, .int .i64 x.k, .int .u64 x.n, .string x.t] 161) := ⟨_, rfl⟩
    have HP2 := hid hp2; have HW2 := hid hW2
    have HMB2 : Hid (MB W2 p2 x 161 ∧ MB W2 p y 161) := by rw [hW2, hp2]; exact hid ⟨mb_new _ _ _, HMB1.out.on (B1 _ _)⟩
    have HB2 : Hid (Below w0.heap.size w0 W2) := by rw [hW2]; exact hid (Ba HB1.out _)
    have HPQ : Hid (p < p2) := hid (by rw [hp2, HS1.out]; omega)
    have HPP : Hid (rz < p2 ∧ w0.heap.size ≤ p2) := hid ⟨by have := HZW.out.2; have := HB1.out.size; omega, by rw [hp2]; exact HB1.out.size⟩
    clear xc gc hx hp2 hW2 hgg hyl hx1 hg1
    go_upto_region 5 with fail
    rw [← HW2.out, ← HP2.out]
    clear d0 d1 d2' d3' g0 g1 g2 g3
    clear a0 a1 a2 b0 b1 b2 z0 z1 z2 z3 fz0 fz1 fz2 fz3
    obtain ⟨a0, a1, a2⟩ := (HTA.out.on HB2.out).cells
    obtain ⟨b0, b1, b2⟩ := (HTB.out.on HB2.out).cells
    obtain ⟨z0, z1, z2, z3⟩ := (HTZ.out.on HB2.out).cells
    have fz0 := (HTZ.out.on HB2.out).frozen 0; have fz1 := (HTZ.out.on HB2.out).frozen 1; have fz2 := (HTZ.out.on HB2.out).frozen 2; have fz3 := (HTZ.out.on HB2.out).frozen 3
    obtain ⟨g0, g1, g2, g3⟩ := HMB2.out.1.cells
    by_cases xfr : 0 ≤ x.fr
    · have t1 : (x.fr == -1) = false := by simp; omega
      have HZ : Hid (x = thrM a y f) := hid (by unfold thrM; rw [if_pos hfr]; simp only [HX.out, HGG.out]; rw [if_pos xfr])
      go_wp2_with fail
      exact ret_MBp (by rfl) (by rfl) ((HTZ.out.on HB2.out).set4 x) (by rfl) ⟨by rw [← HZ.out], B4 (Bt HB0.out HB2.out) HZW.out.1 _ _ _ _⟩
    · have HMX := hid (mvB_from ((rightT_iff.1 HRTA.out).2.2.2 _ x gg HX.out HGG.out))
      have hx1 : x.fr = -1 := by
        rcases HMX.out with h | ⟨g, h, _⟩
        · exact h
        · omega
      have t1 : (x.fr == -1) = true := by simpa using hx1
      have HXR : Hid (rightF x.k x.n x.t.size gg.k gg.g = true) := by
        have hh := (rightT_iff.1 HRTA.out).2.2.2 _ x gg HX.out HGG.out
        rw [mvB_new hx1, Bool.and_eq_true] at hh
        exact hid hh.1
      have HCS : Hid (castsF gg.k gg.g f.k f.g = true) := by
        rcases HMV.out with h | ⟨g, _, hg, _, hc⟩
        · omega
        · have := HGG.out; rw [HSAME.out, hg] at this; cases this; exact hid hc
      have HCR : Hid (castR x.k x.n x.t gg.k gg.g f.k f.g = _) := hid (castR_ok HXR.out HCS.out)
      have HZ : Hid ((⟨x.fr, f.k, castN x.n gg.k f.k, castT x.t f.k f.g⟩ : Mv) = thrM a y f) := hid (by unfold thrM; rw [if_pos hfr]; simp only [HX.out, HGG.out]; rw [if_neg xfr])
      clear hx1
      go_upto_region 6 with fail
      clear g0 g1 g2 g3
      clear a0 a1 a2 b0 b1 b2 z0 z1 z2 z3 fz0 fz1 fz2 fz3
      obtain ⟨cn, hcn⟩ : ∃ cn, cn = castN x.n gg.k f.k := ⟨_, rfl⟩
      obtain ⟨ct, hct⟩ : ∃ ct, ct = castT x.t f.k f.g := ⟨_, rfl⟩
      rw [← hcn, ← hct] at HZ HCR
      clear hcn hct
      refine reg_beginB p2 (by kernel_rfl) (fun w0c hh0c hx0c hHeld => ?_)
      have s0 : ∀ w', ExB p2 w0c w' → Below w0.heap.size w0 w' := fun w' h => HB2.out.trans ((hx0c.trans h).mono HPP.out.2)
      have s1 := fun w' h => (HTA.out.on (s0 w' h)).cells.2.1
      have s2 := fun w' h => (HTB.out.on (s0 w' h)).cells.2.1
      have v0 : ∀ w', ExB p2 w0c w' → MB w' p y 161 := fun w' h => HMB2.out.2.below (hx0c.trans h) HPQ.out
      have v1 := fun w' h => (v0 w' h).cells.1
      have o1 := fun w' h => (HGC.out w' (s0 w' h)).1
      have o2 := fun w' h => (HGC.out w' (s0 w' h)).2.1
      have o3 := fun w' h => (HGC.out w' (s0 w' h)).2.2
      have y1 := fun w' h => (HC2.out w' (s0 w' h)).1
      have y2 := fun w' h => (HC2.out w' (s0 w' h)).2.1
      have y3 := fun w' h => (HC2.out w' (s0 w' h)).2.2
      have HXC : Hid (MB w0c p2 x 161) := hid (by unfold MB; rw [hh0c.out]; exact HMB2.out.1)
      obtain ⟨x0, x1, x2, x3⟩ := HXC.out.cells
      clear v0
      refine reg_takeB 0 (v := ?vy1_0) at0 (by kernel_rfl) (by kernel_rfl) (by kernel_rfl) (by rfl) ?hyy1_0 hHeld ?resty1_0
      case hyy1_0 => (intro w' hSw; go_simp; try with_reducible rfl)
      try simp only [Act.put, List.setIfInBounds_toArray, List.set_cons_zero, List.set_cons_succ]
      refine reg_takeB 2 (v := ?vy2_2) (atS (atS at0)) (by kernel_rfl) (by kernel_rfl) (by kernel_rfl) (by rfl) ?hyy2_2 hHeld ?resty2_2
      case hyy2_2 => (intro w' hSw; go_simp; try with_reducible rfl)
      try simp only [Act.put, List.setIfInBounds_toArray, List.set_cons_zero, List.set_cons_succ]
      refine reg_takeB 3 (v := ?vy3_3) (atS (atS (atS at0))) (by kernel_rfl) (by kernel_rfl) (by kernel_rfl) (by rfl) ?hyy3_3 hHeld ?resty3_3
      case hyy3_3 => (intro w' hSw; go_simp; try with_reducible rfl)
      try simp only [Act.put, List.setIfInBounds_toArray, List.set_cons_zero, List.set_cons_succ]
      refine reg_takeB 4 (v := ?vy4_4) (atS (atS (atS (atS at0)))) (by kernel_rfl) (by kernel_rfl) (by kernel_rfl) (by rfl) ?hyy4_4 hHeld ?resty4_4
      case hyy4_4 => (intro w' hSw; go_simp; try with_reducible rfl)
      try simp only [Act.put, List.setIfInBounds_toArray, List.set_cons_zero, List.set_cons_succ]
      refine reg_takeB 5 (v := ?vy5_5) (atS5 at0) (by kernel_rfl) (by kernel_rfl) (by kernel_rfl) (by rfl) ?hyy5_5 hHeld ?resty5_5
      case hyy5_5 => (intro w' hSw; go_simp; try with_reducible rfl)
      try simp only [Act.put, List.setIfInBounds_toArray, List.set_cons_zero, List.set_cons_succ]
      refine reg_takeB 6 (v := ?vy6_6) (atS5 (atS at0)) (by kernel_rfl) (by kernel_rfl) (by kernel_rfl) (by rfl) ?hyy6_6 hHeld ?resty6_6
      case hyy6_6 => (intro w' hSw; go_simp; try with_reducible rfl)
      try simp only [Act.put, List.setIfInBounds_toArray, List.set_cons_zero, List.set_cons_succ]
      refine reg_takeB 7 (v := ?vy7_7) (atS5 (atS (atS at0))) (by kernel_rfl) (by kernel_rfl) (by kernel_rfl) (by rfl) ?hyy7_7 hHeld ?resty7_7
      case hyy7_7 => (intro w' hSw; go_simp; try with_reducible rfl)
      try simp only [Act.put, List.setIfInBounds_toArray, List.set_cons_zero, List.set_cons_succ]
      refine reg_takeB 8 (v := ?vy8_8) (atS5 (atS (atS (atS at0)))) (by kernel_rfl) (by kernel_rfl) (by kernel_rfl) (by rfl) ?hyy8_8 hHeld ?resty8_8
      case hyy8_8 => (intro w' hSw; go_simp; try with_reducible rfl)
      try simp only [Act.put, List.setIfInBounds_toArray, List.set_cons_zero, List.set_cons_succ]
      refine reg_takeB 9 (v := ?vy9_9) (atS5 (atS (atS (atS (atS at0))))) (by kernel_rfl) (by kernel_rfl) (by kernel_rfl) (by rfl) ?hyy9_9 hHeld ?resty9_9
      case hyy9_9 => (intro w' hSw; go_simp; try with_reducible rfl)
      try simp only [Act.put, List.setIfInBounds_toArray, List.set_cons_zero, List.set_cons_succ]
      refine reg_takeB 10 (v := ?vy10_10) (atS5 (atS5 at0)) (by kernel_rfl) (by kernel_rfl) (by kernel_rfl) (by rfl) ?hyy10_10 hHeld ?resty10_10
      case hyy10_10 => (intro w' hSw; go_simp; try with_reducible rfl)
      try simp only [Act.put, List.setIfInBounds_toArray, List.set_cons_zero, List.set_cons_succ]
      refine reg_takeB 11 (v := ?vy11_11) (atS5 (atS5 (atS at0))) (by kernel_rfl) (by kernel_rfl) (by kernel_rfl) (by rfl) ?hyy11_11 hHeld ?resty11_11
      case hyy11_11 => (intro w' hSw; go_simp; try with_reducible rfl)
      try simp only [Act.put, List.setIfInBounds_toArray, List.set_cons_zero, List.set_cons_succ]
      refine reg_takeB 12 (v := ?vy12_12) (atS5 (atS5 (atS (atS at0)))) (by kernel_rfl) (by kernel_rfl) (by kernel_rfl) (by rfl) ?hyy12_12 hHeld ?resty12_12
      case hyy12_12 => (intro w' hSw; go_simp; try with_reducible rfl)
      try simp only [Act.put, List.setIfInBounds_toArray, List.set_cons_zero, List.set_cons_succ]
      refine wpAnyH_ready (rs := [1]) (by kernel_rfl) (by simp) ?_
      refine AllReadyH.cons (atS at0) (fun K hK => ?_) AllReadyH.nil
      go_simp
      go_simp
      go_wp2_with fail
      refine hK.out _ _ hHeld (fun hHeld => ?_)
      clear hK K
      try simp only [Act.put, List.setIfInBounds_toArray, List.set_cons_zero, List.set_cons_succ]
      refine wpAnyH_ready (rs := [13]) (by kernel_rfl) (by simp) ?_
      refine AllReadyH.cons (atS5 (atS5 (atS (atS (atS at0))))) (fun K hK => ?_) AllReadyH.nil
      go_simp
      refine (kcast_any x.k x.n x.t (bs gg.nm) (bs f.nm) gg.k gg.g f.k f.g _ xnu).mono ?_
      rintro e w13c ⟨rfl, hb6⟩
      rw [HCR.out]
      have HB6 := hid hb6
      have HX6 := hid (HXC.out.on hb6)
      have xf1 := HX6.out.frozen 1; have xf2 := HX6.out.frozen 2; have xf3 := HX6.out.frozen 3
      clear x0 x1 x2 x3
      obtain ⟨x0, x1, x2, x3⟩ := HX6.out.cells
      clear hb6
      go_wp2_with fail
      refine hK.out _ _ (Below.mono HB6.out (Nat.le_of_lt HXC.out.lt)) (fun hHeld => ?_)
      clear hK K
      try simp only [Act.put, List.setIfInBounds_toArray, List.set_cons_zero, List.set_cons_succ]
      refine reg_takeB 14 (v := ?vy13_14) (atS5 (atS5 (atS (atS (atS (atS at0)))))) (by kernel_rfl) (by kernel_rfl) (by kernel_rfl) (by rfl) ?hyy13_14 hHeld ?resty13_14
      case hyy13_14 => (intro w' hSw; go_simp; try with_reducible rfl)
      try simp only [Act.put, List.setIfInBounds_toArray, List.set_cons_zero, List.set_cons_succ]
      refine reg_takeB 15 (v := ?vy14_15) (atS5 (atS5 (atS5 at0))) (by kernel_rfl) (by kernel_rfl) (by kernel_rfl) (by rfl) ?hyy14_15 hHeld ?resty14_15
      case hyy14_15 => (intro w' hSw; go_simp; try with_reducible rfl)
      try simp only [Act.put, List.setIfInBounds_toArray, List.set_cons_zero, List.set_cons_succ]
      refine reg_takeB 16 (v := ?vy15_16) (atS5 (atS5 (atS5 (atS at0)))) (by kernel_rfl) (by kernel_rfl) (by kernel_rfl) (by rfl) ?hyy15_16 hHeld ?resty15_16
      case hyy15_16 => (intro w' hSw; go_simp; try with_reducible rfl)
      try simp only [Act.put, List.setIfInBounds_toArray, List.set_cons_zero, List.set_cons_succ]
      refine reg_takeB 17 (v := ?vy16_17) (atS5 (atS5 (atS5 (atS (atS at0))))) (by kernel_rfl) (by kernel_rfl) (by kernel_rfl) (by rfl) ?hyy16_17 hHeld ?resty16_17
      case hyy16_17 => (intro w' hSw; go_simp; try with_reducible rfl)
      try simp only [Act.put, List.setIfInBounds_toArray, List.set_cons_zero, List.set_cons_succ]
      refine wpAnyH_ready (rs := [18]) (by kernel_rfl) (by simp) ?_
      refine AllReadyH.cons (atS5 (atS5 (atS5 (atS (atS (atS at0)))))) (fun K hK => ?_) AllReadyH.nil
      go_simp
      go_simp
      go_wp2_with fail
      refine hK.out _ _ (B3' (Below.mono HB6.out (Nat.le_of_lt HXC.out.lt)) (Nat.le_refl _) _ _ _) (fun hHeld => ?_)
      clear hK K
      try simp only [Act.put]
      refine wpAnyH_done (by kernel_rfl) ?_ _
      refine NoPanic.normal ?_
      obtain ⟨W7, hW7⟩ : ∃ W7, W7 = ((w13c.setCell ⟨p2, 1, none⟩ (.int .i64 f.k)).setCell ⟨p2, 2, none⟩ (.int .u64 cn)).setCell ⟨p2, 3, none⟩ (.string ct) := ⟨_, rfl⟩
      rw [← hW7]
      have HB7 : Hid (Below w0.heap.size w0 W7) := hid (s0 W7 (by rw [hW7]; exact hHeld))
      have HX7 : Hid (MB W7 p2 ⟨x.fr, f.k, cn, ct⟩ 161) := by rw [hW7]; exact hid (HX6.out.set3 f.k cn ct)
      clear hW7 s0 s1 s2 v1 o1 o2 o3 y1 y2 y3 x0 x1 x2 x3 xf1 xf2 xf3
      obtain ⟨a0, a1, a2⟩ := (HTA.out.on HB7.out).cells
      obtain ⟨b0, b1, b2⟩ := (HTB.out.on HB7.out).cells
      obtain ⟨z0, z1, z2, z3⟩ := (HTZ.out.on HB7.out).cells
      have fz0 := (HTZ.out.on HB7.out).frozen 0; have fz1 := (HTZ.out.on HB7.out).frozen 1; have fz2 := (HTZ.out.on HB7.out).frozen 2; have fz3 := (HTZ.out.on HB7.out).frozen 3
      obtain ⟨g0, g1, g2, g3⟩ := HX7.out.cells
      go_wp2_with fail
      exact ret_MBp (by rfl) (by rfl) ((HTZ.out.on HB7.out).set4 ⟨x.fr, f.k, cn, ct⟩) (by rfl) ⟨by rw [← HZ.out], B4 (Bt HB0.out HB7.out) HZW.out.1 _ _ _ _⟩
  · have t0 : (y.fr == -1) = true := by
      rcases HMV.out with h | ⟨g, h, _⟩
      · simpa using h
      · omega
    have HZ : Hid (y = thrM a y f) := hid (by unfold thrM; rw [if_neg hfr])
    go_wp2_with fail
    exact ret_MBp (by rfl) (by rfl) ((HTZ.out.on HB1.out).set4 y) (by rfl) ⟨by rw [← HZ.out], B4 (Bt HB0.out HB1.out) HZW.out.1 _ _ _ _⟩
end Go.Proofs.YtaegencmnmjgbaaGreat
