/-
  The program's Check, value and Apply of layer 7, of any bytes.
-/
import Derived.Test.YtaegencmnmjgbaaGreatM62
import Derived.Test.YtaegencmnmjgbaaGreatM48

namespace Go.Proofs.YtaegencmnmjgbaaGreat
open Go.RowKit
set_option linter.unusedVariables false
set_option linter.unusedSimpArgs false
set_option maxRecDepth 20000 in
set_option maxHeartbeats 8000000 in
theorem p7checkq_any {w : World} {A : Option Addr} {n c : Nat} {l : List Fd} (h : RdF w w.heap.size A n c l) (hr : rightL l = true) {A2 : Option Addr} {n2 c2 : Nat} {s : List UInt8} (h2 : Rd w w.heap.size A2 n2 c2 s) (hn2 : n2 ≤ 100000) :
    Calls Tryz.prog 54 #[.slice A2 n2 c2, .slice A n c] w fun e w' => e = .returned (.bool (okO s l)) ∧ Below w.heap.size w w' := by
  obtain ⟨T, hT⟩ : ∃ T : Int, T = layT l := ⟨_, rfl⟩
  have hn16 : (n : Int) ≤ 16 := by have := right_len hr; have := h.1; omega
  have HTN : Hid (T = layN l) := hid (by rw [hT, layT_right hr])
  have HT := hid hT
  have HSL : Hid (s.length = n2) := hid h2.1
  have HL := hid h.1
  have H := hid h; have HS := hid (right_short hr); have H2 := hid h2; have HR := hid hr
  clear h hr h2 hT
  go_enter Tryz.func54, Tryz.ntmps54
  go_wp2_with fail
  refine (p6layout_any H.out HS.out).mono ?_
  rintro e w1 ⟨v1, rfl, ho1, hb1⟩
  rw [← HT.out]
  obtain ⟨A3, n3, c3, rfl⟩ := ho1.shape
  have HB1 := hid hb1
  clear ho1 hb1
  by_cases hle : ¬ (n2 : Int) = T
  · have hlen := hle
    clear hle
    have t1 : ((n2 : Int) != T) = true := by simpa using hlen
    have HE : Hid (okO s l = false) := hid (okO_short (fun e => hlen (by rw [← HSL.out, e, HTN.out])))
    clear hlen
    go_wp2_with fail
    go_ret
    exact ⟨by rw [HE.out]; rfl, HB1.out⟩
  have hlen : (n2 : Int) = T := Classical.byContradiction hle
  clear hle
  have HLEN : Hid ((s.length : Int) = layN l) := hid (by rw [HSL.out, hlen, HTN.out])
  have t1 : ((n2 : Int) != T) = false := by simpa using hlen
  clear hlen
  go_wp2_with fail
  go_loopw [22] (fun i wr => ∃ j : Nat, j ≤ n ∧ i = .int .i64 j ∧ Hid (∀ (x : Nat) f p, x < j → l[x]? = some f → (layP 0 l)[x]? = some p → decB (cutF s f p) f.k f.g = true) ∧ Hid (Below w.heap.size w wr)) (fun i _ => n - (intOf i).toNat)
  case atStart => exact ⟨0, by omega, rfl, hid (fun x _ _ hx => absurd hx (by omega)), HB1⟩
  case round =>
    obtain ⟨j, hj, rfl, HG, HB⟩ := hrel
    by_cases hlt : j < n
    · obtain ⟨f, hf⟩ : ∃ f, l[j]? = some f := ⟨_, List.getElem?_eq_getElem (by have := HL.out; omega)⟩
      obtain ⟨pl, hpl⟩ : ∃ pl, (layP 0 l)[j]? = some pl := ⟨_, layP_get hf 0⟩
      have HGE : Hid (getR s l f.nm = decR (cutF s f pl) f.k f.g) := hid (getR_some ⟨HR.out, HLEN.out⟩ ((rightL_iff.1 HR.out).2 j f hf).2.2 hf hpl)
      have HFX := hid hf; have HPX := hid hpl
      obtain ⟨_, _, _, _, b, off, rfl, hc⟩ := H.out.at hf
      obtain ⟨c0, cc1, cc2⟩ := hc wr HB.out
      have hji : (j : Int) < n := by omega
      have hj0 : (0 : Int) ≤ j := by omega
      obtain ⟨p, hp⟩ : ∃ p, p = wr.heap.size := ⟨_, rfl⟩
      obtain ⟨w3, hw3⟩ : ∃ w3, w3 = wr.alloc (.cells #[.string (bs f.nm), .int .i64 f.k, .int .i64 f.g] 68) := ⟨_, rfl⟩
      have HP := hid hp; have HW3 := hid hw3
      have HFB : Hid (FB w3 p (bs f.nm) f.k f.g) := by rw [hw3, hp]; exact hid (fb_new wr _ _ _)
      have HB3 : Hid (Below w.heap.size w w3) := by rw [hw3]; exact hid (Ba HB.out _)
      clear hc hf hp hw3 hpl
      go_upto_region 7 with fail
      rw [← HW3.out, ← HP.out]
      clear c0 cc1 cc2
      obtain ⟨f0, f1, f2⟩ := HFB.out.cells
      go_wp2_with fail
      refine (p6get_any (H.out.on HB3.out) HS.out (H2.out.on HB3.out) hn2 f.nm).mono ?_
      rintro e w4 ⟨rfl, hb4⟩
      rw [HGE.out]
      have HB4 := hid (Bt HB3.out hb4)
      clear hb4 f0 f1 f2
      cases hd : decB (cutF s f pl) f.k f.g with
      | false =>
        rw [decR_no hd]
        have HE : Hid (okO s l = false) := hid (okO_no HFX.out HPX.out hd)
        clear hd
        go_wp2_with fail
        go_ret
        exact ⟨by rw [HE.out]; rfl, Ba HB4.out _⟩
      | true =>
        rw [decR_ok hd]
        have HD := hid hd
        clear hd
        go_wp2_with fail
        exact ⟨⟨j + 1, by omega, by go_num, hid (fun (x : Nat) (g : Fd) (q : Int) hx hg hq => by
          by_cases e : x = j
          · subst e
            have e1 := HFX.out; have e2 := HPX.out
            rw [hg] at e1; rw [hq] at e2
            cases e1; cases e2
            exact HD.out
          · exact HG.out x g q (by omega) hg hq), hid (Ba HB4.out _)⟩, by simp [intOf]; omega⟩
    · have hji : ¬ ((j : Int) < n) := by omega
      have HE : Hid (okO s l = true) := hid (okO_yes HLEN.out (fun i f p hf hp => HG.out i f p (by have := (List.getElem?_eq_some_iff.1 hf).1; have := HL.out; omega) hf hp))
      go_wp2_with fail
      go_ret
      exact ⟨by rw [HE.out]; rfl, HB.out⟩
set_option maxRecDepth 20000 in
set_option maxHeartbeats 12000000 in
theorem p7valueg_any {w : World} {v : Value} {T : Tb} (h : RdT w w.heap.size v T) (hT : rightT T = true) {vs : List Va} (hv : okV T.o vs) {A2 : Option Addr} {n2 c2 : Nat} {s : List UInt8} (h2 : Rd w w.heap.size A2 n2 c2 s) (hlen : (s.length : Int) = layN T.o) (hs : GotV s T.o vs) {i : Nat} {m : Mv} {f : Fd} (hm : T.mv[i]? = some m) (hf : T.nw[i]? = some f) :
    Calls Tryz.prog 93 #[v, .int .i64 (i : Int), .slice A2 n2 c2] w fun e w' => e = .returned (vlV (valF T.o vs m f).k (valF T.o vs m f).n (valF T.o vs m f).t) ∧ Below w.heap.size w w' := by
  obtain ⟨A, n, c, B, m2, d2, C, m3, d3, rfl, h1, hn, hmv⟩ := h
  have hro := (rightT_iff.1 hT).1
  have hn2 : (n2 : Int) ≤ 1160 := by have := layN_bounds hro; have := h2.1; omega
  obtain ⟨w0, hw0⟩ : ∃ w0, w0 = (w.alloc (.cells #[.slice A n c, .slice B m2 d2, .slice C m3 d3] 92)).alloc (.cells #[.int .i64 0, .int .u64 0, .string ⟨#[]⟩] 71) := ⟨_, rfl⟩
  obtain ⟨r, hr⟩ : ∃ r, r = w.heap.size := ⟨_, rfl⟩
  obtain ⟨rz, hrz⟩ : ∃ rz, rz = w.heap.size + 1 := ⟨_, rfl⟩
  have HW0 := hid hw0; have HR := hid hr; have HRZ := hid hrz
  have HB0 : Hid (Below w.heap.size w w0) := by rw [hw0]; exact hid (Ba (B1 _ _) _)
  have HT0 : Hid (TBx w0 r (.slice A n c) (.slice B m2 d2) (.slice C m3 d3) 92) := by rw [hw0, hr]; exact hid ((tb_new w _ _ _ _).on (B1 _ _))
  have HZ0 : Hid (VB w0 rz 0 0 ⟨#[]⟩) := by rw [hw0, hrz, ← World.size_alloc w (.cells #[.slice A n c, .slice B m2 d2, .slice C m3 d3] 92)]; exact hid (vb_new _ _ _ _)
  have HZB : Hid (w.heap.size ≤ rz ∧ rz < w0.heap.size) := hid ⟨by omega, HZ0.out.lt⟩
  have H1 := hid (h1.on HB0.out); have HN := hid (hn.on HB0.out); have HM := hid (hmv.on HB0.out); have H2 := hid (h2.on HB0.out)
  have HRT := hid hT; have HV := hid hv; have HSE := hid hs; have HRO := hid hro
  have HFR := hid (mvB_from ((rightT_iff.1 hT).2.2.2 i m f hm hf))
  have HU : Hid (U64 m.n) := hid (hmv.2.2.2.1 m (List.mem_of_getElem? hm)).2.2
  have HLO : Hid (T.o.length = n) := hid h1.1
  obtain ⟨him, _, _, _, mb, mo, rfl, hmc⟩ := HM.out.at hm
  obtain ⟨hif, _, _, _, fb, fo, rfl, hfc⟩ := HN.out.at hf
  obtain ⟨d0, d1, d2', d3'⟩ := hmc w0 (B0 _)
  have HFC := hid hfc
  have hi3 : (i : Int) < m3 := by omega
  have hi2 : (i : Int) < m2 := by omega
  have hi0 : (0 : Int) ≤ i := by omega
  obtain ⟨p, hp⟩ : ∃ p, p = w0.heap.size := ⟨_, rfl⟩
  obtain ⟨w1, hw1⟩ : ∃ w1, w1 = w0.alloc (.cells #[.int .i64 m.fr, .int .i64 m.k, .int .u64 m.n, .string m.t] 161) := ⟨_, rfl⟩
  have HP := hid hp; have HW1 := hid hw1
  have HMB : Hid (MB w1 p m 161) := by rw [hw1, hp]; exact hid (mb_new _ _ _)
  have HB1 : Hid (Below w0.heap.size w0 w1) := by rw [hw1]; exact hid (B1 _ _)
  clear h1 hn hmv h2 hT hv hs hro hm hf hmc hfc hw0 hr hrz hp hw1 hlen
  obtain ⟨a0, a1, a2⟩ := (HT0.out.on (B0 w0)).cells
  go_enter Tryz.func93, Tryz.ntmps93
  go_upto_region 1 with fail
  rw [← HW0.out, ← HRZ.out, ← HR.out]
  go_upto_region 2 with fail
  rw [← HW1.out, ← HP.out]
  clear d0 d1 d2' d3' a0 a1 a2
  obtain ⟨q0, q1, q2, q3⟩ := HMB.out.cells
  obtain ⟨a0, a1, a2⟩ := (HT0.out.on HB1.out).cells
  by_cases hfr : m.fr = -1
  · have t1 : (m.fr == -1) = true := by simpa using hfr
    have HE : Hid (valF T.o vs m f = ⟨m.k, m.n, m.t⟩) := hid (by unfold valF; rw [if_pos hfr])
    have HZ1 := hid (HZ0.out.on HB1.out)
    obtain ⟨z0, z1, z2⟩ := HZ1.out.cells
    have y0 := HZ1.out.frozen 0; have y1 := HZ1.out.frozen 1; have y2 := HZ1.out.frozen 2
    clear hfr
    go_wp2_with fail
    exact ret_VLp (by rfl) (by rfl) (HZ1.out.set3 m.k m.n m.t) (by rfl) ⟨by rw [HE.out], B3 (Bt HB0.out HB1.out) HZB.out.1 _ _ _⟩
  · have t1 : (m.fr == -1) = false := by simpa using hfr
    obtain ⟨g, h0, hg, hc⟩ : ∃ g, 0 ≤ m.fr ∧ T.o[m.fr.toNat]? = some g ∧ castsF g.k g.g f.k f.g = true := by
      rcases HFR.out with e | ⟨g, a, b, _, d⟩
      · exact absurd e hfr
      · exact ⟨g, a, b, d⟩
    obtain ⟨u, hu, hur, hun⟩ := HV.out.at hg
    have HGT : Hid (getR s T.o g.nm = .tuple #[.agg #[.int .i64 u.k, .int .u64 u.n, .string u.t], .int .i64 0]) := hid (HSE.out _ g u hg hu)
    have HE : Hid (valF T.o vs m f = ⟨f.k, castN u.n g.k f.k, castT u.t f.k f.g⟩) := hid (by unfold valF; rw [if_neg hfr, hu, hg])
    have HCR : Hid (castR u.k u.n u.t g.k g.g f.k f.g = _) := hid (castR_ok hur hc)
    have HUN := hid hun
    obtain ⟨hgn, _, _, _, gb, go, rfl, hgc⟩ := H1.out.at hg
    obtain ⟨g0, g1, g2⟩ := hgc w1 HB1.out
    have hxn : ((m.fr.toNat : Nat) : Int) = m.fr := Int.toNat_of_nonneg h0
    have hmfr : m.fr < (n : Int) := by omega
    obtain ⟨pf, hpf⟩ : ∃ pf, pf = w1.heap.size := ⟨_, rfl⟩
    obtain ⟨w2, hw2⟩ : ∃ w2, w2 = w1.alloc (.cells #[.string (bs g.nm), .int .i64 g.k, .int .i64 g.g] 68) := ⟨_, rfl⟩
    have HPF := hid hpf; have HW2 := hid hw2
    have HF2 : Hid (FB w2 pf (bs g.nm) g.k g.g) := by rw [hw2, hpf]; exact hid (fb_new w1 _ _ _)
    have HB2 : Hid (Below w0.heap.size w0 w2) := by rw [hw2]; exact hid (Ba HB1.out _)
    have HMB2 : Hid (MB w2 p m 161) := by rw [hw2]; exact hid (HMB.out.on (B1 _ _))
    clear hfr hg hc hu hur hun hgc hpf hw2
    go_upto_region 5 with fail
    rw [← HW2.out, ← HPF.out]
    clear q0 q1 q2 q3 a0 a1 a2 g0 g1 g2
    obtain ⟨a0, a1, a2⟩ := (HT0.out.on HB2.out).cells
    obtain ⟨f0, f1, f2⟩ := HF2.out.cells
    go_wp2_with fail
    refine (p6get_any (H1.out.on HB2.out) (right_short HRO.out) (H2.out.on HB2.out) (by omega) g.nm).mono ?_
    rintro e w3 ⟨rfl, hb3⟩
    rw [HGT.out]
    obtain ⟨pv, hpv⟩ : ∃ pv, pv = w3.heap.size := ⟨_, rfl⟩
    obtain ⟨w4, hw4⟩ : ∃ w4, w4 = w3.alloc (.cells #[.int .i64 u.k, .int .u64 u.n, .string u.t] 71) := ⟨_, rfl⟩
    have HPV := hid hpv; have HW4 := hid hw4
    have HV4 : Hid (VB w4 pv u.k u.n u.t) := by rw [hw4, hpv]; exact hid (vb_new _ _ _ _)
    have HB24 : Hid (Below w2.heap.size w2 w4) := by rw [hw4]; exact hid (Ba hb3 _)
    have HB4 := hid (Bt HB2.out HB24.out)
    have HF4 := hid (HF2.out.on HB24.out)
    have HLTS : Hid (pf < pv ∧ r < pv ∧ rz < pv ∧ w0.heap.size ≤ pv) := hid (by
      have e1 := HF2.out.lt; have e2 := hb3.size; have e3 := HT0.out.lt; have e4 := HZB.out.2; have e5 := HB2.out.size
      rw [hpv]; omega)
    clear hb3 hpv hw4 a0 a1 a2 f0 f1 f2
    go_upto_region 6 with fail
    rw [← HW4.out, ← HPV.out]
    obtain ⟨cn, hcn⟩ : ∃ cn, cn = castN u.n g.k f.k := ⟨_, rfl⟩
    obtain ⟨ct, hct⟩ : ∃ ct, ct = castT u.t f.k f.g := ⟨_, rfl⟩
    rw [← hcn, ← hct] at HE HCR
    clear hcn hct
    refine reg_beginB pv (by kernel_rfl) (fun w0a hh0a hx0a hHeld => ?_)
    have HXH : Hid (∀ w', ExB pv w0a w' → Below w0.heap.size w0 w') := hid (fun w' h => HB4.out.trans ((hx0a.trans h).mono HLTS.out.2.2.2))
    have s2 := fun w' h => (HT0.out.on (HXH.out w' h)).cells.2.1
    have f0 : ∀ w', ExB pv w0a w' → FB w' pf (bs g.nm) g.k g.g := fun w' h => HF4.out.below (hx0a.trans h) HLTS.out.1
    have f1 := fun w' h => (f0 w' h).cells.1
    have f2 := fun w' h => (f0 w' h).cells.2.1
    have f3 := fun w' h => (f0 w' h).cells.2.2
    have y1 := fun w' h => (HFC.out w' (HXH.out w' h)).1
    have y2 := fun w' h => (HFC.out w' (HXH.out w' h)).2.1
    have y3 := fun w' h => (HFC.out w' (HXH.out w' h)).2.2
    have HVA : Hid (VB w0a pv u.k u.n u.t) := hid (by unfold VB; rw [hh0a.out]; exact HV4.out)
    obtain ⟨v0, v1, v2⟩ := HVA.out.cells
    clear f0
    refine reg_takeB 1 (v := ?vy1_1) (atS at0) (by kernel_rfl) (by kernel_rfl) (by kernel_rfl) (by rfl) ?hyy1_1 hHeld ?resty1_1
    case hyy1_1 => (intro w' hSw; go_simp; try with_reducible rfl)
    try simp only [Act.put, List.setIfInBounds_toArray, List.set_cons_zero, List.set_cons_succ]
    refine reg_takeB 2 (v := ?vy2_2) (atS (atS at0)) (by kernel_rfl) (by kernel_rfl) (by kernel_rfl) (by rfl) ?hyy2_2 hHeld ?resty2_2
    case hyy2_2 => (intro w' hSw; go_simp; try with_reducible rfl)
    try simp only [Act.put, List.setIfInBounds_toArray, List.set_cons_zero, List.set_cons_succ]
    refine reg_takeB 3 (v := ?vy3_3) (atS (atS (atS at0))) (by kernel_rfl) (by kernel_rfl) (by kernel_rfl) (by rfl) ?hyy3_3 hHeld ?resty3_3
    case hyy3_3 => (intro w' hSw; go_simp; try with_reducible rfl)
    try simp only [Act.put, List.setIfInBounds_toArray, List.set_cons_zero, List.set_cons_succ]
    refine reg_takeB 4 (v := ?vy4_4) (atS (atS (atS (atS at0)))) (by kernel_rfl) (by kernel_rfl) (by kernel_rfl) (by rfl) ?hyy4_4 hHeld ?resty4_4
    case hyy4_4 => (intro w' hSw; go_simp; try with_reducible rfl)
    try simp only [Act.put, List.setIfInBounds_toArray, List.set_cons_zero, List.set_cons_succ]
    refine reg_takeB 5 (v := ?vy5_5) (atS5 at0) (by kernel_rfl) (by kernel_rfl) (by kernel_rfl) (by rfl) ?hyy5_5 hHeld ?resty5_5
    case hyy5_5 => (intro w' hSw; go_simp; try with_reducible rfl)
    try simp only [Act.put, List.setIfInBounds_toArray, List.set_cons_zero, List.set_cons_succ]
    refine reg_takeB 6 (v := ?vy6_6) (atS5 (atS at0)) (by kernel_rfl) (by kernel_rfl) (by kernel_rfl) (by rfl) ?hyy6_6 hHeld ?resty6_6
    case hyy6_6 => (intro w' hSw; go_simp; try with_reducible rfl)
    try simp only [Act.put, List.setIfInBounds_toArray, List.set_cons_zero, List.set_cons_succ]
    refine wpAnyH_ready (rs := [0]) (by kernel_rfl) (by simp) ?_
    refine AllReadyH.cons at0 (fun K hK => ?_) AllReadyH.nil
    go_simp
    go_simp
    go_wp2_with fail
    refine hK.out _ _ hHeld (fun hHeld => ?_)
    clear hK K
    try simp only [Act.put, List.setIfInBounds_toArray, List.set_cons_zero, List.set_cons_succ]
    refine wpAnyH_ready (rs := [7]) (by kernel_rfl) (by simp) ?_
    refine AllReadyH.cons (atS5 (atS (atS at0))) (fun K hK => ?_) AllReadyH.nil
    go_simp
    refine (kcast_any u.k u.n u.t (bs g.nm) (bs f.nm) g.k g.g f.k f.g _ HUN.out).mono ?_
    rintro e w7a ⟨rfl, hb6⟩
    rw [HCR.out]
    have HB6 := hid hb6
    have HV6 := hid (HVA.out.on hb6)
    have vf0 := HV6.out.frozen 0; have vf1 := HV6.out.frozen 1; have vf2 := HV6.out.frozen 2
    clear v0 v1 v2
    obtain ⟨v0, v1, v2⟩ := HV6.out.cells
    clear hb6
    go_wp2_with fail
    refine hK.out _ _ (Below.mono HB6.out (Nat.le_of_lt HVA.out.lt)) (fun hHeld => ?_)
    clear hK K
    try simp only [Act.put, List.setIfInBounds_toArray, List.set_cons_zero, List.set_cons_succ]
    refine reg_takeB 8 (v := ?vy7_8) (atS5 (atS (atS (atS at0)))) (by kernel_rfl) (by kernel_rfl) (by kernel_rfl) (by rfl) ?hyy7_8 hHeld ?resty7_8
    case hyy7_8 => (intro w' hSw; go_simp; try with_reducible rfl)
    try simp only [Act.put, List.setIfInBounds_toArray, List.set_cons_zero, List.set_cons_succ]
    refine reg_takeB 9 (v := ?vy8_9) (atS5 (atS (atS (atS (atS at0))))) (by kernel_rfl) (by kernel_rfl) (by kernel_rfl) (by rfl) ?hyy8_9 hHeld ?resty8_9
    case hyy8_9 => (intro w' hSw; go_simp; try with_reducible rfl)
    try simp only [Act.put, List.setIfInBounds_toArray, List.set_cons_zero, List.set_cons_succ]
    refine reg_takeB 10 (v := ?vy9_10) (atS5 (atS5 at0)) (by kernel_rfl) (by kernel_rfl) (by kernel_rfl) (by rfl) ?hyy9_10 hHeld ?resty9_10
    case hyy9_10 => (intro w' hSw; go_simp; try with_reducible rfl)
    try simp only [Act.put, List.setIfInBounds_toArray, List.set_cons_zero, List.set_cons_succ]
    refine wpAnyH_ready (rs := [11]) (by kernel_rfl) (by simp) ?_
    refine AllReadyH.cons (atS5 (atS5 (atS at0))) (fun K hK => ?_) AllReadyH.nil
    go_simp
    go_simp
    go_wp2_with fail
    refine hK.out _ _ (B3 (Below.mono HB6.out (Nat.le_of_lt HVA.out.lt)) (Nat.le_refl _) _ _ _) (fun hHeld => ?_)
    clear hK K
    try simp only [Act.put]
    refine wpAnyH_done (by kernel_rfl) ?_ _
    refine NoPanic.normal ?_
    obtain ⟨W7, hW7⟩ : ∃ W7, W7 = ((w7a.setCell ⟨pv, 0, none⟩ (.int .i64 f.k)).setCell ⟨pv, 1, none⟩ (.int .u64 cn)).setCell ⟨pv, 2, none⟩ (.string ct) := ⟨_, rfl⟩
    rw [← hW7]
    have HB7 : Hid (Below w0.heap.size w0 W7) := hid (HXH.out W7 (by rw [hW7]; exact hHeld))
    have HV7 : Hid (VB W7 pv f.k cn ct) := by rw [hW7]; exact hid (HV6.out.set3 f.k cn ct)
    have HZ7 := hid (HZ0.out.on HB7.out)
    clear hW7 s2 f1 f2 f3 y1 y2 y3 v0 v1 v2 vf0 vf1 vf2
    obtain ⟨x0, x1, x2⟩ := HV7.out.cells
    obtain ⟨z0, z1, z2⟩ := HZ7.out.cells
    have y0 := HZ7.out.frozen 0; have y1 := HZ7.out.frozen 1; have y2 := HZ7.out.frozen 2
    go_wp2_with fail
    exact ret_VLp (by rfl) (by rfl) (HZ7.out.set3 f.k cn ct) (by rfl) ⟨by rw [HE.out], B3 (Bt HB0.out HB7.out) HZB.out.1 _ _ _⟩
set_option maxRecDepth 20000 in
set_option maxHeartbeats 12000000 in
theorem p7applyg_any {w : World} {v : Value} {T : Tb} (h : RdT w w.heap.size v T) (hT : rightT T = true) {vs : List Va} (hv : okV T.o vs) {A2 : Option Addr} {n2 c2 : Nat} {s : List UInt8} (h2 : Rd w w.heap.size A2 n2 c2 s) (hlen : (s.length : Int) = layN T.o) (ho : okO s T.o = true) (hs : GotV s T.o vs) :
    Calls Tryz.prog 56 #[v, .slice A2 n2 c2] w fun e w' => ∃ u, e = .returned (.tuple #[u, .int .i64 0]) ∧ Own w' w.heap.size u (objA T.nw (valsT T vs)) ∧ Below w.heap.size w w' := by
  obtain ⟨A, n, c, B, m2, d2, C, m3, d3, rfl, h1, hn, hmv⟩ := h
  have hro := (rightT_iff.1 hT).1
  have hrn := (rightT_iff.1 hT).2.1
  have HOO := hid ho
  have hm16 : m2 ≤ 16 := by have := right_len hrn; have := hn.1; omega
  have e3 : m2 = m3 := by have := (rightT_iff.1 hT).2.2.1; have := hmv.1; have := hn.1; omega
  subst e3
  obtain ⟨w0, hw0⟩ : ∃ w0, w0 = w.alloc (.cells #[.slice A n c, .slice B m2 d2, .slice C m2 d3] 92) := ⟨_, rfl⟩
  obtain ⟨r, hr⟩ : ∃ r, r = w.heap.size := ⟨_, rfl⟩
  have HW0 := hid hw0; have HR := hid hr
  have HB0 : Hid (Below w.heap.size w w0) := by rw [hw0]; exact hid (B1 _ _)
  have HT0 : Hid (TBx w0 r (.slice A n c) (.slice B m2 d2) (.slice C m2 d3) 92) := by rw [hw0, hr]; exact hid (tb_new w _ _ _ _)
  have H1 := hid (h1.on HB0.out); have HN := hid (hn.on HB0.out); have HM := hid (hmv.on HB0.out); have H2 := hid (h2.on HB0.out)
  have HRT := hid hT; have HV := hid hv; have HSE := hid hs; have HRO := hid hro; have HRN := hid hrn; have HLEN := hid hlen
  have HU : Hid (∀ m ∈ T.mv, U64 m.n) := hid (fun m hm => (hmv.2.2.2.1 m hm).2.2)
  have HVT : Hid (RdT w0 w0.heap.size (.agg #[.slice A n c, .slice B m2 d2, .slice C m2 d3]) T) := hid ⟨A, n, c, B, m2, d2, C, m2, d3, rfl, H1.out, HN.out, HM.out⟩
  have HLN : Hid (T.nw.length = m2) := hid hn.1
  have HLM : Hid (T.mv.length = m2) := hid hmv.1
  have HOV : Hid (okV T.nw (valsT T vs)) := hid (valsT_ok hT hv HU.out)
  clear h1 hn hmv h2 hT hv hs hro hrn hw0 hr hlen ho
  obtain ⟨a0, a1, a2⟩ := (HT0.out.on (B0 w0)).cells
  go_enter Tryz.func56, Tryz.ntmps56
  go_wp2_with fail
  rw [← HW0.out, ← HR.out]
  refine (p7right_any HVT.out (rightT_short HRT.out)).mono ?_
  rintro e w1 ⟨rfl, hb1⟩
  rw [HRT.out]
  have HB1 := hid hb1
  clear hb1 a0 a1 a2
  obtain ⟨a0, a1, a2⟩ := (HT0.out.on HB1.out).cells
  go_wp2_with fail
  refine (p7checkq_any (H1.out.on HB1.out) HRO.out (H2.out.on HB1.out) (by have := layN_bounds HRO.out; have := H2.out.1; have := HLEN.out; omega)).mono ?_
  rintro e w2 ⟨rfl, hb2⟩
  rw [HOO.out]
  have HB2 := hid (Bt HB1.out hb2)
  clear hb2 a0 a1 a2
  obtain ⟨a0, a1, a2⟩ := (HT0.out.on HB2.out).cells
  go_wp2_with fail
  refine (p6new_any (HN.out.on HB2.out) (right_short HRN.out)).mono ?_
  rintro e w3 ⟨v3, rfl, ho3, hb3⟩
  obtain ⟨A3, c3, rfl, -⟩ := ho3.rd
  have HB3 := hid (Bt HB2.out hb3)
  have HO3 : Hid (Own w3 w0.heap.size (.slice A3 (List.replicate (layT T.nw).toNat (0 : UInt8)).length c3) (objS T.nw (valsT T vs) 0)) := hid (ow_less ho3 HB2.out.size)
  obtain ⟨n3, hn3⟩ : ∃ n3, n3 = (List.replicate (layT T.nw).toNat (0 : UInt8)).length := ⟨_, rfl⟩
  rw [← hn3] at HO3 ⊢
  clear hb3 ho3 hn3 a0 a1 a2
  obtain ⟨a0, a1, a2⟩ := (HT0.out.on HB3.out).cells
  go_wp2_with fail
  clear a0 a1 a2
  go_loopw [6, 24] (fun o i wr => ∃ (j : Nat) (A7 : Option Addr) (n7 c7 : Nat), j ≤ m2 ∧ i = .int .i64 j ∧ o = .slice A7 n7 c7 ∧ Hid (Own wr w0.heap.size (.slice A7 n7 c7) (objS T.nw (valsT T vs) j)) ∧ Hid (Below w0.heap.size w0 wr)) (fun _ i _ => m2 - (intOf i).toNat)
  case atStart => exact ⟨0, A3, n3, c3, by omega, rfl, rfl, HO3, HB3⟩
  case round =>
    obtain ⟨j, A7, n7, c7, hj, rfl, rfl, HO, HB⟩ := hrel
    by_cases hlt : j < m2
    · obtain ⟨f, hf⟩ : ∃ f, T.nw[j]? = some f := ⟨_, List.getElem?_eq_getElem (by have := HLN.out; omega)⟩
      obtain ⟨m, hm⟩ : ∃ m, T.mv[j]? = some m := ⟨_, List.getElem?_eq_getElem (by have := HLM.out; omega)⟩
      have hvt := valsT_get (vs := vs) hm hf
      have HU2 : Hid (U64 (valF T.o vs m f).n) := hid (valF_right HRT.out HV.out HU.out hm hf).2
      have HST : Hid (setS6 (objS T.nw (valsT T vs) j) T.nw f.nm (valF T.o vs m f).k (valF T.o vs m f).n (valF T.o vs m f).t = _) := hid (objS_set HRN.out HOV.out hf hvt)
      obtain ⟨_, _, _, _, b, off, rfl, hc⟩ := HN.out.at hf
      have HC := hid hc
      have HF := hid hf; have HMM := hid hm
      obtain ⟨hn7, hrd⟩ := ow_rd2 HO.out
      have hn7' : n7 ≤ 100000 := by have := objS_short HRN.out HOV.out j; omega
      have HRD := hid hrd
      obtain ⟨k', hk'⟩ : ∃ k', k' = (valF T.o vs m f).k := ⟨_, rfl⟩
      obtain ⟨u', hu'⟩ : ∃ u', u' = (valF T.o vs m f).n := ⟨_, rfl⟩
      obtain ⟨t', ht'⟩ : ∃ t', t' = (valF T.o vs m f).t := ⟨_, rfl⟩
      obtain ⟨S, hS⟩ : ∃ S, S = objS T.nw (valsT T vs) j := ⟨_, rfl⟩
      rw [← hk', ← hu', ← ht', ← hS] at HST
      rw [← hS] at HRD
      rw [← hu'] at HU2
      have HKE : Hid (vlV (valF T.o vs m f).k (valF T.o vs m f).n (valF T.o vs m f).t = .agg #[.int .i64 k', .int .u64 u', .string t']) := hid (by rw [hk', hu', ht']; rfl)
      have hji : (j : Int) < m2 := by omega
      have hj0 : (0 : Int) ≤ j := by omega
      clear hf hm hvt hc hrd hk' hu' ht' hS hn7
      go_upto_region 7 with fail
      refine reg_begin (by kernel_rfl) (fun w0a hx0a hHeld => ?_)
      have s0 : ∀ w', Ext w0a w' → Below w0.heap.size w0 w' := fun w' h => HB.out.trans ((hx0a.trans h).mono HB.out.size)
      have s1 := fun w' h => (HT0.out.on (s0 w' h)).cells.1
      have s2 := fun w' h => (HT0.out.on (s0 w' h)).cells.2.1
      have s3 := fun w' h => (HT0.out.on (s0 w' h)).cells.2.2
      have y1 := fun w' h => (HC.out w' (s0 w' h)).1
      have HS0 := hid s0
      clear s0
      refine reg_take 0 (v := ?vb0) at0 (by kernel_rfl) (by kernel_rfl) (by kernel_rfl) (by rfl) ?hyb0 hHeld ?restb0
      case hyb0 => (intro w' hSw; go_simp; try with_reducible rfl)
      try simp only [Act.put, List.setIfInBounds_toArray, List.set_cons_zero, List.set_cons_succ]
      refine reg_take 1 (v := ?vb1) (atS at0) (by kernel_rfl) (by kernel_rfl) (by kernel_rfl) (by rfl) ?hyb1 hHeld ?restb1
      case hyb1 => (intro w' hSw; go_simp; try with_reducible rfl)
      try simp only [Act.put, List.setIfInBounds_toArray, List.set_cons_zero, List.set_cons_succ]
      refine reg_take 2 (v := ?vb2) (atS (atS at0)) (by kernel_rfl) (by kernel_rfl) (by kernel_rfl) (by rfl) ?hyb2 hHeld ?restb2
      case hyb2 => (intro w' hSw; go_simp; try with_reducible rfl)
      try simp only [Act.put, List.setIfInBounds_toArray, List.set_cons_zero, List.set_cons_succ]
      refine reg_take 3 (v := ?vb3) (atS (atS (atS at0))) (by kernel_rfl) (by kernel_rfl) (by kernel_rfl) (by rfl) ?hyb3 hHeld ?restb3
      case hyb3 => (intro w' hSw; go_simp; try with_reducible rfl)
      try simp only [Act.put, List.setIfInBounds_toArray, List.set_cons_zero, List.set_cons_succ]
      refine reg_take 4 (v := ?vb4) (atS (atS (atS (atS at0)))) (by kernel_rfl) (by kernel_rfl) (by kernel_rfl) (by rfl) ?hyb4 hHeld ?restb4
      case hyb4 => (intro w' hSw; go_simp; try with_reducible rfl)
      try simp only [Act.put, List.setIfInBounds_toArray, List.set_cons_zero, List.set_cons_succ]
      refine reg_take 5 (v := ?vb5) (atS5 at0) (by kernel_rfl) (by kernel_rfl) (by kernel_rfl) (by rfl) ?hyb5 hHeld ?restb5
      case hyb5 => (intro w' hSw; go_simp; try with_reducible rfl)
      try simp only [Act.put, List.setIfInBounds_toArray, List.set_cons_zero, List.set_cons_succ]
      refine reg_take 6 (v := ?vb6) (atS5 (atS at0)) (by kernel_rfl) (by kernel_rfl) (by kernel_rfl) (by rfl) ?hyb6 hHeld ?restb6
      case hyb6 => (intro w' hSw; go_simp; try with_reducible rfl)
      try simp only [Act.put, List.setIfInBounds_toArray, List.set_cons_zero, List.set_cons_succ]
      refine reg_take 7 (v := ?vb7) (atS5 (atS (atS at0))) (by kernel_rfl) (by kernel_rfl) (by kernel_rfl) (by rfl) ?hyb7 hHeld ?restb7
      case hyb7 => (intro w' hSw; go_simp; try with_reducible rfl)
      try simp only [Act.put, List.setIfInBounds_toArray, List.set_cons_zero, List.set_cons_succ]
      refine reg_take 8 (v := ?vb8) (atS5 (atS (atS (atS at0)))) (by kernel_rfl) (by kernel_rfl) (by kernel_rfl) (by rfl) ?hyb8 hHeld ?restb8
      case hyb8 => (intro w' hSw; go_simp; try with_reducible rfl)
      try simp only [Act.put, List.setIfInBounds_toArray, List.set_cons_zero, List.set_cons_succ]
      refine reg_take 9 (v := ?vb9) (atS5 (atS (atS (atS (atS at0))))) (by kernel_rfl) (by kernel_rfl) (by kernel_rfl) (by rfl) ?hyb9 hHeld ?restb9
      case hyb9 => (intro w' hSw; go_simp; try with_reducible rfl)
      try simp only [Act.put, List.setIfInBounds_toArray, List.set_cons_zero, List.set_cons_succ]
      refine reg_take 10 (v := ?vb10) (atS5 (atS5 at0)) (by kernel_rfl) (by kernel_rfl) (by kernel_rfl) (by rfl) ?hyb10 hHeld ?restb10
      case hyb10 => (intro w' hSw; go_simp; try with_reducible rfl)
      try simp only [Act.put, List.setIfInBounds_toArray, List.set_cons_zero, List.set_cons_succ]
      refine reg_take 11 (v := ?vb11) (atS5 (atS5 (atS at0))) (by kernel_rfl) (by kernel_rfl) (by kernel_rfl) (by rfl) ?hyb11 hHeld ?restb11
      case hyb11 => (intro w' hSw; go_simp; try with_reducible rfl)
      try simp only [Act.put, List.setIfInBounds_toArray, List.set_cons_zero, List.set_cons_succ]
      refine wpAnyH_ready (rs := [12]) (by kernel_rfl) (by simp) ?_
      refine AllReadyH.cons (atS5 (atS5 (atS (atS at0)))) (fun K hK => ?_) AllReadyH.nil
      go_simp
      refine (p7valueg_any (HVT.out.on (HS0.out _ (Ext.refl _))) HRT.out HV.out (H2.out.on (HS0.out _ (Ext.refl _))) HLEN.out HSE.out HMM.out HF.out).mono ?_
      rintro e w4 ⟨rfl, hb4⟩
      rw [HKE.out]
      go_wp2_with fail
      refine hK.out _ _ hb4 (fun hHeld => ?_)
      clear hK K
      try simp only [Act.put, List.setIfInBounds_toArray, List.set_cons_zero, List.set_cons_succ]
      refine reg_on hb4 (fun hHeld => ?_)
      refine wpAnyH_ready (rs := [13]) (by kernel_rfl) (by simp) ?_
      refine AllReadyH.cons (atS5 (atS5 (atS (atS (atS at0))))) (fun K hK => ?_) AllReadyH.nil
      go_simp
      refine (p6set_any (HN.out.on (HS0.out _ hb4)) (right_short HRN.out) (HRD.out.on (hx0a.trans hb4)) hn7' f.nm k' u' t' HU2.out).mono ?_
      rintro e w5 ⟨u5, rfl, ho5, hb5⟩
      rw [HST.out] at ho5 ⊢
      obtain ⟨A5, c5, rfl, -⟩ := ho5.rd
      go_wp2_with fail
      refine hK.out _ _ hb5 (fun hHeld => ?_)
      clear hK K
      try simp only [Act.put, List.setIfInBounds_toArray, List.set_cons_zero, List.set_cons_succ]
      refine reg_on hb5 (fun hHeld => ?_)
      refine reg_take 14 (v := ?vb14) (atS5 (atS5 (atS (atS (atS (atS at0)))))) (by kernel_rfl) (by kernel_rfl) (by kernel_rfl) (by rfl) ?hyb14 hHeld ?restb14
      case hyb14 => (intro w' hSw; go_simp; try with_reducible rfl)
      try simp only [Act.put, List.setIfInBounds_toArray, List.set_cons_zero, List.set_cons_succ]
      refine reg_take 15 (v := ?vb15) (atS5 (atS5 (atS5 at0))) (by kernel_rfl) (by kernel_rfl) (by kernel_rfl) (by rfl) ?hyb15 hHeld ?restb15
      case hyb15 => (intro w' hSw; go_simp; try with_reducible rfl)
      try simp only [Act.put, List.setIfInBounds_toArray, List.set_cons_zero, List.set_cons_succ]
      refine reg_take 16 (v := ?vb16) (atS5 (atS5 (atS5 (atS at0)))) (by kernel_rfl) (by kernel_rfl) (by kernel_rfl) (by rfl) ?hyb16 hHeld ?restb16
      case hyb16 => (intro w' hSw; go_simp; try with_reducible rfl)
      try simp only [Act.put, List.setIfInBounds_toArray, List.set_cons_zero, List.set_cons_succ]
      refine reg_take 17 (v := ?vb17) (atS5 (atS5 (atS5 (atS (atS at0))))) (by kernel_rfl) (by kernel_rfl) (by kernel_rfl) (by rfl) ?hyb17 hHeld ?restb17
      case hyb17 => (intro w' hSw; go_simp; try with_reducible rfl)
      try simp only [Act.put, List.setIfInBounds_toArray, List.set_cons_zero, List.set_cons_succ]
      refine wpAnyH_done (by kernel_rfl) ?_ _
      refine NoPanic.normal ?_
      clear s1 s2 s3 y1
      have HB5 : Hid (Below w0.heap.size w0 w5) := hid (Bt (HS0.out _ hb4) hb5)
      have HO5 := hid (ow_less ho5 (Nat.le_trans (HS0.out _ (Ext.refl _)).size (Below.size hb4)))
      go_wp2_with fail
      exact ⟨⟨j + 1, A5, _, c5, by omega, by go_num, rfl, HO5, HB5⟩, by simp [intOf]; omega⟩
    · have hji3 : ¬ ((j : Int) < m2) := by omega
      have hje : j = T.nw.length := by have := HLN.out; omega
      go_wp2_with fail
      go_ret2
      exact ⟨_, rfl, by have h := HO.out; rw [hje] at h; exact ow_less h HB0.out.size, Bt HB0.out HB.out⟩
end Go.Proofs.YtaegencmnmjgbaaGreat
