/-
  The document's Compose of layer 7.
-/
import Derived.Test.YtaegencmnmjgbaaGreatM26
import Derived.Test.YtaegencmnmjgbaaGreatM10
import Derived.Deep.Cut

namespace Go.Proofs.YtaegencmnmjgbaaGreat
open Go.RowKit
set_option linter.unusedVariables false
theorem compE_no {a b : Tb} (h : compB a b = false) : compE a b = 70 := by unfold compE; rw [h]; rfl
theorem compT_no {a b : Tb} (h : compB a b = false) : compT a b = Tb.none := by unfold compT; rw [h]; rfl
theorem compE_ok {a b : Tb} (h : compB a b = true) : compE a b = 0 := by unfold compE; rw [h]; rfl
theorem compT_ok {a b : Tb} (h : compB a b = true) : compT a b = ⟨a.o, b.nw, thrL a b⟩ := by unfold compT; rw [h]; rfl
theorem MB.set3 {w : World} {b : Nat} {m : Mv} {ty : TypeId} (h : MB w b m ty) (k n : Int) (t : ByteArray) : MB (((w.setCell ⟨b, 1, none⟩ (.int .i64 k)).setCell ⟨b, 2, none⟩ (.int .u64 n)).setCell ⟨b, 3, none⟩ (.string t)) b ⟨m.fr, k, n, t⟩ ty := row_set (row_set (row_set h 1 _) 2 _) 3 _
theorem MB.set4 {w : World} {b : Nat} {m : Mv} {ty : TypeId} (h : MB w b m ty) (x : Mv) : MB ((((w.setCell ⟨b, 0, none⟩ (.int .i64 x.fr)).setCell ⟨b, 1, none⟩ (.int .i64 x.k)).setCell ⟨b, 2, none⟩ (.int .u64 x.n)).setCell ⟨b, 3, none⟩ (.string x.t)) b x ty := row_set (row_set (row_set (row_set h 0 _) 1 _) 2 _) 3 _
theorem B4 {B b : Nat} {w w' : World} (h : Below B w w') (hb : B ≤ b) (x y z u : Value) : Below B w ((((w'.setCell ⟨b, 0, none⟩ x).setCell ⟨b, 1, none⟩ y).setCell ⟨b, 2, none⟩ z).setCell ⟨b, 3, none⟩ u) := (B3 h hb x y z).setCell (p := ⟨b, 3, none⟩) hb _
theorem B3' {B b : Nat} {w w' : World} (h : Below B w w') (hb : B ≤ b) (x y z : Value) : Below B w (((w'.setCell ⟨b, 1, none⟩ x).setCell ⟨b, 2, none⟩ y).setCell ⟨b, 3, none⟩ z) := ((h.setCell (p := ⟨b, 1, none⟩) hb _).setCell (p := ⟨b, 2, none⟩) hb _).setCell (p := ⟨b, 3, none⟩) hb _
set_option maxRecDepth 20000 in
set_option maxHeartbeats 12000000 in
theorem r7compose_any {w : World} {va vb : Value} {a b : Tb} (ha : RdT w w.heap.size va a) (hb : RdT w w.heap.size vb b) (hs : shortT a) (hs2 : shortT b) :
    Calls Tryz.prog 143 #[va, vb] w fun e w' => ∃ v, e = .returned (.tuple #[v, .int .i64 (compE a b)]) ∧ RdT w' w'.heap.size v (compT a b) ∧ Below w.heap.size w w' := by
  obtain ⟨A, n, c, A2, n2, c2, A3, n3, c3, rfl, h1, h2, h3⟩ := ha
  obtain ⟨B, m, d, B2, m2, d2, B3', m3, d3, rfl, k1, k2, k3⟩ := hb
  have HIM : Hid (∀ m ∈ thrL a b, I64 m.fr ∧ I64 m.k ∧ U64 m.n) := hid (thr_I64 h3.2.2.2.1 k3.2.2.2.1 (fun f hf => (k2.2.2.2.1 f hf).1))
  obtain ⟨w0, hw0⟩ : ∃ w0, w0 = ((w.alloc (.cells #[.slice A n c, .slice A2 n2 c2, .slice A3 n3 c3] 110)).alloc (.cells #[.slice B m d, .slice B2 m2 d2, .slice B3' m3 d3] 110)).alloc (.cells #[.slice none 0 0, .slice none 0 0, .slice none 0 0] 110) := ⟨_, rfl⟩
  have HW0 := hid hw0
  have HB0 : Hid (Below w.heap.size w w0) := by rw [hw0]; exact Ba (Ba (B1 _ _) _) _
  obtain ⟨r, hr⟩ : ∃ r, r = w.heap.size := ⟨_, rfl⟩
  obtain ⟨rb, hrb⟩ : ∃ rb, rb = w.heap.size + 1 := ⟨_, rfl⟩
  obtain ⟨rz, hrz⟩ : ∃ rz, rz = w.heap.size + 1 + 1 := ⟨_, rfl⟩
  have HR := hid hr; have HRB := hid hrb; have HRZE := hid hrz
  have HTA : Hid (TBx w0 r (.slice A n c) (.slice A2 n2 c2) (.slice A3 n3 c3) 110) := by rw [hw0, hr]; exact ((tb_new w _ _ _ _).on (B1 _ _)).on (B1 _ _)
  have HTB : Hid (TBx w0 rb (.slice B m d) (.slice B2 m2 d2) (.slice B3' m3 d3) 110) := by
    rw [hw0, hrb, ← World.size_alloc w (.cells #[.slice A n c, .slice A2 n2 c2, .slice A3 n3 c3] 110)]; exact (tb_new _ _ _ _ _).on (B1 _ _)
  have HTZ : Hid (TBx w0 rz (.slice none 0 0) (.slice none 0 0) (.slice none 0 0) 110) := by
    have e : rz = ((w.alloc (.cells #[.slice A n c, .slice A2 n2 c2, .slice A3 n3 c3] 110)).alloc (.cells #[.slice B m d, .slice B2 m2 d2, .slice B3' m3 d3] 110)).heap.size := by rw [hrz]; simp
    rw [hw0, e]; exact tb_new _ _ _ _ _
  have HRZ : Hid (w.heap.size ≤ rz) := hid (by omega)
  have HLT : Hid (rz < w0.heap.size) := HTZ.out.lt
  have h1w := hid h1; have k2w := hid k2
  have H1 := hid (h1.on HB0.out); have H2 := hid (h2.on HB0.out); have H3 := hid (h3.on HB0.out)
  have K1 := hid (k1.on HB0.out); have K2 := hid (k2.on HB0.out); have K3 := hid (k3.on HB0.out)
  have HAT : Hid (RdT w0 w0.heap.size (.agg #[.slice A n c, .slice A2 n2 c2, .slice A3 n3 c3]) a) := hid ⟨A, n, c, A2, n2, c2, A3, n3, c3, rfl, H1.out, H2.out, H3.out⟩
  have HBTT : Hid (RdT w0 w0.heap.size (.agg #[.slice B m d, .slice B2 m2 d2, .slice B3' m3 d3]) b) := hid ⟨B, m, d, B2, m2, d2, B3', m3, d3, rfl, K1.out, K2.out, K3.out⟩
  have LM : Hid (b.mv.length = m3) := K3.out.1
  have HSA := hid hs; have HSB := hid hs2
  clear h1 h2 h3 k1 k2 k3 hw0 hr hrb hrz hs hs2
  obtain ⟨a0, a1, a2⟩ := (HTA.out.on (B0 w0)).cells
  obtain ⟨b0, b1, b2⟩ := (HTB.out.on (B0 w0)).cells
  obtain ⟨z0, z1, z2⟩ := (HTZ.out.on (B0 w0)).cells
  have fz0 := (HTZ.out.on (B0 w0)).frozen 0; have fz1 := (HTZ.out.on (B0 w0)).frozen 1; have fz2 := (HTZ.out.on (B0 w0)).frozen 2
  go_enter Tryz.func143, Tryz.ntmps143
  go_wp2_with fail
  rw [← HW0.out, ← HRZE.out, ← HRB.out, ← HR.out]
  refine (r7right_any HAT.out HSA.out).mono ?_
  rintro e w1 ⟨rfl, hb1⟩
  have HB1 := hid hb1
  clear hb1
  clear a0 a1 a2 b0 b1 b2 z0 z1 z2 fz0 fz1 fz2
  obtain ⟨a0, a1, a2⟩ := (HTA.out.on HB1.out).cells
  obtain ⟨b0, b1, b2⟩ := (HTB.out.on HB1.out).cells
  obtain ⟨z0, z1, z2⟩ := (HTZ.out.on HB1.out).cells
  have fz0 := (HTZ.out.on HB1.out).frozen 0; have fz1 := (HTZ.out.on HB1.out).frozen 1; have fz2 := (HTZ.out.on HB1.out).frozen 2
  obtain ⟨ra, hra⟩ : ∃ ra, ra = rightT a := ⟨_, rfl⟩
  obtain ⟨rr, hrr⟩ : ∃ rr, rr = rightT b := ⟨_, rfl⟩
  rw [← hra]
  have HRA := hid hra; have HRR := hid hrr
  clear hra hrr
  cases ra with
  | false =>
    have HE : Hid (compB a b = false) := by show _ = _; unfold compB; rw [← HRA.out]; rfl
    go_wp2_with fail
    exact ret_TB7e (by rfl) (by rfl) ((HTZ.out.on HB1.out).set3 _ _ _) (by rfl) (by rfl) ⟨_, by rw [compE_no HE.out]; rfl, by rw [compT_no HE.out]; exact RdT.nil _ _, B3 (Bt HB0.out HB1.out) HRZ.out _ _ _⟩
  | true =>
    go_wp2_with fail
    refine (r7right_any (HBTT.out.on HB1.out) HSB.out).mono ?_
    rintro e w2 ⟨rfl, hb2⟩
    have HB2 := hid (Bt HB1.out hb2)
    clear hb2
    clear a0 a1 a2 b0 b1 b2 z0 z1 z2 fz0 fz1 fz2
    rw [← HRR.out]
    obtain ⟨a0, a1, a2⟩ := (HTA.out.on HB2.out).cells
    obtain ⟨b0, b1, b2⟩ := (HTB.out.on HB2.out).cells
    obtain ⟨z0, z1, z2⟩ := (HTZ.out.on HB2.out).cells
    have fz0 := (HTZ.out.on HB2.out).frozen 0; have fz1 := (HTZ.out.on HB2.out).frozen 1; have fz2 := (HTZ.out.on HB2.out).frozen 2
    cases rr with
    | false =>
      have HE : Hid (compB a b = false) := by show _ = _; unfold compB; rw [← HRA.out, ← HRR.out]; rfl
      go_wp2_with fail
      exact ret_TB7e (by rfl) (by rfl) ((HTZ.out.on HB2.out).set3 _ _ _) (by rfl) (by rfl) ⟨_, by rw [compE_no HE.out]; rfl, by rw [compT_no HE.out]; exact RdT.nil _ _, B3 (Bt HB0.out HB2.out) HRZ.out _ _ _⟩
    | true =>
      go_wp2_with fail
      refine (r6same_any (H2.out.on HB2.out) (K1.out.on HB2.out)).mono ?_
      rintro e w3 ⟨rfl, hb3⟩
      have HB3 := hid (Bt HB2.out hb3)
      clear hb3
      clear a0 a1 a2 b0 b1 b2 z0 z1 z2 fz0 fz1 fz2
      obtain ⟨a0, a1, a2⟩ := (HTA.out.on HB3.out).cells
      obtain ⟨b0, b1, b2⟩ := (HTB.out.on HB3.out).cells
      obtain ⟨z0, z1, z2⟩ := (HTZ.out.on HB3.out).cells
      have fz0 := (HTZ.out.on HB3.out).frozen 0; have fz1 := (HTZ.out.on HB3.out).frozen 1; have fz2 := (HTZ.out.on HB3.out).frozen 2
      by_cases hsame : a.nw = b.o
      · rw [decide_eq_true hsame]
        have HSAME := hid hsame
        obtain ⟨q, hq⟩ : ∃ q, q = w3.heap.size := ⟨_, rfl⟩
        obtain ⟨w4, hw4⟩ : ∃ w4, w4 = w3.alloc (.cells #[.slice A n c, .slice B2 m2 d2, .slice none 0 0] 110) := ⟨_, rfl⟩
        have HQ := hid hq; have HW4 := hid hw4
        have HMK : Hid (MkT w0 w4 q 110 150 (.slice A n c) (.slice B2 m2 d2) (.slice none 0 0) (q + 1) ((thrL a b).take 0)) := by
          rw [hw4, hq]
          exact ⟨tb_new w3 _ _ _ _, by rw [List.take_zero]; exact OwM.nil _ _ _, Ba HB3.out _, by omega, HB3.out.size, by simp⟩
        have hm64 : (m3 : Int) ≤ 16 := by have := (rightT_iff.1 HRR.out.symm).2.2.1; have := right_len (rightT_iff.1 HRR.out.symm).2.1; have := LM.out; omega
        clear hsame hq hw4
        go_upto_region 5 with fail
        rw [← HW4.out, ← HQ.out]
        clear a0 a1 a2 b0 b1 b2 z0 z1 z2 fz0 fz1 fz2
        go_loopw [7] (fun i wr => ∃ j : Nat, j ≤ m3 ∧ i = .int .i64 j ∧ Hid (∃ v, MkT w0 wr q 110 150 (.slice A n c) (.slice B2 m2 d2) v (q + 1) ((thrL a b).take j)) ∧ Hid (∀ (x : Nat) m f, x < j → b.mv[x]? = some m → b.nw[x]? = some f → thrB a m f = true)) (fun i _ => m3 - (intOf i).toNat)
        case atStart => exact ⟨0, by omega, rfl, hid ⟨_, HMK.out⟩, hid (fun x _ _ hm => absurd hm (by omega))⟩
        case round =>
          obtain ⟨j, hj, rfl, ⟨v, hm⟩, HA⟩ := hrel
          have HM := hid hm
          obtain ⟨c0, cc1, cc2⟩ := hm.tb.cells
          obtain ⟨a0, a1, a2⟩ := (HTA.out.on hm.bl).cells
          obtain ⟨b0, b1, b2⟩ := (HTB.out.on hm.bl).cells
          obtain ⟨z0, z1, z2⟩ := (HTZ.out.on hm.bl).cells
          have fz0 := (HTZ.out.on hm.bl).frozen 0; have fz1 := (HTZ.out.on hm.bl).frozen 1; have fz2 := (HTZ.out.on hm.bl).frozen 2
          by_cases hlt : j < m3
          · obtain ⟨y, hy⟩ : ∃ y, b.mv[j]? = some y := ⟨_, List.getElem?_eq_getElem (by have := LM.out; omega)⟩
            obtain ⟨f, hf⟩ : ∃ f, b.nw[j]? = some f := ⟨_, List.getElem?_eq_getElem (by have := (rightT_iff.1 HRR.out.symm).2.2.1; have := LM.out; omega)⟩
            obtain ⟨_, hf64, hk64, hnu, bb, off, rfl, hc⟩ := K3.out.at hy
            obtain ⟨hjm2, hfk, hfg, hfn, b2', off2, rfl, hc2⟩ := K2.out.at hf
            have HYF := hid (And.intro hy hf)
            have HNX : Hid (thrB a y f = true → ∀ (x : Nat) m f, x < j + 1 → b.mv[x]? = some m → b.nw[x]? = some f → thrB a m f = true) := hid (fun hh x m' f' hx hm' hf' => by
              by_cases e : x = j
              · subst e; rw [HYF.out.1] at hm'; cases hm'; rw [HYF.out.2] at hf'; cases hf'; exact hh
              · exact HA.out x m' f' (by omega) hm' hf')
            have HNO : Hid (thrB a y f = false → compB a b = false) := hid (fun hh => compB_no HYF.out.1 HYF.out.2 hh)
            have HMV := hid (mvB_from ((rightT_iff.1 HRR.out.symm).2.2.2 j y f hy hf))
            obtain ⟨d0, d1, d2, d3⟩ := hc wr hm.bl
            have HC2 := hid hc2
            have hji : (j : Int) < m3 := by omega
            have hj0 : (0 : Int) ≤ j := by omega
            obtain ⟨p, hp⟩ : ∃ p, p = wr.heap.size := ⟨_, rfl⟩
            obtain ⟨W1, hW1⟩ : ∃ W1, W1 = wr.alloc (.cells #[.int .i64 y.fr, .int .i64 y.k, .int .u64 y.n, .string y.t] 150) := ⟨_, rfl⟩
            have HP := hid hp; have HW1 := hid hW1
            have HMB1 : Hid (MB W1 p y 150) := by rw [hW1, hp]; exact hid (mb_new _ _ _)
            have HB1W : Hid (Below wr.heap.size wr W1) := by rw [hW1]; exact hid (B1 _ _)
            have HS1 : Hid (W1.heap.size = p + 1) := by rw [hW1, hp]; exact hid (World.size_alloc _ _)
            clear hc hc2 hf hy hp hW1 hm
            go_upto_region 8 with fail
            rw [← HW1.out, ← HP.out]
            clear d0 d1 d2 d3 c0 cc1 cc2
            clear a0 a1 a2 b0 b1 b2 z0 z1 z2 fz0 fz1 fz2
            obtain ⟨g0, g1, g2, g3⟩ := HMB1.out.cells
            by_cases hfr : 0 ≤ y.fr
            · have t0 : decide (0 ≤ y.fr) = true := decide_eq_true hfr
              obtain ⟨gg, hgg⟩ : ∃ gg, b.o[y.fr.toNat]? = some gg := by
                rcases HMV.out with h | ⟨g, _, hg, _⟩
                · omega
                · exact ⟨g, hg⟩
              have hyl : y.fr.toNat < a.nw.length := by rw [HSAME.out]; exact (List.getElem?_eq_some_iff.1 hgg).1
              obtain ⟨x, hx⟩ : ∃ x, a.mv[y.fr.toNat]? = some x := ⟨_, List.getElem?_eq_getElem (by have := (rightT_iff.1 HRA.out.symm).2.2.1; omega)⟩
              obtain ⟨hx1, xf64, xk64, xnu, xb, xoff, rfl, xc⟩ := H3.out.at hx
              have hxi : y.fr < (n3 : Int) := by omega
              have hxn : (y.fr.toNat : Int) = y.fr := Int.toNat_of_nonneg hfr
              obtain ⟨d0, d1, d2, d3⟩ := xc W1 (Bt HM.out.bl HB1W.out)
              have HX := hid hx
              have HGG : Hid (a.nw[y.fr.toNat]? = some gg) := by rw [HSAME.out]; exact hid hgg
              have HMX := hid (mvB_from ((rightT_iff.1 HRA.out.symm).2.2.2 _ x gg hx HGG.out))
              obtain ⟨p2, hp2⟩ : ∃ p2, p2 = W1.heap.size := ⟨_, rfl⟩
              obtain ⟨W2, hW2⟩ : ∃ W2, W2 = W1.alloc (.cells #[.int .i64 x.fr, .int .i64 x.k, .int .u64 x.n, .string x.t] 150) := ⟨_, rfl⟩
              have HP2 := hid hp2; have HW2 := hid hW2
              have HMB2 : Hid (MB W2 p2 x 150 ∧ MB W2 p y 150) := by rw [hW2, hp2]; exact hid ⟨mb_new _ _ _, HMB1.out.on (B1 _ _)⟩
              have HB2W : Hid (Below wr.heap.size wr W2) := by rw [hW2]; exact hid (Ba HB1W.out _)
              have HPW : Hid (wr.heap.size ≤ p ∧ p < p2) := hid ⟨by rw [HP.out]; exact Nat.le_refl _, by rw [hp2, HS1.out]; omega⟩
              obtain ⟨a0, a1, a2⟩ := (HTA.out.on (Bt HM.out.bl HB1W.out)).cells
              obtain ⟨b0, b1, b2⟩ := (HTB.out.on (Bt HM.out.bl HB1W.out)).cells
              obtain ⟨z0, z1, z2⟩ := (HTZ.out.on (Bt HM.out.bl HB1W.out)).cells
              have fz0 := (HTZ.out.on (Bt HM.out.bl HB1W.out)).frozen 0; have fz1 := (HTZ.out.on (Bt HM.out.bl HB1W.out)).frozen 1; have fz2 := (HTZ.out.on (Bt HM.out.bl HB1W.out)).frozen 2
              clear xc hx hp2 hW2 hgg hyl hx1
              go_upto_region 10 with fail
              rw [← HW2.out, ← HP2.out]
              clear d0 d1 d2 d3 g0 g1 g2 g3
              clear a0 a1 a2 b0 b1 b2 z0 z1 z2 fz0 fz1 fz2
              by_cases xfr : 0 ≤ x.fr
              · have t1 : decide (0 ≤ x.fr) = true := decide_eq_true xfr
                have t2 : decide (x.fr < 0) = false := decide_eq_false (by omega)
                obtain ⟨go, hgo⟩ : ∃ go, a.o[x.fr.toNat]? = some go := by
                  rcases HMX.out with h | ⟨g, _, hg, _⟩
                  · omega
                  · exact ⟨g, hg⟩
                obtain ⟨hgo1, _, _, _, ob, ooff, rfl, oc⟩ := H1.out.at hgo
                have HOC := hid oc
                have hoi : x.fr < (n : Int) := by omega
                have hon : (x.fr.toNat : Int) = x.fr := Int.toNat_of_nonneg xfr
                have HTH : Hid (thrB a y f = castsF go.k go.g f.k f.g) := hid (by unfold thrB fdAt; rw [if_pos hfr]; simp only [HX.out]; rw [if_pos xfr, hgo])
                have HZ : Hid (x = thrM a y f) := hid (by unfold thrM; rw [if_pos hfr]; simp only [HX.out, HGG.out]; rw [if_pos xfr])
                obtain ⟨cb, hcb⟩ : ∃ cb, cb = castsF go.k go.g f.k f.g := ⟨_, rfl⟩
                have HCB := hid hcb
                rw [← hcb] at HTH
                clear oc hgo hcb hgo1
                refine reg_begin (by kernel_rfl) (fun w0a hx0a hHeld => ?_)
                have HBV : Hid (Below wr.heap.size wr w0a) := hid (HB2W.out.trans (hx0a.mono HB2W.out.size))
                have q0 : ∀ w', Ext w0a w' → MB w' p2 x 150 := fun w' h => (HMB2.out.1.on hx0a).on h
                have q1 := fun w' h => (q0 w' h).cells.1
                have s0 : ∀ w', Ext w0a w' → Below w0.heap.size w0 w' := fun w' h => Bt (Bt HM.out.bl HBV.out) h
                have s1 := fun w' h => (HTA.out.on (s0 w' h)).cells.1
                have s2 := fun w' h => (HTB.out.on (s0 w' h)).cells.2.1
                have o0 : ∀ w', Ext w0a w' → FdC w' ob (ooff + x.fr.toNat * 3) go := fun w' h => HOC.out w' (s0 w' h)
                have o1 := fun w' h => (o0 w' h).1
                have o2 := fun w' h => (o0 w' h).2.1
                have o3 := fun w' h => (o0 w' h).2.2
                have y0 : ∀ w', Ext w0a w' → FdC w' b2' (off2 + j * 3) f := fun w' h => HC2.out w' (s0 w' h)
                have y1 := fun w' h => (y0 w' h).1
                have y2 := fun w' h => (y0 w' h).2.1
                have y3 := fun w' h => (y0 w' h).2.2
                clear q0 s0 o0 y0
                refine reg_take 0 (v := ?vb0) at0 (by kernel_rfl) (by kernel_rfl) (by kernel_rfl) (by rfl) ?hyb0 hHeld ?restb0
                case hyb0 => (intro w' hSw; go_simp; try with_reducible rfl)
                try simp only [Act.put, List.setIfInBounds_toArray, List.set_cons_zero, List.set_cons_succ]
                refine reg_take 1 (v := ?vb1) (atS at0) (by kernel_rfl) (by kernel_rfl) (by kernel_rfl) (by rfl) ?hyb1 hHeld ?restb1
                case hyb1 => (intro w' hSw; go_simp; try with_reducible rfl)
                try simp only [Act.put, List.setIfInBounds_toArray, List.set_cons_zero, List.set_cons_succ]
                refine reg_take 2 (v := ?vb2) (atS (atS at0)) (by kernel_rfl) (by kernel_rfl) (by kernel_rfl) (by rfl) ?hyb2 hHeld ?restb2
                case hyb2 => (intro w' hSw; go_simp; try with_reducible rfl)
                try simp only [Act.put, List.setIfInBounds_toArray, List.set_cons_zero, List.set_cons_succ]
                refine reg_take 3 (v := ?vb3) (atS (atS (atS at0))) (by kernel_rfl) (by kernel_rfl) (by kernel_rfl) (by rfl) ?hyb3 hHeld ?restb3
                case hyb3 => (intro w' hSw; go_simp; try with_reducible rfl)
                try simp only [Act.put, List.setIfInBounds_toArray, List.set_cons_zero, List.set_cons_succ]
                refine reg_take 4 (v := ?vb4) (atS (atS (atS (atS at0)))) (by kernel_rfl) (by kernel_rfl) (by kernel_rfl) (by rfl) ?hyb4 hHeld ?restb4
                case hyb4 => (intro w' hSw; go_simp; try with_reducible rfl)
                try simp only [Act.put, List.setIfInBounds_toArray, List.set_cons_zero, List.set_cons_succ]
                refine reg_take 5 (v := ?vb5) (atS5 at0) (by kernel_rfl) (by kernel_rfl) (by kernel_rfl) (by rfl) ?hyb5 hHeld ?restb5
                case hyb5 => (intro w' hSw; go_simp; try with_reducible rfl)
                try simp only [Act.put, List.setIfInBounds_toArray, List.set_cons_zero, List.set_cons_succ]
                refine reg_take 6 (v := ?vb6) (atS5 (atS at0)) (by kernel_rfl) (by kernel_rfl) (by kernel_rfl) (by rfl) ?hyb6 hHeld ?restb6
                case hyb6 => (intro w' hSw; go_simp; try with_reducible rfl)
                try simp only [Act.put, List.setIfInBounds_toArray, List.set_cons_zero, List.set_cons_succ]
                refine reg_take 7 (v := ?vb7) (atS5 (atS (atS at0))) (by kernel_rfl) (by kernel_rfl) (by kernel_rfl) (by rfl) ?hyb7 hHeld ?restb7
                case hyb7 => (intro w' hSw; go_simp; try with_reducible rfl)
                try simp only [Act.put, List.setIfInBounds_toArray, List.set_cons_zero, List.set_cons_succ]
                refine reg_take 8 (v := ?vb8) (atS5 (atS (atS (atS at0)))) (by kernel_rfl) (by kernel_rfl) (by kernel_rfl) (by rfl) ?hyb8 hHeld ?restb8
                case hyb8 => (intro w' hSw; go_simp; try with_reducible rfl)
                try simp only [Act.put, List.setIfInBounds_toArray, List.set_cons_zero, List.set_cons_succ]
                refine reg_take 9 (v := ?vb9) (atS5 (atS (atS (atS (atS at0))))) (by kernel_rfl) (by kernel_rfl) (by kernel_rfl) (by rfl) ?hyb9 hHeld ?restb9
                case hyb9 => (intro w' hSw; go_simp; try with_reducible rfl)
                try simp only [Act.put, List.setIfInBounds_toArray, List.set_cons_zero, List.set_cons_succ]
                refine reg_take 10 (v := ?vb10) (atS5 (atS5 at0)) (by kernel_rfl) (by kernel_rfl) (by kernel_rfl) (by rfl) ?hyb10 hHeld ?restb10
                case hyb10 => (intro w' hSw; go_simp; try with_reducible rfl)
                try simp only [Act.put, List.setIfInBounds_toArray, List.set_cons_zero, List.set_cons_succ]
                refine reg_take 11 (v := ?vb11) (atS5 (atS5 (atS at0))) (by kernel_rfl) (by kernel_rfl) (by kernel_rfl) (by rfl) ?hyb11 hHeld ?restb11
                case hyb11 => (intro w' hSw; go_simp; try with_reducible rfl)
                try simp only [Act.put, List.setIfInBounds_toArray, List.set_cons_zero, List.set_cons_succ]
                refine reg_take 12 (v := ?vb12) (atS5 (atS5 (atS (atS at0)))) (by kernel_rfl) (by kernel_rfl) (by kernel_rfl) (by rfl) ?hyb12 hHeld ?restb12
                case hyb12 => (intro w' hSw; go_simp; try with_reducible rfl)
                try simp only [Act.put, List.setIfInBounds_toArray, List.set_cons_zero, List.set_cons_succ]
                refine reg_take 13 (v := ?vb13) (atS5 (atS5 (atS (atS (atS at0))))) (by kernel_rfl) (by kernel_rfl) (by kernel_rfl) (by rfl) ?hyb13 hHeld ?restb13
                case hyb13 => (intro w' hSw; go_simp; try with_reducible rfl)
                try simp only [Act.put, List.setIfInBounds_toArray, List.set_cons_zero, List.set_cons_succ]
                refine reg_take 14 (v := ?vb14) (atS5 (atS5 (atS (atS (atS (atS at0)))))) (by kernel_rfl) (by kernel_rfl) (by kernel_rfl) (by rfl) ?hyb14 hHeld ?restb14
                case hyb14 => (intro w' hSw; go_simp; try with_reducible rfl)
                try simp only [Act.put, List.setIfInBounds_toArray, List.set_cons_zero, List.set_cons_succ]
                refine wpAnyH_ready (rs := [15]) (by kernel_rfl) (by simp) ?_
                refine AllReadyH.cons (atS5 (atS5 (atS5 at0))) (fun K hK => ?_) AllReadyH.nil
                go_simp
                refine (rcasts_any (bs go.nm) (bs f.nm) go.k go.g f.k f.g _).mono ?_
                rintro e w5 ⟨rfl, hb5⟩
                rw [← HCB.out]
                have HB5 := hid hb5
                go_wp2_with fail
                refine hK.out _ _ HB5.out (fun hHeld => ?_)
                clear hK K
                try simp only [Act.put, List.setIfInBounds_toArray, List.set_cons_zero, List.set_cons_succ]
                refine reg_on HB5.out (fun hHeld => ?_)
                refine reg_take 16 (v := ?vb16) (atS5 (atS5 (atS5 (atS at0)))) (by kernel_rfl) (by kernel_rfl) (by kernel_rfl) (by rfl) ?hyb16 hHeld ?restb16
                case hyb16 => (intro w' hSw; go_simp; try with_reducible rfl)
                try simp only [Act.put, List.setIfInBounds_toArray, List.set_cons_zero, List.set_cons_succ]
                refine reg_take 17 (v := ?vb17) (atS5 (atS5 (atS5 (atS (atS at0))))) (by kernel_rfl) (by kernel_rfl) (by kernel_rfl) (by rfl) ?hyb17 hHeld ?restb17
                case hyb17 => (intro w' hSw; go_simp; try with_reducible rfl)
                try simp only [Act.put, List.setIfInBounds_toArray, List.set_cons_zero, List.set_cons_succ]
                refine wpAnyH_done (by kernel_rfl) ?_ _
                refine NoPanic.normal ?_
                clear q1 s1 s2 o1 o2 o3 y1 y2 y3
                have HB5W : Hid (Below wr.heap.size wr w5) := hid (HBV.out.trans (HB5.out.mono HBV.out.size))
                have HMB5 : Hid (MB w5 p2 x 150 ∧ MB w5 p y 150) := hid ⟨(HMB2.out.1.on hx0a).on HB5.out, (HMB2.out.2.on hx0a).on HB5.out⟩
                cases cb
                · have HE : Hid (compB a b = false) := hid (HNO.out HTH.out)
                  obtain ⟨a0, a1, a2⟩ := (HTA.out.on (Bt HM.out.bl HB5W.out)).cells
                  obtain ⟨b0, b1, b2⟩ := (HTB.out.on (Bt HM.out.bl HB5W.out)).cells
                  obtain ⟨z0, z1, z2⟩ := (HTZ.out.on (Bt HM.out.bl HB5W.out)).cells
                  have fz0 := (HTZ.out.on (Bt HM.out.bl HB5W.out)).frozen 0; have fz1 := (HTZ.out.on (Bt HM.out.bl HB5W.out)).frozen 1; have fz2 := (HTZ.out.on (Bt HM.out.bl HB5W.out)).frozen 2
                  go_wp2_with fail
                  exact ret_TB7e (by rfl) (by rfl) ((HTZ.out.on (Bt HM.out.bl HB5W.out)).set3 _ _ _) (by rfl) (by rfl) ⟨_, by rw [compE_no HE.out]; rfl, by rw [compT_no HE.out]; exact RdT.nil _ _, B3 (Bt HB0.out (Bt HM.out.bl HB5W.out)) HRZ.out _ _ _⟩
                · obtain ⟨g0, g1, g2, g3⟩ := HMB5.out.1.cells
                  obtain ⟨e0, e1, e2, e3⟩ := HMB5.out.2.cells
                  have u0 := HMB5.out.2.frozen 0; have u1 := HMB5.out.2.frozen 1; have u2 := HMB5.out.2.frozen 2; have u3 := HMB5.out.2.frozen 3
                  have HTB2 : Hid (thrB a y f = true) := HTH
                  go_upto_region 16 with fail
                  obtain ⟨W, hW⟩ : ∃ W, W = (((w5.setCell ⟨p, 0, none⟩ (.int .i64 x.fr)).setCell ⟨p, 1, none⟩ (.int .i64 x.k)).setCell ⟨p, 2, none⟩ (.int .u64 x.n)).setCell ⟨p, 3, none⟩ (.string x.t) := ⟨_, rfl⟩
                  rw [← hW]
                  have HMB : Hid (MB W p x 150) := by rw [hW]; exact hid (HMB5.out.2.set4 x)
                  have HBW : Hid (Below wr.heap.size wr W) := by rw [hW]; exact hid (B4 HB5W.out HPW.out.1 _ _ _ _)
                  clear hW u0 u1 u2 u3 g0 g1 g2 g3 e0 e1 e2 e3
                  have hmW := HM.out.on HBW.out
                  obtain ⟨v', w3', hrun, hown, hgr⟩ := run_appMv Tryz.underlying108 infoMd hmW.ow (x) (by rw [List.length_take]; omega) hmW.az 108
                  have hmk := (hmW.on (B1 _ (.cells #[.int .i64 (x).fr, .int .i64 (x).k, .int .u64 (x).n, .string (x).t] 150))).app hgr hown
                  rw [show (x) = thrM a y f from HZ.out, ← thrL_take HYF.out.1 HYF.out.2] at hmk
                  have htb := (hmW.on (B1 _ (.cells #[.int .i64 (x).fr, .int .i64 (x).k, .int .u64 (x).n, .string (x).t] 150))).tb.grown hgr (fun e => by have := (hmW.ow.blk2 _ e.symm).1; have := hmW.qb; omega)
                  have fz := htb.frozen 2
                  have ct := htb.cells.2.2
                  obtain ⟨c0, cc1, cc2⟩ := hmW.tb.cells
                  obtain ⟨g0, g1, g2, g3⟩ := HMB.out.cells
                  obtain ⟨A4, n4, c4, rfl⟩ := hown.shape
                  have HRUN := hid hrun; have HMK2 := hid hmk
                  clear hrun hown hgr hmk htb hmW
                  go_wp2_with (at_builtin; refine wpList_appG rfl _ _ rfl rfl rfl HRUN.out ?_)
                  exact ⟨⟨j + 1, by omega, by go_num, hid ⟨_, HMK2.out⟩, hid (HNX.out HTB2.out)⟩, by simp [intOf]; omega⟩
              · have t1 : decide (0 ≤ x.fr) = false := decide_eq_false xfr
                have t2 : decide (x.fr < 0) = true := decide_eq_true (by omega)
                have HXR : Hid (rightF x.k x.n x.t.size gg.k gg.g = true) := by
                  rcases mvB_from ((rightT_iff.1 HRA.out.symm).2.2.2 _ x gg HX.out HGG.out) with h | ⟨g, h, _⟩
                  · have hh := (rightT_iff.1 HRA.out.symm).2.2.2 _ x gg HX.out HGG.out
                    rw [mvB_new h, Bool.and_eq_true] at hh
                    exact hid hh.1
                  · omega
                have HGB : Hid (b.o[y.fr.toNat]? = some gg) := by rw [← HSAME.out]; exact HGG
                have HCS : Hid (castsF gg.k gg.g f.k f.g = true) := by
                  rcases HMV.out with h | ⟨g, _, hg, _, hc⟩
                  · omega
                  · rw [HGB.out] at hg; cases hg; exact hid hc
                have HCR : Hid (castR x.k x.n x.t gg.k gg.g f.k f.g = _) := hid (castR_ok HXR.out HCS.out)
                obtain ⟨hgo1, _, _, _, ob, ooff, rfl, oc⟩ := K1.out.at HGB.out
                have HOC := hid oc
                have hoi : y.fr < (m : Int) := by omega
                have HTB2 : Hid (thrB a y f = true) := hid (by unfold thrB fdAt; rw [if_pos hfr]; simp only [HX.out]; rw [if_neg xfr])
                have HZ : Hid ((⟨x.fr, f.k, castN x.n gg.k f.k, castT x.t f.k f.g⟩ : Mv) = thrM a y f) := hid (by unfold thrM; rw [if_pos hfr]; simp only [HX.out, HGG.out]; rw [if_neg xfr])
                clear oc hgo1
                refine reg_begin (by kernel_rfl) (fun w0b hx0b hHeld => ?_)
                have HBV : Hid (Below wr.heap.size wr w0b) := hid (HB2W.out.trans (hx0b.mono HB2W.out.size))
                have q0 : ∀ w', Ext w0b w' → MB w' p2 x 150 := fun w' h => (HMB2.out.1.on hx0b).on h
                have q1 := fun w' h => (q0 w' h).cells.1
                clear q0
                refine reg_take 0 (v := ?vc0) at0 (by kernel_rfl) (by kernel_rfl) (by kernel_rfl) (by rfl) ?hyc0 hHeld ?restc0
                case hyc0 => (intro w' hSw; go_simp; try with_reducible rfl)
                try simp only [Act.put, List.setIfInBounds_toArray, List.set_cons_zero, List.set_cons_succ]
                refine reg_take 1 (v := ?vc1) (atS at0) (by kernel_rfl) (by kernel_rfl) (by kernel_rfl) (by rfl) ?hyc1 hHeld ?restc1
                case hyc1 => (intro w' hSw; go_simp; try with_reducible rfl)
                try simp only [Act.put, List.setIfInBounds_toArray, List.set_cons_zero, List.set_cons_succ]
                refine reg_take 2 (v := ?vc2) (atS (atS at0)) (by kernel_rfl) (by kernel_rfl) (by kernel_rfl) (by rfl) ?hyc2 hHeld ?restc2
                case hyc2 => (intro w' hSw; go_simp; try with_reducible rfl)
                try simp only [Act.put, List.setIfInBounds_toArray, List.set_cons_zero, List.set_cons_succ]
                refine reg_take 3 (v := ?vc3) (atS (atS (atS at0))) (by kernel_rfl) (by kernel_rfl) (by kernel_rfl) (by rfl) ?hyc3 hHeld ?restc3
                case hyc3 => (intro w' hSw; go_simp; try with_reducible rfl)
                try simp only [Act.put, List.setIfInBounds_toArray, List.set_cons_zero, List.set_cons_succ]
                refine reg_skip 4 (atS (atS (atS (atS at0)))) (by kernel_rfl) (by kernel_rfl) (by kernel_rfl) (by rfl) hHeld ?_
                try simp only [Act.put, List.setIfInBounds_toArray, List.set_cons_zero, List.set_cons_succ]
                refine reg_skip 5 (atS5 at0) (by kernel_rfl) (by kernel_rfl) (by kernel_rfl) (by rfl) hHeld ?_
                try simp only [Act.put, List.setIfInBounds_toArray, List.set_cons_zero, List.set_cons_succ]
                refine reg_skip 6 (atS5 (atS at0)) (by kernel_rfl) (by kernel_rfl) (by kernel_rfl) (by rfl) hHeld ?_
                try simp only [Act.put, List.setIfInBounds_toArray, List.set_cons_zero, List.set_cons_succ]
                refine reg_skip 7 (atS5 (atS (atS at0))) (by kernel_rfl) (by kernel_rfl) (by kernel_rfl) (by rfl) hHeld ?_
                try simp only [Act.put, List.setIfInBounds_toArray, List.set_cons_zero, List.set_cons_succ]
                refine reg_skip 8 (atS5 (atS (atS (atS at0)))) (by kernel_rfl) (by kernel_rfl) (by kernel_rfl) (by rfl) hHeld ?_
                try simp only [Act.put, List.setIfInBounds_toArray, List.set_cons_zero, List.set_cons_succ]
                refine reg_skip 9 (atS5 (atS (atS (atS (atS at0))))) (by kernel_rfl) (by kernel_rfl) (by kernel_rfl) (by rfl) hHeld ?_
                try simp only [Act.put, List.setIfInBounds_toArray, List.set_cons_zero, List.set_cons_succ]
                refine reg_skip 10 (atS5 (atS5 at0)) (by kernel_rfl) (by kernel_rfl) (by kernel_rfl) (by rfl) hHeld ?_
                try simp only [Act.put, List.setIfInBounds_toArray, List.set_cons_zero, List.set_cons_succ]
                refine reg_skip 11 (atS5 (atS5 (atS at0))) (by kernel_rfl) (by kernel_rfl) (by kernel_rfl) (by rfl) hHeld ?_
                try simp only [Act.put, List.setIfInBounds_toArray, List.set_cons_zero, List.set_cons_succ]
                refine reg_skip 12 (atS5 (atS5 (atS (atS at0)))) (by kernel_rfl) (by kernel_rfl) (by kernel_rfl) (by rfl) hHeld ?_
                try simp only [Act.put, List.setIfInBounds_toArray, List.set_cons_zero, List.set_cons_succ]
                refine reg_skip 13 (atS5 (atS5 (atS (atS (atS at0))))) (by kernel_rfl) (by kernel_rfl) (by kernel_rfl) (by rfl) hHeld ?_
                try simp only [Act.put, List.setIfInBounds_toArray, List.set_cons_zero, List.set_cons_succ]
                refine reg_skip 14 (atS5 (atS5 (atS (atS (atS (atS at0)))))) (by kernel_rfl) (by kernel_rfl) (by kernel_rfl) (by rfl) hHeld ?_
                try simp only [Act.put, List.setIfInBounds_toArray, List.set_cons_zero, List.set_cons_succ]
                refine reg_skip 15 (atS5 (atS5 (atS5 at0))) (by kernel_rfl) (by kernel_rfl) (by kernel_rfl) (by rfl) hHeld ?_
                try simp only [Act.put, List.setIfInBounds_toArray, List.set_cons_zero, List.set_cons_succ]
                refine reg_skip 16 (atS5 (atS5 (atS5 (atS at0)))) (by kernel_rfl) (by kernel_rfl) (by kernel_rfl) (by rfl) hHeld ?_
                try simp only [Act.put, List.setIfInBounds_toArray, List.set_cons_zero, List.set_cons_succ]
                refine reg_take 17 (v := ?vc17) (atS5 (atS5 (atS5 (atS (atS at0))))) (by kernel_rfl) (by kernel_rfl) (by kernel_rfl) (by rfl) ?hyc17 hHeld ?restc17
                case hyc17 => (intro w' hSw; go_simp; try with_reducible rfl)
                try simp only [Act.put, List.setIfInBounds_toArray, List.set_cons_zero, List.set_cons_succ]
                refine wpAnyH_done (by kernel_rfl) ?_ _
                refine NoPanic.normal ?_
                clear q1
                have HMB3 : Hid (MB w0b p2 x 150 ∧ MB w0b p y 150) := hid ⟨HMB2.out.1.on hx0b, HMB2.out.2.on hx0b⟩
                obtain ⟨g0, g1, g2, g3⟩ := HMB3.out.1.cells
                go_upto_region 13 with fail
                clear g0 g1 g2 g3
                obtain ⟨cn, hcn⟩ : ∃ cn, cn = castN x.n gg.k f.k := ⟨_, rfl⟩
                obtain ⟨ct, hct⟩ : ∃ ct, ct = castT x.t f.k f.g := ⟨_, rfl⟩
                rw [← hcn, ← hct] at HZ HCR
                clear hcn hct
                refine reg_begin (by kernel_rfl) (fun w0c hx0c hHeld => ?_)
                have HBV2 : Hid (Below wr.heap.size wr w0c) := hid (HBV.out.trans (hx0c.mono HBV.out.size))
                have q0 : ∀ w', Ext w0c w' → MB w' p2 x 150 := fun w' h => (HMB3.out.1.on hx0c).on h
                have q1 := fun w' h => (q0 w' h).cells.2.1
                have q2 := fun w' h => (q0 w' h).cells.2.2.1
                have q3 := fun w' h => (q0 w' h).cells.2.2.2
                have v0 : ∀ w', Ext w0c w' → MB w' p y 150 := fun w' h => (HMB3.out.2.on hx0c).on h
                have v1 := fun w' h => (v0 w' h).cells.1
                have s0 : ∀ w', Ext w0c w' → Below w0.heap.size w0 w' := fun w' h => Bt (Bt HM.out.bl HBV2.out) h
                have s1 := fun w' h => (HTB.out.on (s0 w' h)).cells.1
                have s2 := fun w' h => (HTB.out.on (s0 w' h)).cells.2.1
                have o0 : ∀ w', Ext w0c w' → FdC w' ob (ooff + y.fr.toNat * 3) gg := fun w' h => HOC.out w' (s0 w' h)
                have o1 := fun w' h => (o0 w' h).1
                have o2 := fun w' h => (o0 w' h).2.1
                have o3 := fun w' h => (o0 w' h).2.2
                have y0 : ∀ w', Ext w0c w' → FdC w' b2' (off2 + j * 3) f := fun w' h => HC2.out w' (s0 w' h)
                have y1 := fun w' h => (y0 w' h).1
                have y2 := fun w' h => (y0 w' h).2.1
                have y3 := fun w' h => (y0 w' h).2.2
                clear q0 s0 o0 y0 v0
                refine reg_take 0 (v := ?vz1_0) at0 (by kernel_rfl) (by kernel_rfl) (by kernel_rfl) (by rfl) ?hyz1_0 hHeld ?restz1_0
                case hyz1_0 => (intro w' hSw; go_simp; try with_reducible rfl)
                try simp only [Act.put, List.setIfInBounds_toArray, List.set_cons_zero, List.set_cons_succ]
                refine reg_take 1 (v := ?vz2_1) (atS at0) (by kernel_rfl) (by kernel_rfl) (by kernel_rfl) (by rfl) ?hyz2_1 hHeld ?restz2_1
                case hyz2_1 => (intro w' hSw; go_simp; try with_reducible rfl)
                try simp only [Act.put, List.setIfInBounds_toArray, List.set_cons_zero, List.set_cons_succ]
                refine reg_take 2 (v := ?vz3_2) (atS (atS at0)) (by kernel_rfl) (by kernel_rfl) (by kernel_rfl) (by rfl) ?hyz3_2 hHeld ?restz3_2
                case hyz3_2 => (intro w' hSw; go_simp; try with_reducible rfl)
                try simp only [Act.put, List.setIfInBounds_toArray, List.set_cons_zero, List.set_cons_succ]
                refine reg_take 3 (v := ?vz4_3) (atS (atS (atS at0))) (by kernel_rfl) (by kernel_rfl) (by kernel_rfl) (by rfl) ?hyz4_3 hHeld ?restz4_3
                case hyz4_3 => (intro w' hSw; go_simp; try with_reducible rfl)
                try simp only [Act.put, List.setIfInBounds_toArray, List.set_cons_zero, List.set_cons_succ]
                refine reg_take 4 (v := ?vz5_4) (atS (atS (atS (atS at0)))) (by kernel_rfl) (by kernel_rfl) (by kernel_rfl) (by rfl) ?hyz5_4 hHeld ?restz5_4
                case hyz5_4 => (intro w' hSw; go_simp; try with_reducible rfl)
                try simp only [Act.put, List.setIfInBounds_toArray, List.set_cons_zero, List.set_cons_succ]
                refine reg_take 5 (v := ?vz6_5) (atS5 at0) (by kernel_rfl) (by kernel_rfl) (by kernel_rfl) (by rfl) ?hyz6_5 hHeld ?restz6_5
                case hyz6_5 => (intro w' hSw; go_simp; try with_reducible rfl)
                try simp only [Act.put, List.setIfInBounds_toArray, List.set_cons_zero, List.set_cons_succ]
                refine reg_take 6 (v := ?vz7_6) (atS5 (atS at0)) (by kernel_rfl) (by kernel_rfl) (by kernel_rfl) (by rfl) ?hyz7_6 hHeld ?restz7_6
                case hyz7_6 => (intro w' hSw; go_simp; try with_reducible rfl)
                try simp only [Act.put, List.setIfInBounds_toArray, List.set_cons_zero, List.set_cons_succ]
                refine reg_take 7 (v := ?vz8_7) (atS5 (atS (atS at0))) (by kernel_rfl) (by kernel_rfl) (by kernel_rfl) (by rfl) ?hyz8_7 hHeld ?restz8_7
                case hyz8_7 => (intro w' hSw; go_simp; try with_reducible rfl)
                try simp only [Act.put, List.setIfInBounds_toArray, List.set_cons_zero, List.set_cons_succ]
                refine reg_take 8 (v := ?vz9_8) (atS5 (atS (atS (atS at0)))) (by kernel_rfl) (by kernel_rfl) (by kernel_rfl) (by rfl) ?hyz9_8 hHeld ?restz9_8
                case hyz9_8 => (intro w' hSw; go_simp; try with_reducible rfl)
                try simp only [Act.put, List.setIfInBounds_toArray, List.set_cons_zero, List.set_cons_succ]
                refine reg_take 9 (v := ?vz10_9) (atS5 (atS (atS (atS (atS at0))))) (by kernel_rfl) (by kernel_rfl) (by kernel_rfl) (by rfl) ?hyz10_9 hHeld ?restz10_9
                case hyz10_9 => (intro w' hSw; go_simp; try with_reducible rfl)
                try simp only [Act.put, List.setIfInBounds_toArray, List.set_cons_zero, List.set_cons_succ]
                refine reg_take 10 (v := ?vz11_10) (atS5 (atS5 at0)) (by kernel_rfl) (by kernel_rfl) (by kernel_rfl) (by rfl) ?hyz11_10 hHeld ?restz11_10
                case hyz11_10 => (intro w' hSw; go_simp; try with_reducible rfl)
                try simp only [Act.put, List.setIfInBounds_toArray, List.set_cons_zero, List.set_cons_succ]
                refine reg_take 11 (v := ?vz12_11) (atS5 (atS5 (atS at0))) (by kernel_rfl) (by kernel_rfl) (by kernel_rfl) (by rfl) ?hyz12_11 hHeld ?restz12_11
                case hyz12_11 => (intro w' hSw; go_simp; try with_reducible rfl)
                try simp only [Act.put, List.setIfInBounds_toArray, List.set_cons_zero, List.set_cons_succ]
                refine reg_take 12 (v := ?vz13_12) (atS5 (atS5 (atS (atS at0)))) (by kernel_rfl) (by kernel_rfl) (by kernel_rfl) (by rfl) ?hyz13_12 hHeld ?restz13_12
                case hyz13_12 => (intro w' hSw; go_simp; try with_reducible rfl)
                try simp only [Act.put, List.setIfInBounds_toArray, List.set_cons_zero, List.set_cons_succ]
                refine wpAnyH_ready (rs := [13, 17]) (by kernel_rfl) (by simp) ?_
                refine AllReadyH.cons (atS5 (atS5 (atS (atS (atS at0))))) (fun K hK => ?_) (AllReadyH.cons (atS5 (atS5 (atS5 (atS (atS at0))))) (fun K hK => ?_) AllReadyH.nil)
                · skip
                  go_simp
                  refine (rcast_any x.k x.n x.t (bs gg.nm) (bs f.nm) gg.k gg.g f.k f.g _ xnu).mono ?_
                  rintro e w6 ⟨rfl, hb6⟩
                  rw [HCR.out]
                  have HB6 : Hid (Below w0c.heap.size w0c w6) := hid (by first | exact hb6 | exact Bt (B1 _ _) hb6)
                  first | (have HVB : Hid (VB w6 w0c.heap.size 0 0 ⟨#[]⟩) := hid ((vb_new w0c 0 0 ⟨#[]⟩).on hb6); have sf0 := HVB.out.frozen 0; have sf1 := HVB.out.frozen 1; have sf2 := HVB.out.frozen 2; have sv0 := HVB.out.cells.1; have sv1 := HVB.out.cells.2.1; have sv2 := HVB.out.cells.2.2) | skip
                  clear hb6
                  go_wp2_with fail
                  refine hK.out _ _ HB6.out (fun hHeld => ?_)
                  clear hK K
                  try simp only [Act.put, List.setIfInBounds_toArray, List.set_cons_zero, List.set_cons_succ]
                  refine reg_take 14 (v := ?vz14_14) (atS5 (atS5 (atS (atS (atS (atS at0)))))) (by kernel_rfl) (by kernel_rfl) (by kernel_rfl) (by rfl) ?hyz14_14 hHeld ?restz14_14
                  case hyz14_14 => (intro w' hSw; go_simp; try with_reducible rfl)
                  try simp only [Act.put, List.setIfInBounds_toArray, List.set_cons_zero, List.set_cons_succ]
                  refine reg_take 15 (v := ?vz15_15) (atS5 (atS5 (atS5 at0))) (by kernel_rfl) (by kernel_rfl) (by kernel_rfl) (by rfl) ?hyz15_15 hHeld ?restz15_15
                  case hyz15_15 => (intro w' hSw; go_simp; try with_reducible rfl)
                  try simp only [Act.put, List.setIfInBounds_toArray, List.set_cons_zero, List.set_cons_succ]
                  refine reg_take 16 (v := ?vz16_16) (atS5 (atS5 (atS5 (atS at0)))) (by kernel_rfl) (by kernel_rfl) (by kernel_rfl) (by rfl) ?hyz16_16 hHeld ?restz16_16
                  case hyz16_16 => (intro w' hSw; go_simp; try with_reducible rfl)
                  try simp only [Act.put, List.setIfInBounds_toArray, List.set_cons_zero, List.set_cons_succ]
                  refine wpAnyH_ready (rs := [17]) (by kernel_rfl) (by simp) ?_
                  refine AllReadyH.cons (atS5 (atS5 (atS5 (atS (atS at0))))) (fun K hK => ?_) AllReadyH.nil
                  go_simp
                  skip
                  refine hK.out _ _ (by first | exact Ba HB6.out _ | exact B1 _ _) (fun hHeld => ?_)
                  clear hK K
                  try simp only [Act.put, List.setIfInBounds_toArray, List.set_cons_zero, List.set_cons_succ]
                  refine wpAnyH_ready (rs := [18]) (by kernel_rfl) (by simp) ?_
                  refine AllReadyH.cons (atS5 (atS5 (atS5 (atS (atS (atS at0)))))) (fun K hK => ?_) AllReadyH.nil
                  go_simp
                  skip
                  refine hK.out _ _ (by first | exact Ba HB6.out _ | exact B3 HB6.out (Nat.le_refl _) (.int .i64 f.k) (.int .u64 cn) (.string ct)) (fun hHeld => ?_)
                  clear hK K
                  try simp only [Act.put]
                  refine reg_take 19 (v := ?vz17_19) (atS5 (atS5 (atS5 (atS (atS (atS (atS at0))))))) (by kernel_rfl) (by kernel_rfl) (by kernel_rfl) (by rfl) ?hyz17_19 hHeld ?restz17_19
                  case hyz17_19 => (intro w' hSw; go_simp; try with_reducible rfl)
                  try simp only [Act.put, List.setIfInBounds_toArray, List.set_cons_zero, List.set_cons_succ]
                  refine wpAnyH_done (by kernel_rfl) ?_ _
                  refine NoPanic.normal ?_
                  clear q1 q2 q3 v1 s1 s2 o1 o2 o3 y1 y2 y3
                  first
                  | (obtain ⟨w7, hw7⟩ : ∃ w7, w7 = w6.alloc (.cells #[.int .i64 f.k, .int .u64 cn, .string ct] 71) := ⟨_, rfl⟩
                     obtain ⟨p3, hp3⟩ : ∃ p3, p3 = w6.heap.size := ⟨_, rfl⟩
                     rw [← hw7, ← hp3]
                     have HV7 : Hid (VB w7 p3 f.k cn ct) := by rw [hw7, hp3]; exact hid (vb_new w6 f.k cn ct)
                     have HB7 : Hid (Below w0c.heap.size w0c w7) := by rw [hw7]; exact hid (Ba HB6.out _)
                     clear hw7 hp3)
                  | (obtain ⟨w7, hw7⟩ : ∃ w7, w7 = ((w6.setCell ⟨w0c.heap.size, 0, none⟩ (.int .i64 f.k)).setCell ⟨w0c.heap.size, 1, none⟩ (.int .u64 cn)).setCell ⟨w0c.heap.size, 2, none⟩ (.string ct) := ⟨_, rfl⟩
                     obtain ⟨p3, hp3⟩ : ∃ p3, p3 = w0c.heap.size := ⟨_, rfl⟩
                     rw [← hw7, ← hp3]
                     have HV7 : Hid (VB w7 p3 f.k cn ct) := by rw [hw7, hp3]; exact hid (((HVB.out.setKind f.k).setBits cn).setText ct)
                     have HB7 : Hid (Below w0c.heap.size w0c w7) := by rw [hw7]; exact hid (B3 HB6.out (Nat.le_refl _) _ _ _)
                     clear hw7 hp3)
                  have HB7W : Hid (Below wr.heap.size wr w7) := hid (HBV2.out.trans (HB7.out.mono HBV2.out.size))
                  have HMB7 : Hid (MB w7 p2 x 150 ∧ MB w7 p y 150) := hid ⟨(HMB3.out.1.on hx0c).on HB7.out, (HMB3.out.2.on hx0c).on HB7.out⟩
                  have HMB8 := hid (HMB7.out.1.set3 f.k cn ct)
                  have HMB9 : Hid (MB (((w7.setCell ⟨p2, 1, none⟩ (.int .i64 f.k)).setCell ⟨p2, 2, none⟩ (.int .u64 cn)).setCell ⟨p2, 3, none⟩ (.string ct)) p y 150) := hid (((HMB7.out.2.other (by have := HPW.out; omega) 1 _).other (by have := HPW.out; omega) 2 _).other (by have := HPW.out; omega) 3 _)
                  obtain ⟨k0, k1, k2⟩ := HV7.out.cells
                  obtain ⟨g0, g1, g2, g3⟩ := HMB7.out.1.cells
                  have u1 := HMB7.out.1.frozen 1; have u2 := HMB7.out.1.frozen 2; have u3 := HMB7.out.1.frozen 3
                  obtain ⟨e0, e1, e2, e3⟩ := HMB8.out.cells
                  obtain ⟨f0, f1, f2, f3⟩ := HMB9.out.cells
                  have t5 := HMB9.out.frozen 0; have t6 := HMB9.out.frozen 1; have t7 := HMB9.out.frozen 2; have t8 := HMB9.out.frozen 3
                  go_upto_region 16 with fail
                  obtain ⟨W, hW⟩ : ∃ W, W = ((((((w7.setCell ⟨p2, 1, none⟩ (.int .i64 f.k)).setCell ⟨p2, 2, none⟩ (.int .u64 cn)).setCell ⟨p2, 3, none⟩ (.string ct)).setCell ⟨p, 0, none⟩ (.int .i64 x.fr)).setCell ⟨p, 1, none⟩ (.int .i64 f.k)).setCell ⟨p, 2, none⟩ (.int .u64 cn)).setCell ⟨p, 3, none⟩ (.string ct) := ⟨_, rfl⟩
                  rw [← hW]
                  have HMB : Hid (MB W p ⟨x.fr, f.k, cn, ct⟩ 150) := by rw [hW]; exact hid (HMB9.out.set4 ⟨x.fr, f.k, cn, ct⟩)
                  have HBW : Hid (Below wr.heap.size wr W) := by rw [hW]; exact hid (B4 (B3' HB7W.out (by have := HPW.out; omega) _ _ _) HPW.out.1 _ _ _ _)
                  clear hW k0 k1 k2 g0 g1 g2 g3 u1 u2 u3 e0 e1 e2 e3 f0 f1 f2 f3 t5 t6 t7 t8
                  have hmW := HM.out.on HBW.out
                  obtain ⟨v', w3', hrun, hown, hgr⟩ := run_appMv Tryz.underlying108 infoMd hmW.ow (⟨x.fr, f.k, cn, ct⟩ : Mv) (by rw [List.length_take]; omega) hmW.az 108
                  have hmk := (hmW.on (B1 _ (.cells #[.int .i64 (⟨x.fr, f.k, cn, ct⟩ : Mv).fr, .int .i64 (⟨x.fr, f.k, cn, ct⟩ : Mv).k, .int .u64 (⟨x.fr, f.k, cn, ct⟩ : Mv).n, .string (⟨x.fr, f.k, cn, ct⟩ : Mv).t] 150))).app hgr hown
                  rw [show (⟨x.fr, f.k, cn, ct⟩ : Mv) = thrM a y f from HZ.out, ← thrL_take HYF.out.1 HYF.out.2] at hmk
                  have htb := (hmW.on (B1 _ (.cells #[.int .i64 (⟨x.fr, f.k, cn, ct⟩ : Mv).fr, .int .i64 (⟨x.fr, f.k, cn, ct⟩ : Mv).k, .int .u64 (⟨x.fr, f.k, cn, ct⟩ : Mv).n, .string (⟨x.fr, f.k, cn, ct⟩ : Mv).t] 150))).tb.grown hgr (fun e => by have := (hmW.ow.blk2 _ e.symm).1; have := hmW.qb; omega)
                  have fz := htb.frozen 2
                  have ct := htb.cells.2.2
                  obtain ⟨c0, cc1, cc2⟩ := hmW.tb.cells
                  obtain ⟨g0, g1, g2, g3⟩ := HMB.out.cells
                  obtain ⟨A4, n4, c4, rfl⟩ := hown.shape
                  have HRUN := hid hrun; have HMK2 := hid hmk
                  clear hrun hown hgr hmk htb hmW
                  go_wp2_with (at_builtin; refine wpList_appG rfl _ _ rfl rfl rfl HRUN.out ?_)
                  exact ⟨⟨j + 1, by omega, by go_num, hid ⟨_, HMK2.out⟩, hid (HNX.out HTB2.out)⟩, by simp [intOf]; omega⟩
                · skip
                  go_simp
                  skip
                  refine hK.out _ _ (by first | exact Ba HB6.out _ | exact B1 _ _) (fun hHeld => ?_)
                  clear hK K
                  try simp only [Act.put, List.setIfInBounds_toArray, List.set_cons_zero, List.set_cons_succ]
                  refine wpAnyH_ready (rs := [13]) (by kernel_rfl) (by simp) ?_
                  refine AllReadyH.cons (atS5 (atS5 (atS (atS (atS at0))))) (fun K hK => ?_) AllReadyH.nil
                  go_simp
                  refine (rcast_any x.k x.n x.t (bs gg.nm) (bs f.nm) gg.k gg.g f.k f.g _ xnu).mono ?_
                  rintro e w6 ⟨rfl, hb6⟩
                  rw [HCR.out]
                  have HB6 : Hid (Below w0c.heap.size w0c w6) := hid (by first | exact hb6 | exact Bt (B1 _ _) hb6)
                  first | (have HVB : Hid (VB w6 w0c.heap.size 0 0 ⟨#[]⟩) := hid ((vb_new w0c 0 0 ⟨#[]⟩).on hb6); have sf0 := HVB.out.frozen 0; have sf1 := HVB.out.frozen 1; have sf2 := HVB.out.frozen 2; have sv0 := HVB.out.cells.1; have sv1 := HVB.out.cells.2.1; have sv2 := HVB.out.cells.2.2) | skip
                  clear hb6
                  go_wp2_with fail
                  refine hK.out _ _ HB6.out (fun hHeld => ?_)
                  clear hK K
                  try simp only [Act.put, List.setIfInBounds_toArray, List.set_cons_zero, List.set_cons_succ]
                  refine reg_take 14 (v := ?vz19_14) (atS5 (atS5 (atS (atS (atS (atS at0)))))) (by kernel_rfl) (by kernel_rfl) (by kernel_rfl) (by rfl) ?hyz19_14 hHeld ?restz19_14
                  case hyz19_14 => (intro w' hSw; go_simp; try with_reducible rfl)
                  try simp only [Act.put, List.setIfInBounds_toArray, List.set_cons_zero, List.set_cons_succ]
                  refine reg_take 15 (v := ?vz20_15) (atS5 (atS5 (atS5 at0))) (by kernel_rfl) (by kernel_rfl) (by kernel_rfl) (by rfl) ?hyz20_15 hHeld ?restz20_15
                  case hyz20_15 => (intro w' hSw; go_simp; try with_reducible rfl)
                  try simp only [Act.put, List.setIfInBounds_toArray, List.set_cons_zero, List.set_cons_succ]
                  refine reg_take 16 (v := ?vz21_16) (atS5 (atS5 (atS5 (atS at0)))) (by kernel_rfl) (by kernel_rfl) (by kernel_rfl) (by rfl) ?hyz21_16 hHeld ?restz21_16
                  case hyz21_16 => (intro w' hSw; go_simp; try with_reducible rfl)
                  try simp only [Act.put, List.setIfInBounds_toArray, List.set_cons_zero, List.set_cons_succ]
                  refine wpAnyH_ready (rs := [18]) (by kernel_rfl) (by simp) ?_
                  refine AllReadyH.cons (atS5 (atS5 (atS5 (atS (atS (atS at0)))))) (fun K hK => ?_) AllReadyH.nil
                  go_simp
                  skip
                  refine hK.out _ _ (by first | exact Ba HB6.out _ | exact B3 HB6.out (Nat.le_refl _) (.int .i64 f.k) (.int .u64 cn) (.string ct)) (fun hHeld => ?_)
                  clear hK K
                  try simp only [Act.put]
                  refine reg_take 19 (v := ?vz22_19) (atS5 (atS5 (atS5 (atS (atS (atS (atS at0))))))) (by kernel_rfl) (by kernel_rfl) (by kernel_rfl) (by rfl) ?hyz22_19 hHeld ?restz22_19
                  case hyz22_19 => (intro w' hSw; go_simp; try with_reducible rfl)
                  try simp only [Act.put, List.setIfInBounds_toArray, List.set_cons_zero, List.set_cons_succ]
                  refine wpAnyH_done (by kernel_rfl) ?_ _
                  refine NoPanic.normal ?_
                  clear q1 q2 q3 v1 s1 s2 o1 o2 o3 y1 y2 y3
                  first
                  | (obtain ⟨w7, hw7⟩ : ∃ w7, w7 = w6.alloc (.cells #[.int .i64 f.k, .int .u64 cn, .string ct] 71) := ⟨_, rfl⟩
                     obtain ⟨p3, hp3⟩ : ∃ p3, p3 = w6.heap.size := ⟨_, rfl⟩
                     rw [← hw7, ← hp3]
                     have HV7 : Hid (VB w7 p3 f.k cn ct) := by rw [hw7, hp3]; exact hid (vb_new w6 f.k cn ct)
                     have HB7 : Hid (Below w0c.heap.size w0c w7) := by rw [hw7]; exact hid (Ba HB6.out _)
                     clear hw7 hp3)
                  | (obtain ⟨w7, hw7⟩ : ∃ w7, w7 = ((w6.setCell ⟨w0c.heap.size, 0, none⟩ (.int .i64 f.k)).setCell ⟨w0c.heap.size, 1, none⟩ (.int .u64 cn)).setCell ⟨w0c.heap.size, 2, none⟩ (.string ct) := ⟨_, rfl⟩
                     obtain ⟨p3, hp3⟩ : ∃ p3, p3 = w0c.heap.size := ⟨_, rfl⟩
                     rw [← hw7, ← hp3]
                     have HV7 : Hid (VB w7 p3 f.k cn ct) := by rw [hw7, hp3]; exact hid (((HVB.out.setKind f.k).setBits cn).setText ct)
                     have HB7 : Hid (Below w0c.heap.size w0c w7) := by rw [hw7]; exact hid (B3 HB6.out (Nat.le_refl _) _ _ _)
                     clear hw7 hp3)
                  have HB7W : Hid (Below wr.heap.size wr w7) := hid (HBV2.out.trans (HB7.out.mono HBV2.out.size))
                  have HMB7 : Hid (MB w7 p2 x 150 ∧ MB w7 p y 150) := hid ⟨(HMB3.out.1.on hx0c).on HB7.out, (HMB3.out.2.on hx0c).on HB7.out⟩
                  have HMB8 := hid (HMB7.out.1.set3 f.k cn ct)
                  have HMB9 : Hid (MB (((w7.setCell ⟨p2, 1, none⟩ (.int .i64 f.k)).setCell ⟨p2, 2, none⟩ (.int .u64 cn)).setCell ⟨p2, 3, none⟩ (.string ct)) p y 150) := hid (((HMB7.out.2.other (by have := HPW.out; omega) 1 _).other (by have := HPW.out; omega) 2 _).other (by have := HPW.out; omega) 3 _)
                  obtain ⟨k0, k1, k2⟩ := HV7.out.cells
                  obtain ⟨g0, g1, g2, g3⟩ := HMB7.out.1.cells
                  have u1 := HMB7.out.1.frozen 1; have u2 := HMB7.out.1.frozen 2; have u3 := HMB7.out.1.frozen 3
                  obtain ⟨e0, e1, e2, e3⟩ := HMB8.out.cells
                  obtain ⟨f0, f1, f2, f3⟩ := HMB9.out.cells
                  have t5 := HMB9.out.frozen 0; have t6 := HMB9.out.frozen 1; have t7 := HMB9.out.frozen 2; have t8 := HMB9.out.frozen 3
                  go_upto_region 16 with fail
                  obtain ⟨W, hW⟩ : ∃ W, W = ((((((w7.setCell ⟨p2, 1, none⟩ (.int .i64 f.k)).setCell ⟨p2, 2, none⟩ (.int .u64 cn)).setCell ⟨p2, 3, none⟩ (.string ct)).setCell ⟨p, 0, none⟩ (.int .i64 x.fr)).setCell ⟨p, 1, none⟩ (.int .i64 f.k)).setCell ⟨p, 2, none⟩ (.int .u64 cn)).setCell ⟨p, 3, none⟩ (.string ct) := ⟨_, rfl⟩
                  rw [← hW]
                  have HMB : Hid (MB W p ⟨x.fr, f.k, cn, ct⟩ 150) := by rw [hW]; exact hid (HMB9.out.set4 ⟨x.fr, f.k, cn, ct⟩)
                  have HBW : Hid (Below wr.heap.size wr W) := by rw [hW]; exact hid (B4 (B3' HB7W.out (by have := HPW.out; omega) _ _ _) HPW.out.1 _ _ _ _)
                  clear hW k0 k1 k2 g0 g1 g2 g3 u1 u2 u3 e0 e1 e2 e3 f0 f1 f2 f3 t5 t6 t7 t8
                  have hmW := HM.out.on HBW.out
                  obtain ⟨v', w3', hrun, hown, hgr⟩ := run_appMv Tryz.underlying108 infoMd hmW.ow (⟨x.fr, f.k, cn, ct⟩ : Mv) (by rw [List.length_take]; omega) hmW.az 108
                  have hmk := (hmW.on (B1 _ (.cells #[.int .i64 (⟨x.fr, f.k, cn, ct⟩ : Mv).fr, .int .i64 (⟨x.fr, f.k, cn, ct⟩ : Mv).k, .int .u64 (⟨x.fr, f.k, cn, ct⟩ : Mv).n, .string (⟨x.fr, f.k, cn, ct⟩ : Mv).t] 150))).app hgr hown
                  rw [show (⟨x.fr, f.k, cn, ct⟩ : Mv) = thrM a y f from HZ.out, ← thrL_take HYF.out.1 HYF.out.2] at hmk
                  have htb := (hmW.on (B1 _ (.cells #[.int .i64 (⟨x.fr, f.k, cn, ct⟩ : Mv).fr, .int .i64 (⟨x.fr, f.k, cn, ct⟩ : Mv).k, .int .u64 (⟨x.fr, f.k, cn, ct⟩ : Mv).n, .string (⟨x.fr, f.k, cn, ct⟩ : Mv).t] 150))).tb.grown hgr (fun e => by have := (hmW.ow.blk2 _ e.symm).1; have := hmW.qb; omega)
                  have fz := htb.frozen 2
                  have ct := htb.cells.2.2
                  obtain ⟨c0, cc1, cc2⟩ := hmW.tb.cells
                  obtain ⟨g0, g1, g2, g3⟩ := HMB.out.cells
                  obtain ⟨A4, n4, c4, rfl⟩ := hown.shape
                  have HRUN := hid hrun; have HMK2 := hid hmk
                  clear hrun hown hgr hmk htb hmW
                  go_wp2_with (at_builtin; refine wpList_appG rfl _ _ rfl rfl rfl HRUN.out ?_)
                  exact ⟨⟨j + 1, by omega, by go_num, hid ⟨_, HMK2.out⟩, hid (HNX.out HTB2.out)⟩, by simp [intOf]; omega⟩
            · have t0 : decide (0 ≤ y.fr) = false := decide_eq_false hfr
              have HTB2 : Hid (thrB a y f = true) := hid (by unfold thrB; rw [if_neg hfr])
              have HMB := HMB1
              have HBW := HB1W
              have HZ : Hid (y = thrM a y f) := hid (by unfold thrM; rw [if_neg hfr])
              clear g0 g1 g2 g3
              obtain ⟨g0, g1, g2, g3⟩ := HMB1.out.cells
              go_upto_region 16 with fail
              clear g0 g1 g2 g3
              have hmW := HM.out.on HBW.out
              obtain ⟨v', w3', hrun, hown, hgr⟩ := run_appMv Tryz.underlying108 infoMd hmW.ow (y) (by rw [List.length_take]; omega) hmW.az 108
              have hmk := (hmW.on (B1 _ (.cells #[.int .i64 (y).fr, .int .i64 (y).k, .int .u64 (y).n, .string (y).t] 150))).app hgr hown
              rw [show (y) = thrM a y f from HZ.out, ← thrL_take HYF.out.1 HYF.out.2] at hmk
              have htb := (hmW.on (B1 _ (.cells #[.int .i64 (y).fr, .int .i64 (y).k, .int .u64 (y).n, .string (y).t] 150))).tb.grown hgr (fun e => by have := (hmW.ow.blk2 _ e.symm).1; have := hmW.qb; omega)
              have fz := htb.frozen 2
              have ct := htb.cells.2.2
              obtain ⟨c0, cc1, cc2⟩ := hmW.tb.cells
              obtain ⟨g0, g1, g2, g3⟩ := HMB.out.cells
              obtain ⟨A4, n4, c4, rfl⟩ := hown.shape
              have HRUN := hid hrun; have HMK2 := hid hmk
              clear hrun hown hgr hmk htb hmW
              go_wp2_with (at_builtin; refine wpList_appG rfl _ _ rfl rfl rfl HRUN.out ?_)
              exact ⟨⟨j + 1, by omega, by go_num, hid ⟨_, HMK2.out⟩, hid (HNX.out HTB2.out)⟩, by simp [intOf]; omega⟩
          · have hjm : j = m3 := by omega
            subst hjm
            have HE : Hid (compB a b = true) := hid (compB_iff.2 ⟨HRA.out.symm, HRR.out.symm, HSAME.out, fun x m f hm hf => HA.out x m f (by have := (List.getElem?_eq_some_iff.1 hm).1; have := LM.out; omega) hm hf⟩)
            have hlen : (thrL a b).length = j := by rw [thrL_length (rightT_iff.1 HRR.out.symm).2.2.1]; exact LM.out
            have HLEN := hid hlen
            rw [← hlen, List.take_length] at hm
            obtain ⟨A4, c4, hv, hrd⟩ := hm.ow.rd HIM.out
            rw [hlen] at hv
            subst hv
            have HM2 := hid hm
            clear hm hrd hlen
            go_wp2_with fail
            have hB := B3 (Bt HB0.out HM2.out.bl) HRZ.out (.slice A n c) (.slice B2 m2 d2) (.slice A4 j c4)
            refine ret_TB7e (by rfl) (by rfl) ((HTZ.out.on HM2.out.bl).set3 _ _ _) (by rfl) (by rfl) ⟨_, by rw [compE_ok HE.out]; rfl, ?_, hB⟩
            rw [compT_ok HE.out]
            have hO := ((HM2.out.ow.set (g := rz) (by have := HLT.out; have := HM2.out.wq; have := HM2.out.qb; omega) 0 (.slice A n c)).set (g := rz) (by have := HLT.out; have := HM2.out.wq; have := HM2.out.qb; omega) 1 (.slice B2 m2 d2)).set (g := rz) (by have := HLT.out; have := HM2.out.wq; have := HM2.out.qb; omega) 2 (.slice A4 j c4)
            obtain ⟨A5, c5, hv, hrd⟩ := hO.rd HIM.out
            rw [HLEN.out] at hv hrd
            cases hv
            have e1 := (h1w.out.on hB); have e2 := (k2w.out.on hB)
            exact ⟨A, n, c, B2, m2, d2, A4, j, c4, rfl, e1, e2, hrd⟩
      · have HE : Hid (compB a b = false) := hid (by unfold compB; rw [decide_eq_false hsame]; simp)
        rw [decide_eq_false hsame]
        clear hsame
        go_wp2_with fail
        exact ret_TB7e (by rfl) (by rfl) ((HTZ.out.on HB3.out).set3 _ _ _) (by rfl) (by rfl) ⟨_, by rw [compE_no HE.out]; rfl, by rw [compT_no HE.out]; exact RdT.nil _ _, B3 (Bt HB0.out HB3.out) HRZ.out _ _ _⟩
end Go.Proofs.YtaegencmnmjgbaaGreat
