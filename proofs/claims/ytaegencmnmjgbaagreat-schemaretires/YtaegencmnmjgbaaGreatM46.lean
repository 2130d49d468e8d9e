/-
  The program's Compose of layer 7.
-/
import Derived.Test.YtaegencmnmjgbaaGreatM45
import Derived.Test.YtaegencmnmjgbaaGreatM36
import Derived.Test.YtaegencmnmjgbaaGreatM26
import Derived.Test.YtaegencmnmjgbaaGreatM41

namespace Go.Proofs.YtaegencmnmjgbaaGreat
open Go.RowKit
set_option linter.unusedVariables false
set_option linter.unusedSimpArgs false
theorem compE_ok' {a b : Tb} (h : compB a b = true) : compE a b = 0 := by unfold compE; rw [h]; rfl
theorem compE_no' {a b : Tb} (h : compB a b = false) : compE a b = 70 := by unfold compE; rw [h]; rfl
theorem compT_ok' {a b : Tb} (h : compB a b = true) : compT a b = ⟨a.o, b.nw, thrL a b⟩ := by unfold compT; rw [h]; rfl
theorem compT_no' {a b : Tb} (h : compB a b = false) : compT a b = Tb.none := by unfold compT; rw [h]; rfl
set_option maxRecDepth 20000 in
set_option maxHeartbeats 16000000 in
theorem p7compose_any {w : World} {va vb : Value} {a b : Tb} (ha : RdT w w.heap.size va a) (hb : RdT w w.heap.size vb b) (hs : shortT a) (hs2 : shortT b) :
    Calls Tryz.prog 105 #[va, vb] w fun e w' => ∃ v, e = .returned (.tuple #[v, .int .i64 (compE a b)]) ∧ RdT w' w'.heap.size v (compT a b) ∧ Below w.heap.size w w' := by
  obtain ⟨A, n, c, A2, n2, c2, A3, n3, c3, rfl, h1, h2, h3⟩ := ha
  obtain ⟨B, m, d, B2, m2, d2, B3', m3, d3, rfl, k1, k2, k3⟩ := hb
  have HIM : Hid (∀ m ∈ thrL a b, I64 m.fr ∧ I64 m.k ∧ U64 m.n) := hid (thr_I64 h3.2.2.2.1 k3.2.2.2.1 (fun f hf => (k2.2.2.2.1 f hf).1))
  obtain ⟨w0, hw0⟩ : ∃ w0, w0 = ((w.alloc (.cells #[.slice A n c, .slice A2 n2 c2, .slice A3 n3 c3] 92)).alloc (.cells #[.slice B m d, .slice B2 m2 d2, .slice B3' m3 d3] 92)).alloc (.cells #[.slice none 0 0, .slice none 0 0, .slice none 0 0] 92) := ⟨_, rfl⟩
  have HW0 := hid hw0
  have HB0 : Hid (Below w.heap.size w w0) := by rw [hw0]; exact Ba (Ba (B1 _ _) _) _
  obtain ⟨r, hr⟩ : ∃ r, r = w.heap.size := ⟨_, rfl⟩
  obtain ⟨rb, hrb⟩ : ∃ rb, rb = w.heap.size + 1 := ⟨_, rfl⟩
  obtain ⟨rz, hrz⟩ : ∃ rz, rz = w.heap.size + 1 + 1 := ⟨_, rfl⟩
  have HR := hid hr; have HRB := hid hrb; have HRZE := hid hrz
  have HTA : Hid (TBx w0 r (.slice A n c) (.slice A2 n2 c2) (.slice A3 n3 c3) 92) := by rw [hw0, hr]; exact ((tb_new w _ _ _ _).on (B1 _ _)).on (B1 _ _)
  have HTB : Hid (TBx w0 rb (.slice B m d) (.slice B2 m2 d2) (.slice B3' m3 d3) 92) := by
    rw [hw0, hrb, ← World.size_alloc w (.cells #[.slice A n c, .slice A2 n2 c2, .slice A3 n3 c3] 92)]; exact (tb_new _ _ _ _ _).on (B1 _ _)
  have HTZ : Hid (TBx w0 rz (.slice none 0 0) (.slice none 0 0) (.slice none 0 0) 92) := by
    have e : rz = ((w.alloc (.cells #[.slice A n c, .slice A2 n2 c2, .slice A3 n3 c3] 92)).alloc (.cells #[.slice B m d, .slice B2 m2 d2, .slice B3' m3 d3] 92)).heap.size := by rw [hrz]; simp
    rw [hw0, e]; exact tb_new _ _ _ _ _
  have HRZ : Hid (w.heap.size ≤ rz) := hid (by omega)
  have HLT : Hid (rz < w0.heap.size) := HTZ.out.lt
  have h1w := hid h1; have k2w := hid k2
  have H1 := hid (h1.on HB0.out); have H2 := hid (h2.on HB0.out); have H3 := hid (h3.on HB0.out)
  have K1 := hid (k1.on HB0.out); have K2 := hid (k2.on HB0.out); have K3 := hid (k3.on HB0.out)
  have HAT : Hid (RdT w0 w0.heap.size (.agg #[.slice A n c, .slice A2 n2 c2, .slice A3 n3 c3]) a) := hid ⟨A, n, c, A2, n2, c2, A3, n3, c3, rfl, H1.out, H2.out, H3.out⟩
  have HBTT : Hid (RdT w0 w0.heap.size (.agg #[.slice B m d, .slice B2 m2 d2, .slice B3' m3 d3]) b) := hid ⟨B, m, d, B2, m2, d2, B3', m3, d3, rfl, K1.out, K2.out, K3.out⟩
  have LM : Hid (b.mv.length = m3) := K3.out.1
  have HSA := hid hs; have HSB := hid hs2
  clear h1 h2 h3 k1 k2 k3 hw0 hr hrb hrz hs hs2
  obtain ⟨a0, a1, a2⟩ := (HTA.out.on (B0 w0)).cells
  obtain ⟨b0, b1, b2⟩ := (HTB.out.on (B0 w0)).cells
  obtain ⟨z0, z1, z2⟩ := (HTZ.out.on (B0 w0)).cells
  have fz0 := (HTZ.out.on (B0 w0)).frozen 0; have fz1 := (HTZ.out.on (B0 w0)).frozen 1; have fz2 := (HTZ.out.on (B0 w0)).frozen 2
  go_enter Tryz.func105, Tryz.ntmps105
  go_wp2_with fail
  rw [← HW0.out, ← HRZE.out, ← HRB.out, ← HR.out]
  refine (p7right_any HAT.out HSA.out).mono ?_
  rintro e w1 ⟨rfl, hb1⟩
  have HB1 := hid hb1
  clear hb1
  clear a0 a1 a2 b0 b1 b2 z0 z1 z2 fz0 fz1 fz2
  obtain ⟨a0, a1, a2⟩ := (HTA.out.on HB1.out).cells
  obtain ⟨b0, b1, b2⟩ := (HTB.out.on HB1.out).cells
  obtain ⟨z0, z1, z2⟩ := (HTZ.out.on HB1.out).cells
  have fz0 := (HTZ.out.on HB1.out).frozen 0; have fz1 := (HTZ.out.on HB1.out).frozen 1; have fz2 := (HTZ.out.on HB1.out).frozen 2
  obtain ⟨ra, hra⟩ : ∃ ra, ra = rightT a := ⟨_, rfl⟩
  obtain ⟨rr, hrr⟩ : ∃ rr, rr = rightT b := ⟨_, rfl⟩
  rw [← hra]
  have HRA := hid hra; have HRR := hid hrr
  clear hra hrr
  cases ra with
  | false =>
    have HE : Hid (compB a b = false) := by show _ = _; unfold compB; rw [← HRA.out]; rfl
    go_wp2_with fail
    exact ret_TBpe (by rfl) (by rfl) ((HTZ.out.on HB1.out).set3 _ _ _) (by rfl) (by rfl) ⟨_, by rw [compE_no' HE.out]; rfl, by rw [compT_no' HE.out]; exact RdT.nil _ _, B3 (Bt HB0.out HB1.out) HRZ.out _ _ _⟩
  | true =>
    go_wp2_with fail
    refine (p7right_any (HBTT.out.on HB1.out) HSB.out).mono ?_
    rintro e w2 ⟨rfl, hb2⟩
    have HB2 := hid (Bt HB1.out hb2)
    clear hb2
    clear a0 a1 a2 b0 b1 b2 z0 z1 z2 fz0 fz1 fz2
    rw [← HRR.out]
    obtain ⟨a0, a1, a2⟩ := (HTA.out.on HB2.out).cells
    obtain ⟨b0, b1, b2⟩ := (HTB.out.on HB2.out).cells
    obtain ⟨z0, z1, z2⟩ := (HTZ.out.on HB2.out).cells
    have fz0 := (HTZ.out.on HB2.out).frozen 0; have fz1 := (HTZ.out.on HB2.out).frozen 1; have fz2 := (HTZ.out.on HB2.out).frozen 2
    cases rr with
    | false =>
      have HE : Hid (compB a b = false) := by show _ = _; unfold compB; rw [← HRA.out, ← HRR.out]; rfl
      go_wp2_with fail
      exact ret_TBpe (by rfl) (by rfl) ((HTZ.out.on HB2.out).set3 _ _ _) (by rfl) (by rfl) ⟨_, by rw [compE_no' HE.out]; rfl, by rw [compT_no' HE.out]; exact RdT.nil _ _, B3 (Bt HB0.out HB2.out) HRZ.out _ _ _⟩
    | true =>
      go_wp2_with fail
      refine (fequal_any (H2.out.on HB2.out) (K1.out.on HB2.out)).mono ?_
      rintro e w3 ⟨rfl, hb3⟩
      have HB3 := hid (Bt HB2.out hb3)
      clear hb3
      clear a0 a1 a2 b0 b1 b2 z0 z1 z2 fz0 fz1 fz2
      obtain ⟨a0, a1, a2⟩ := (HTA.out.on HB3.out).cells
      obtain ⟨b0, b1, b2⟩ := (HTB.out.on HB3.out).cells
      obtain ⟨z0, z1, z2⟩ := (HTZ.out.on HB3.out).cells
      have fz0 := (HTZ.out.on HB3.out).frozen 0; have fz1 := (HTZ.out.on HB3.out).frozen 1; have fz2 := (HTZ.out.on HB3.out).frozen 2
      by_cases hsame : a.nw = b.o
      · rw [decide_eq_true hsame]
        have HSAME := hid hsame
        have hnA : n ≤ 1000000 := by have := right_len (rightT_iff.1 HRA.out.symm).1; have := H1.out.1; omega
        have hnB : m2 ≤ 1000000 := by have := right_len (rightT_iff.1 HRR.out.symm).2.1; have := K2.out.1; omega
        have hm64 : (m3 : Int) ≤ 16 := by have := (rightT_iff.1 HRR.out.symm).2.2.1; have := right_len (rightT_iff.1 HRR.out.symm).2.1; have := LM.out; omega
        clear hsame
        go_upto_region 3 with fail
        clear a0 a1 a2 b0 b1 b2 z0 z1 z2 fz0 fz1 fz2
        refine reg_begin (by kernel_rfl) (fun w0a hx0a hHeld => ?_)
        have HX0 : Hid (Below w0.heap.size w0 w0a) := hid (HB3.out.trans (hx0a.mono HB3.out.size))
        have s0 : ∀ w', Ext w0a w' → TBx w' r (.slice A n c) (.slice A2 n2 c2) (.slice A3 n3 c3) 92 := fun w' h => HTA.out.on (HX0.out.trans (h.mono HX0.out.size))
        have s1 := fun w' h => (s0 w' h).cells.1
        have s2 : ∀ w', Ext w0a w' → TBx w' rb (.slice B m d) (.slice B2 m2 d2) (.slice B3' m3 d3) 92 := fun w' h => HTB.out.on (HX0.out.trans (h.mono HX0.out.size))
        have s3 := fun w' h => (s2 w' h).cells.2.1
        clear s0 s2
        refine reg_take 0 (v := ?vz1_0) at0 (by kernel_rfl) (by kernel_rfl) (by kernel_rfl) (by rfl) ?hyz1_0 hHeld ?restz1_0
        case hyz1_0 => (intro w' hSw; go_simp; try with_reducible rfl)
        try simp only [Act.put, List.setIfInBounds_toArray, List.set_cons_zero, List.set_cons_succ]
        refine reg_take 1 (v := ?vz2_1) (atS at0) (by kernel_rfl) (by kernel_rfl) (by kernel_rfl) (by rfl) ?hyz2_1 hHeld ?restz2_1
        case hyz2_1 => (intro w' hSw; go_simp; try with_reducible rfl)
        try simp only [Act.put, List.setIfInBounds_toArray, List.set_cons_zero, List.set_cons_succ]
        refine reg_take 3 (v := ?vz3_3) (atS (atS (atS at0))) (by kernel_rfl) (by kernel_rfl) (by kernel_rfl) (by rfl) ?hyz3_3 hHeld ?restz3_3
        case hyz3_3 => (intro w' hSw; go_simp; try with_reducible rfl)
        try simp only [Act.put, List.setIfInBounds_toArray, List.set_cons_zero, List.set_cons_succ]
        refine reg_take 4 (v := ?vz4_4) (atS (atS (atS (atS at0)))) (by kernel_rfl) (by kernel_rfl) (by kernel_rfl) (by rfl) ?hyz4_4 hHeld ?restz4_4
        case hyz4_4 => (intro w' hSw; go_simp; try with_reducible rfl)
        try simp only [Act.put, List.setIfInBounds_toArray, List.set_cons_zero, List.set_cons_succ]
        refine wpAnyH_ready (rs := [2, 7]) (by kernel_rfl) (by simp) ?_
        refine AllReadyH.cons (atS (atS at0)) (fun K hK => ?_) (AllReadyH.cons (atS5 (atS (atS at0))) (fun K hK => ?_) AllReadyH.nil)
        · skip
          go_simp
          refine (fclone_any (H1.out.on (HX0.out.trans (Below.mono hHeld HX0.out.size))) hnA).mono ?_
          rintro e w2n ⟨v1, rfl, ho1, hb1n⟩
          obtain ⟨A7, n7, c7, rfl⟩ := ho1.shape
          have HR1 : Hid (OwF w2n w0.heap.size (.slice A7 n7 c7) a.o) := hid (ho1.less (Nat.le_trans HX0.out.size (Below.size hHeld)))
          first | (have HR2 := hid (HR2.out.on hb1n)) | skip
          first | (have HVB := hid (HVB.out.on hb1n)) | skip
          go_wp2_with fail
          refine hK.out _ _ (Ext.trans hHeld hb1n) (fun hHeld => ?_)
          clear hK K
          try simp only [Act.put, List.setIfInBounds_toArray, List.set_cons_zero, List.set_cons_succ]
          refine wpAnyH_ready (rs := [5, 7]) (by kernel_rfl) (by simp) ?_
          refine AllReadyH.cons (atS5 at0) (fun K hK => ?_) (AllReadyH.cons (atS5 (atS (atS at0))) (fun K hK => ?_) AllReadyH.nil)
          · skip
            go_simp
            refine (fclone_any (K2.out.on (HX0.out.trans (Below.mono hHeld HX0.out.size))) hnB).mono ?_
            rintro e w5n ⟨v2, rfl, ho2, hb2n⟩
            obtain ⟨A8, n8, c8, rfl⟩ := ho2.shape
            have HR2 : Hid (OwF w5n w0.heap.size (.slice A8 n8 c8) b.nw) := hid (ho2.less (Nat.le_trans HX0.out.size (Below.size hHeld)))
            first | (have HR1 := hid (HR1.out.on hb2n)) | skip
            first | (have HVB := hid (HVB.out.on hb2n)) | skip
            go_wp2_with fail
            refine hK.out _ _ (Ext.trans hHeld hb2n) (fun hHeld => ?_)
            clear hK K
            try simp only [Act.put, List.setIfInBounds_toArray, List.set_cons_zero, List.set_cons_succ]
            refine reg_take 6 (v := ?vz5_6) (atS5 (atS at0)) (by kernel_rfl) (by kernel_rfl) (by kernel_rfl) (by rfl) ?hyz5_6 hHeld ?restz5_6
            case hyz5_6 => (intro w' hSw; go_simp; try with_reducible rfl)
            try simp only [Act.put, List.setIfInBounds_toArray, List.set_cons_zero, List.set_cons_succ]
            refine wpAnyH_ready (rs := [7]) (by kernel_rfl) (by simp) ?_
            refine AllReadyH.cons (atS5 (atS (atS at0))) (fun K hK => ?_) AllReadyH.nil
            have HQL : Hid (w0a.heap.size ≤ w5n.heap.size) := hid (Below.size hHeld)
            go_simp
            refine hK.out _ _ (Ba hHeld _) (fun hHeld => ?_)
            clear hK K
            try simp only [Act.put, List.setIfInBounds_toArray, List.set_cons_zero, List.set_cons_succ]
            first | (have HR1 := hid (HR1.out.on (B1 _ (.cells #[.slice none 0 0, .slice none 0 0, .slice none 0 0] 92)))) | skip
            first | (have HR2 := hid (HR2.out.on (B1 _ (.cells #[.slice none 0 0, .slice none 0 0, .slice none 0 0] 92)))) | skip
            have HVB : Hid (TBx (w5n.alloc (.cells #[.slice none 0 0, .slice none 0 0, .slice none 0 0] 92)) w5n.heap.size (.slice none 0 0) (.slice none 0 0) (.slice none 0 0) 92) := hid (tb_new _ _ _ _ _)
            obtain ⟨w7n, hw7n⟩ : ∃ w7n, w7n = w5n.alloc (.cells #[.slice none 0 0, .slice none 0 0, .slice none 0 0] 92) := ⟨_, rfl⟩
            obtain ⟨q, hq⟩ : ∃ q, q = w5n.heap.size := ⟨_, rfl⟩
            have HQL2 : Hid (w0a.heap.size ≤ q) := hid (by rw [hq]; exact HQL.out)
            rw [← hq] at HVB ⊢
            rw [← hw7n] at HVB hHeld ⊢
            first | rw [← hw7n] at HR1 | skip
            first | rw [← hw7n] at HR2 | skip
            clear hw7n hq
            refine wpAnyH_ready (rs := [8]) (by kernel_rfl) (by simp) ?_
            refine AllReadyH.cons (atS5 (atS (atS (atS at0)))) (fun K hK => ?_) AllReadyH.nil
            obtain ⟨v0c, v1c, v2c⟩ := HVB.out.cells
            have vf0 := HVB.out.frozen 0; have vf1 := HVB.out.frozen 1; have vf2 := HVB.out.frozen 2
            go_simp
            refine hK.out _ _ (B3 hHeld HQL2.out _ _ _) (fun hHeld => ?_)
            clear hK K
            try simp only [Act.put]
            refine wpAnyH_done (by kernel_rfl) ?_ _
            refine NoPanic.normal ?_
            clear s1 s3 v0c v1c v2c vf0 vf1 vf2
            obtain ⟨W8, hW8⟩ : ∃ W8, W8 = ((w7n.setCell ⟨q, 0, none⟩ (.slice A7 n7 c7)).setCell ⟨q, 1, none⟩ (.slice A8 n8 c8)).setCell ⟨q, 2, none⟩ (.slice none 0 0) := ⟨_, rfl⟩
            rw [← hW8]
            rw [← hW8] at hHeld
            have HWQ : Hid (w0.heap.size ≤ q) := hid (Nat.le_trans HX0.out.size HQL2.out)
            have HTB8 : Hid (TBx W8 q (.slice A7 n7 c7) (.slice A8 n8 c8) (.slice none 0 0) 92) := by rw [hW8]; exact hid (HVB.out.set3 _ _ _)
            have hkf : KeepTy 68 w7n W8 := by rw [hW8]; exact ((KeepTy.set HVB.out (by decide) 0 _).trans (KeepTy.set (HVB.out.set0 _) (by decide) 1 _)).trans (KeepTy.set ((HVB.out.set0 _).set1 _) (by decide) 2 _)
            have HR18 := hid (HR1.out.ty hkf)
            have HR28 := hid (HR2.out.ty hkf)
            have HMK : Hid (MkT w0 W8 q 92 161 (.slice A7 n7 c7) (.slice A8 n8 c8) (.slice none 0 0) (q + 1) ((thrL a b).take 0)) := hid ⟨HTB8.out, by rw [List.take_zero]; exact OwM.nil _ _ _, HX0.out.trans (Below.mono hHeld HX0.out.size), by omega, HWQ.out, HTB8.out.lt⟩
            clear hW8 hkf
            obtain ⟨a0, a1, a2⟩ := (HTA.out.on HMK.out.bl).cells
            obtain ⟨b0, b1, b2⟩ := (HTB.out.on HMK.out.bl).cells
            go_wp2_with fail
            clear a0 a1 a2 b0 b1 b2
            go_loopw [35] (fun i wr => ∃ j : Nat, j ≤ m3 ∧ i = .int .i64 j ∧ Hid (∃ v, MkT w0 wr q 92 161 (.slice A7 n7 c7) (.slice A8 n8 c8) v (q + 1) ((thrL a b).take j)) ∧ Hid (OwF wr w0.heap.size (.slice A7 n7 c7) a.o ∧ OwF wr w0.heap.size (.slice A8 n8 c8) b.nw)) (fun i _ => m3 - (intOf i).toNat)
            case atStart => exact ⟨0, by omega, rfl, hid ⟨_, HMK.out⟩, hid ⟨HR18.out, HR28.out⟩⟩
            case round =>
              obtain ⟨j, hj, rfl, ⟨v, hm⟩, HRR2⟩ := hrel
              have HM := hid hm
              clear hm
              by_cases hlt : j < m3
              · obtain ⟨y, hy⟩ : ∃ y, b.mv[j]? = some y := ⟨_, List.getElem?_eq_getElem (by have := LM.out; omega)⟩
                obtain ⟨f, hf⟩ : ∃ f, b.nw[j]? = some f := ⟨_, List.getElem?_eq_getElem (by have := LM.out; have := (rightT_iff.1 HRR.out.symm).2.2.1; omega)⟩
                obtain ⟨z, hz⟩ : ∃ z, z = thrM a y f := ⟨_, rfl⟩
                have HY := hid hy; have HF := hid hf; have HZM := hid hz
                have HTK : Hid ((thrL a b).take (j + 1) = (thrL a b).take j ++ [z]) := hid (by rw [hz]; exact thrL_take hy hf)
                have hji : (j : Int) < m3 := by omega
                clear hy hf hz
                go_upto_region 7 with fail
                refine reg_beginB q (by kernel_rfl) (fun w0b hh0b hx0b hHeld => ?_)
                have HDR : Hid (Below wr.heap.size wr w0b) := hid ⟨hx0b.os, hx0b.tape, hx0b.output, by rw [hh0b.out]; exact Nat.le_refl _, fun i _ => by rw [hh0b.out]⟩
                have HMB := hid (HM.out.on HDR.out)
                have HX : ∀ w', ExB q w0b w' → Below w0.heap.size w0 w' := fun w' h => HM.out.bl.trans ((hx0b.trans h).mono HM.out.wq)
                have a0 := fun w' h => (HTA.out.on (HX w' h)).cells.1
                have a1 := fun w' h => (HTA.out.on (HX w' h)).cells.2.1
                have a2 := fun w' h => (HTA.out.on (HX w' h)).cells.2.2
                have b0 := fun w' h => (HTB.out.on (HX w' h)).cells.1
                have b1 := fun w' h => (HTB.out.on (HX w' h)).cells.2.1
                have b2 := fun w' h => (HTB.out.on (HX w' h)).cells.2.2
                have t1 := HMB.out.tb.cells.2.2
                have HXH := hid HX
                have HQB : Hid (q ≤ w0b.heap.size) := hid (by have := HMB.out.qb; have := HMB.out.az; omega)
                clear HX
                refine reg_takeB 0 (v := ?vy1k6_0) at0 (by kernel_rfl) (by kernel_rfl) (by kernel_rfl) (by rfl) ?hyy1k6_0 hHeld ?resty1k6_0
                case hyy1k6_0 => (intro w' hSw; go_simp; try with_reducible rfl)
                try simp only [Act.put, List.setIfInBounds_toArray, List.set_cons_zero, List.set_cons_succ]
                refine reg_takeB 2 (v := ?vy2k6_2) (atS (atS at0)) (by kernel_rfl) (by kernel_rfl) (by kernel_rfl) (by rfl) ?hyy2k6_2 hHeld ?resty2k6_2
                case hyy2k6_2 => (intro w' hSw; go_simp; try with_reducible rfl)
                try simp only [Act.put, List.setIfInBounds_toArray, List.set_cons_zero, List.set_cons_succ]
                refine reg_takeB 3 (v := ?vy3k6_3) (atS (atS (atS at0))) (by kernel_rfl) (by kernel_rfl) (by kernel_rfl) (by rfl) ?hyy3k6_3 hHeld ?resty3k6_3
                case hyy3k6_3 => (intro w' hSw; go_simp; try with_reducible rfl)
                try simp only [Act.put, List.setIfInBounds_toArray, List.set_cons_zero, List.set_cons_succ]
                refine reg_takeB 4 (v := ?vy4k6_4) (atS (atS (atS (atS at0)))) (by kernel_rfl) (by kernel_rfl) (by kernel_rfl) (by rfl) ?hyy4k6_4 hHeld ?resty4k6_4
                case hyy4k6_4 => (intro w' hSw; go_simp; try with_reducible rfl)
                try simp only [Act.put, List.setIfInBounds_toArray, List.set_cons_zero, List.set_cons_succ]
                refine wpAnyH_ready (rs := [1, 5]) (by kernel_rfl) (by simp) ?_
                refine AllReadyH.cons (atS at0) (fun K hK => ?_) (AllReadyH.cons (atS5 at0) (fun K hK => ?_) AllReadyH.nil)
                · skip
                  go_simp
                  go_simp
                  go_wp2_with fail
                  refine hK.out _ _ hHeld (fun hHeld => ?_)
                  clear hK K
                  try simp only [Act.put, List.setIfInBounds_toArray, List.set_cons_zero, List.set_cons_succ]
                  refine wpAnyH_ready (rs := [5]) (by kernel_rfl) (by simp) ?_
                  refine AllReadyH.cons (atS5 at0) (fun K hK => ?_) AllReadyH.nil
                  go_simp
                  refine (p7thr_any (HAT.out.on (HXH.out _ hHeld)) (HBTT.out.on (HXH.out _ hHeld)) HRA.out.symm HRR.out.symm HSAME.out HY.out HF.out).mono ?_
                  rintro e w5b ⟨rfl, hb5⟩
                  rw [← HZM.out]
                  have hm5 := HMB.out.on hb5
                  have t2 := hm5.tb.cells.2.2
                  have t3 := (hm5.on (B1 w5b (.cells #[.int .i64 z.fr, .int .i64 z.k, .int .u64 z.n, .string z.t] 161))).tb.cells.2.2
                  have hlz : ((thrL a b).take j).length ≤ 1000000 := by rw [List.length_take]; omega
                  obtain ⟨u', w6, hrun, hown, hgr⟩ := run_appMv Tryz.underlying90 infoMp hm5.ow z hlz hm5.az 90
                  have hmx := hm5.on (B1 w5b (.cells #[.int .i64 z.fr, .int .i64 z.k, .int .u64 z.n, .string z.t] 161))
                  have hmk := hmx.app hgr hown
                  rw [← HTK.out] at hmk
                  have htb := hmx.tb.grown hgr (fun e => by have := (hmx.ow.blk2 q e.symm).1; have := hmx.qb; omega)
                  have fz := htb.frozen 2
                  have ct := htb.cells.2.2
                  obtain ⟨A3x, n3x, c3x, rfl⟩ := hown.shape
                  have HRUN := hid hrun; have HMK2 := hid hmk
                  have HX5 : Hid (ExB q w0b w5b) := hid (Below.mono hb5 HQB.out)
                  have HX5A : Hid (ExB q w0b (w5b.alloc (.cells #[.int .i64 z.fr, .int .i64 z.k, .int .u64 z.n, .string z.t] 161))) := hid (Below.alloc HX5.out (Nat.le_trans HQB.out hb5.size) _)
                  have HX6 : Hid (ExB q w0b w6) := hid (Below.grown HX5A.out hgr (Nat.le_trans HQB.out (Nat.le_trans hb5.size (by simp))) (fun i e => by have := (hmx.ow.blk2 i e).1; omega))
                  have HR6 : Hid (OwF w6 w0.heap.size (.slice A7 n7 c7) a.o ∧ OwF w6 w0.heap.size (.slice A8 n8 c8) b.nw) := hid (by
                  have hk : KeepTy 68 wr w6 := ((KeepTy.below HDR.out).trans (KeepTy.below (Ba hb5 _))).trans (KeepTy.grown hgr (fun r e => (hmx.ow.blk2 r e).2) (by decide))
                  exact ⟨HRR2.out.1.ty hk, HRR2.out.2.ty hk⟩)
                  have HTB6 := hid htb
                  clear hrun hown hgr hmk htb hm5 hmx hb5 hlz
                  unfold mvV
                  go_wp2_with fail
                  refine hK.out _ _ HX5.out (fun hHeld => ?_)
                  clear hK K
                  try simp only [Act.put, List.setIfInBounds_toArray, List.set_cons_zero, List.set_cons_succ]
                  refine wpAnyH_ready (rs := [6]) (by kernel_rfl) (by simp) ?_
                  refine AllReadyH.cons (atS5 (atS at0)) (fun K hK => ?_) AllReadyH.nil
                  go_simp
                  go_simp
                  go_wp2_with fail
                  refine hK.out _ _ HX5A.out (fun hHeld => ?_)
                  clear hK K
                  try simp only [Act.put, List.setIfInBounds_toArray, List.set_cons_zero, List.set_cons_succ]
                  refine wpAnyH_ready (rs := [7]) (by kernel_rfl) (by simp) ?_
                  refine AllReadyH.cons (atS5 (atS (atS at0))) (fun K hK => ?_) AllReadyH.nil
                  refine step_appG rfl (.tmp 39) (.tmp 44) rfl (by rfl) (by rfl) HRUN.out ?_
                  refine hK.out _ _ HX6.out (fun hHeld => ?_)
                  clear hK K
                  try simp only [Act.put, List.setIfInBounds_toArray, List.set_cons_zero, List.set_cons_succ]
                  refine reg_takeB 8 (v := ?vy5k6_8) (atS5 (atS (atS (atS at0)))) (by kernel_rfl) (by kernel_rfl) (by kernel_rfl) (by rfl) ?hyy5k6_8 hHeld ?resty5k6_8
                  case hyy5k6_8 => (intro w' hSw; go_simp; try with_reducible rfl)
                  try simp only [Act.put, List.setIfInBounds_toArray, List.set_cons_zero, List.set_cons_succ]
                  refine wpAnyH_ready (rs := [9]) (by kernel_rfl) (by simp) ?_
                  refine AllReadyH.cons (atS5 (atS (atS (atS (atS at0))))) (fun K hK => ?_) AllReadyH.nil
                  go_simp
                  go_simp
                  go_wp2_with fail
                  refine hK.out _ _ (Below.setCell (p := ⟨q, 2, none⟩) HX6.out (Nat.le_refl _) _) (fun hHeld => ?_)
                  clear hK K
                  try simp only [Act.put]
                  refine wpAnyH_done (by kernel_rfl) ?_ _
                  refine NoPanic.normal ?_
                  clear a0 a1 a2 b0 b1 b2 t1 t2 t3 fz ct
                  go_wp2_with fail
                  exact ⟨⟨j + 1, by omega, by go_num, hid ⟨_, HMK2.out⟩, hid ⟨HR6.out.1.ty (KeepTy.set HTB6.out (by decide) 2 _), HR6.out.2.ty (KeepTy.set HTB6.out (by decide) 2 _)⟩⟩, by simp [intOf]; omega⟩
                · skip
                  go_simp
                  refine (p7thr_any (HAT.out.on (HXH.out _ hHeld)) (HBTT.out.on (HXH.out _ hHeld)) HRA.out.symm HRR.out.symm HSAME.out HY.out HF.out).mono ?_
                  rintro e w5b ⟨rfl, hb5⟩
                  rw [← HZM.out]
                  have hm5 := HMB.out.on hb5
                  have t2 := hm5.tb.cells.2.2
                  have t3 := (hm5.on (B1 w5b (.cells #[.int .i64 z.fr, .int .i64 z.k, .int .u64 z.n, .string z.t] 161))).tb.cells.2.2
                  have hlz : ((thrL a b).take j).length ≤ 1000000 := by rw [List.length_take]; omega
                  obtain ⟨u', w6, hrun, hown, hgr⟩ := run_appMv Tryz.underlying90 infoMp hm5.ow z hlz hm5.az 90
                  have hmx := hm5.on (B1 w5b (.cells #[.int .i64 z.fr, .int .i64 z.k, .int .u64 z.n, .string z.t] 161))
                  have hmk := hmx.app hgr hown
                  rw [← HTK.out] at hmk
                  have htb := hmx.tb.grown hgr (fun e => by have := (hmx.ow.blk2 q e.symm).1; have := hmx.qb; omega)
                  have fz := htb.frozen 2
                  have ct := htb.cells.2.2
                  obtain ⟨A3x, n3x, c3x, rfl⟩ := hown.shape
                  have HRUN := hid hrun; have HMK2 := hid hmk
                  have HX5 : Hid (ExB q w0b w5b) := hid (Below.mono hb5 HQB.out)
                  have HX5A : Hid (ExB q w0b (w5b.alloc (.cells #[.int .i64 z.fr, .int .i64 z.k, .int .u64 z.n, .string z.t] 161))) := hid (Below.alloc HX5.out (Nat.le_trans HQB.out hb5.size) _)
                  have HX6 : Hid (ExB q w0b w6) := hid (Below.grown HX5A.out hgr (Nat.le_trans HQB.out (Nat.le_trans hb5.size (by simp))) (fun i e => by have := (hmx.ow.blk2 i e).1; omega))
                  have HR6 : Hid (OwF w6 w0.heap.size (.slice A7 n7 c7) a.o ∧ OwF w6 w0.heap.size (.slice A8 n8 c8) b.nw) := hid (by
                  have hk : KeepTy 68 wr w6 := ((KeepTy.below HDR.out).trans (KeepTy.below (Ba hb5 _))).trans (KeepTy.grown hgr (fun r e => (hmx.ow.blk2 r e).2) (by decide))
                  exact ⟨HRR2.out.1.ty hk, HRR2.out.2.ty hk⟩)
                  have HTB6 := hid htb
                  clear hrun hown hgr hmk htb hm5 hmx hb5 hlz
                  unfold mvV
                  go_wp2_with fail
                  refine hK.out _ _ HX5.out (fun hHeld => ?_)
                  clear hK K
                  try simp only [Act.put, List.setIfInBounds_toArray, List.set_cons_zero, List.set_cons_succ]
                  refine wpAnyH_ready (rs := [1, 6]) (by kernel_rfl) (by simp) ?_
                  refine AllReadyH.cons (atS at0) (fun K hK => ?_) (AllReadyH.cons (atS5 (atS at0)) (fun K hK => ?_) AllReadyH.nil)
                  · skip
                    go_simp
                    go_simp
                    go_wp2_with fail
                    refine hK.out _ _ hHeld (fun hHeld => ?_)
                    clear hK K
                    try simp only [Act.put, List.setIfInBounds_toArray, List.set_cons_zero, List.set_cons_succ]
                    refine wpAnyH_ready (rs := [6]) (by kernel_rfl) (by simp) ?_
                    refine AllReadyH.cons (atS5 (atS at0)) (fun K hK => ?_) AllReadyH.nil
                    go_simp
                    go_simp
                    go_wp2_with fail
                    refine hK.out _ _ HX5A.out (fun hHeld => ?_)
                    clear hK K
                    try simp only [Act.put, List.setIfInBounds_toArray, List.set_cons_zero, List.set_cons_succ]
                    refine wpAnyH_ready (rs := [7]) (by kernel_rfl) (by simp) ?_
                    refine AllReadyH.cons (atS5 (atS (atS at0))) (fun K hK => ?_) AllReadyH.nil
                    refine step_appG rfl (.tmp 39) (.tmp 44) rfl (by rfl) (by rfl) HRUN.out ?_
                    refine hK.out _ _ HX6.out (fun hHeld => ?_)
                    clear hK K
                    try simp only [Act.put, List.setIfInBounds_toArray, List.set_cons_zero, List.set_cons_succ]
                    refine reg_takeB 8 (v := ?vy6k6_8) (atS5 (atS (atS (atS at0)))) (by kernel_rfl) (by kernel_rfl) (by kernel_rfl) (by rfl) ?hyy6k6_8 hHeld ?resty6k6_8
                    case hyy6k6_8 => (intro w' hSw; go_simp; try with_reducible rfl)
                    try simp only [Act.put, List.setIfInBounds_toArray, List.set_cons_zero, List.set_cons_succ]
                    refine wpAnyH_ready (rs := [9]) (by kernel_rfl) (by simp) ?_
                    refine AllReadyH.cons (atS5 (atS (atS (atS (atS at0))))) (fun K hK => ?_) AllReadyH.nil
                    go_simp
                    go_simp
                    go_wp2_with fail
                    refine hK.out _ _ (Below.setCell (p := ⟨q, 2, none⟩) HX6.out (Nat.le_refl _) _) (fun hHeld => ?_)
                    clear hK K
                    try simp only [Act.put]
                    refine wpAnyH_done (by kernel_rfl) ?_ _
                    refine NoPanic.normal ?_
                    clear a0 a1 a2 b0 b1 b2 t1 t2 t3 fz ct
                    go_wp2_with fail
                    exact ⟨⟨j + 1, by omega, by go_num, hid ⟨_, HMK2.out⟩, hid ⟨HR6.out.1.ty (KeepTy.set HTB6.out (by decide) 2 _), HR6.out.2.ty (KeepTy.set HTB6.out (by decide) 2 _)⟩⟩, by simp [intOf]; omega⟩
                  · skip
                    go_simp
                    go_simp
                    go_wp2_with fail
                    refine hK.out _ _ HX5A.out (fun hHeld => ?_)
                    clear hK K
                    try simp only [Act.put, List.setIfInBounds_toArray, List.set_cons_zero, List.set_cons_succ]
                    refine wpAnyH_ready (rs := [1]) (by kernel_rfl) (by simp) ?_
                    refine AllReadyH.cons (atS at0) (fun K hK => ?_) AllReadyH.nil
                    go_simp
                    go_simp
                    go_wp2_with fail
                    refine hK.out _ _ hHeld (fun hHeld => ?_)
                    clear hK K
                    try simp only [Act.put, List.setIfInBounds_toArray, List.set_cons_zero, List.set_cons_succ]
                    refine wpAnyH_ready (rs := [7]) (by kernel_rfl) (by simp) ?_
                    refine AllReadyH.cons (atS5 (atS (atS at0))) (fun K hK => ?_) AllReadyH.nil
                    refine step_appG rfl (.tmp 39) (.tmp 44) rfl (by rfl) (by rfl) HRUN.out ?_
                    refine hK.out _ _ HX6.out (fun hHeld => ?_)
                    clear hK K
                    try simp only [Act.put, List.setIfInBounds_toArray, List.set_cons_zero, List.set_cons_succ]
                    refine reg_takeB 8 (v := ?vy7k6_8) (atS5 (atS (atS (atS at0)))) (by kernel_rfl) (by kernel_rfl) (by kernel_rfl) (by rfl) ?hyy7k6_8 hHeld ?resty7k6_8
                    case hyy7k6_8 => (intro w' hSw; go_simp; try with_reducible rfl)
                    try simp only [Act.put, List.setIfInBounds_toArray, List.set_cons_zero, List.set_cons_succ]
                    refine wpAnyH_ready (rs := [9]) (by kernel_rfl) (by simp) ?_
                    refine AllReadyH.cons (atS5 (atS (atS (atS (atS at0))))) (fun K hK => ?_) AllReadyH.nil
                    go_simp
                    go_simp
                    go_wp2_with fail
                    refine hK.out _ _ (Below.setCell (p := ⟨q, 2, none⟩) HX6.out (Nat.le_refl _) _) (fun hHeld => ?_)
                    clear hK K
                    try simp only [Act.put]
                    refine wpAnyH_done (by kernel_rfl) ?_ _
                    refine NoPanic.normal ?_
                    clear a0 a1 a2 b0 b1 b2 t1 t2 t3 fz ct
                    go_wp2_with fail
                    exact ⟨⟨j + 1, by omega, by go_num, hid ⟨_, HMK2.out⟩, hid ⟨HR6.out.1.ty (KeepTy.set HTB6.out (by decide) 2 _), HR6.out.2.ty (KeepTy.set HTB6.out (by decide) 2 _)⟩⟩, by simp [intOf]; omega⟩
              · have hji : ¬ ((j : Int) < m3) := by omega
                have hjm : (thrL a b).take j = thrL a b := List.take_of_length_le (by rw [thrL_length (rightT_iff.1 HRR.out.symm).2.2.1, LM.out]; omega)
                rw [hjm] at HM
                obtain ⟨A9, n9, c9, rfl⟩ := HM.out.ow.shape
                have HRD : Hid (RdT wr wr.heap.size (.agg #[.slice A7 n7 c7, .slice A8 n8 c8, .slice A9 n9 c9]) ⟨a.o, b.nw, thrL a b⟩) := by
                  obtain ⟨_, _, e1, r1⟩ := HRR2.out.1.rd H1.out.2.2.2.1
                  obtain ⟨_, _, e2, r2⟩ := HRR2.out.2.rd K2.out.2.2.2.1
                  obtain ⟨_, _, e3, r3⟩ := HM.out.ow.rd HIM.out
                  cases e1; cases e2; cases e3
                  exact hid ⟨_, _, _, _, _, _, _, _, _, rfl, r1, r2, r3⟩
                have HCR : Hid (rightT ⟨a.o, b.nw, thrL a b⟩ = compB a b) := hid (comp_right HRA.out.symm HRR.out.symm HSAME.out (fun x hx => (H3.out.2.2.2.1 x hx).2.2))
                obtain ⟨q0, q1, q2⟩ := HM.out.tb.cells
                clear hjm
                go_wp2_with fail
                refine (p7right_any HRD.out ⟨HSA.out.1, HSB.out.2⟩).mono ?_
                rintro e w8 ⟨rfl, hb8⟩
                rw [HCR.out]
                have HB8 : Hid (Below w0.heap.size w0 w8) := hid (HM.out.bl.trans (hb8.mono HM.out.bl.size))
                have HTB8 := hid (HM.out.tb.on hb8)
                have HRD8 := hid (HRD.out.on hb8)
                clear hb8 q0 q1 q2
                obtain ⟨q0, q1, q2⟩ := HTB8.out.cells
                obtain ⟨z0, z1, z2⟩ := (HTZ.out.on HB8.out).cells
                have fz0 := (HTZ.out.on HB8.out).frozen 0; have fz1 := (HTZ.out.on HB8.out).frozen 1; have fz2 := (HTZ.out.on HB8.out).frozen 2
                cases hcb : compB a b with
                | false =>
                  have HE := hid hcb
                  clear hcb
                  go_wp2_with fail
                  exact ret_TBpe (by rfl) (by rfl) ((HTZ.out.on HB8.out).set3 _ _ _) (by rfl) (by rfl) ⟨_, by rw [compE_no' HE.out]; rfl, by rw [compT_no' HE.out]; exact RdT.nil _ _, B3 (Bt HB0.out HB8.out) HRZ.out _ _ _⟩
                | true =>
                  have HE := hid hcb
                  clear hcb
                  go_wp2_with fail
                  exact ret_TBpe (by rfl) (by rfl) ((HTZ.out.on HB8.out).set3 _ _ _) (by rfl) (by rfl) ⟨_, by rw [compE_ok' HE.out]; rfl, by rw [compT_ok' HE.out]; exact HRD8.out.box3 (HTZ.out.on HB8.out) ⟨_, _, _, rfl⟩ ⟨_, _, _, rfl⟩ ⟨_, _, _, rfl⟩ ⟨_, _, _, rfl⟩ ⟨_, _, _, rfl⟩ ⟨_, _, _, rfl⟩, B3 (Bt HB0.out HB8.out) HRZ.out _ _ _⟩
          · skip
            have HQL : Hid (w0a.heap.size ≤ w2n.heap.size) := hid (Below.size hHeld)
            go_simp
            refine hK.out _ _ (Ba hHeld _) (fun hHeld => ?_)
            clear hK K
            try simp only [Act.put, List.setIfInBounds_toArray, List.set_cons_zero, List.set_cons_succ]
            first | (have HR1 := hid (HR1.out.on (B1 _ (.cells #[.slice none 0 0, .slice none 0 0, .slice none 0 0] 92)))) | skip
            first | (have HR2 := hid (HR2.out.on (B1 _ (.cells #[.slice none 0 0, .slice none 0 0, .slice none 0 0] 92)))) | skip
            have HVB : Hid (TBx (w2n.alloc (.cells #[.slice none 0 0, .slice none 0 0, .slice none 0 0] 92)) w2n.heap.size (.slice none 0 0) (.slice none 0 0) (.slice none 0 0) 92) := hid (tb_new _ _ _ _ _)
            obtain ⟨w7n, hw7n⟩ : ∃ w7n, w7n = w2n.alloc (.cells #[.slice none 0 0, .slice none 0 0, .slice none 0 0] 92) := ⟨_, rfl⟩
            obtain ⟨q, hq⟩ : ∃ q, q = w2n.heap.size := ⟨_, rfl⟩
            have HQL2 : Hid (w0a.heap.size ≤ q) := hid (by rw [hq]; exact HQL.out)
            rw [← hq] at HVB ⊢
            rw [← hw7n] at HVB hHeld ⊢
            first | rw [← hw7n] at HR1 | skip
            first | rw [← hw7n] at HR2 | skip
            clear hw7n hq
            refine wpAnyH_ready (rs := [5]) (by kernel_rfl) (by simp) ?_
            refine AllReadyH.cons (atS5 at0) (fun K hK => ?_) AllReadyH.nil
            go_simp
            refine (fclone_any (K2.out.on (HX0.out.trans (Below.mono hHeld HX0.out.size))) hnB).mono ?_
            rintro e w5n ⟨v2, rfl, ho2, hb2n⟩
            obtain ⟨A8, n8, c8, rfl⟩ := ho2.shape
            have HR2 : Hid (OwF w5n w0.heap.size (.slice A8 n8 c8) b.nw) := hid (ho2.less (Nat.le_trans HX0.out.size (Below.size hHeld)))
            first | (have HR1 := hid (HR1.out.on hb2n)) | skip
            first | (have HVB := hid (HVB.out.on hb2n)) | skip
            go_wp2_with fail
            refine hK.out _ _ (Ext.trans hHeld hb2n) (fun hHeld => ?_)
            clear hK K
            try simp only [Act.put, List.setIfInBounds_toArray, List.set_cons_zero, List.set_cons_succ]
            refine reg_take 6 (v := ?vz7_6) (atS5 (atS at0)) (by kernel_rfl) (by kernel_rfl) (by kernel_rfl) (by rfl) ?hyz7_6 hHeld ?restz7_6
            case hyz7_6 => (intro w' hSw; go_simp; try with_reducible rfl)
            try simp only [Act.put, List.setIfInBounds_toArray, List.set_cons_zero, List.set_cons_succ]
            refine wpAnyH_ready (rs := [8]) (by kernel_rfl) (by simp) ?_
            refine AllReadyH.cons (atS5 (atS (atS (atS at0)))) (fun K hK => ?_) AllReadyH.nil
            obtain ⟨v0c, v1c, v2c⟩ := HVB.out.cells
            have vf0 := HVB.out.frozen 0; have vf1 := HVB.out.frozen 1; have vf2 := HVB.out.frozen 2
            go_simp
            refine hK.out _ _ (B3 hHeld HQL2.out _ _ _) (fun hHeld => ?_)
            clear hK K
            try simp only [Act.put]
            refine wpAnyH_done (by kernel_rfl) ?_ _
            refine NoPanic.normal ?_
            clear s1 s3 v0c v1c v2c vf0 vf1 vf2
            obtain ⟨W8, hW8⟩ : ∃ W8, W8 = ((w5n.setCell ⟨q, 0, none⟩ (.slice A7 n7 c7)).setCell ⟨q, 1, none⟩ (.slice A8 n8 c8)).setCell ⟨q, 2, none⟩ (.slice none 0 0) := ⟨_, rfl⟩
            rw [← hW8]
            rw [← hW8] at hHeld
            have HWQ : Hid (w0.heap.size ≤ q) := hid (Nat.le_trans HX0.out.size HQL2.out)
            have HTB8 : Hid (TBx W8 q (.slice A7 n7 c7) (.slice A8 n8 c8) (.slice none 0 0) 92) := by rw [hW8]; exact hid (HVB.out.set3 _ _ _)
            have hkf : KeepTy 68 w5n W8 := by rw [hW8]; exact ((KeepTy.set HVB.out (by decide) 0 _).trans (KeepTy.set (HVB.out.set0 _) (by decide) 1 _)).trans (KeepTy.set ((HVB.out.set0 _).set1 _) (by decide) 2 _)
            have HR18 := hid (HR1.out.ty hkf)
            have HR28 := hid (HR2.out.ty hkf)
            have HMK : Hid (MkT w0 W8 q 92 161 (.slice A7 n7 c7) (.slice A8 n8 c8) (.slice none 0 0) (q + 1) ((thrL a b).take 0)) := hid ⟨HTB8.out, by rw [List.take_zero]; exact OwM.nil _ _ _, HX0.out.trans (Below.mono hHeld HX0.out.size), by omega, HWQ.out, HTB8.out.lt⟩
            clear hW8 hkf
            obtain ⟨a0, a1, a2⟩ := (HTA.out.on HMK.out.bl).cells
            obtain ⟨b0, b1, b2⟩ := (HTB.out.on HMK.out.bl).cells
            go_wp2_with fail
            clear a0 a1 a2 b0 b1 b2
            go_loopw [35] (fun i wr => ∃ j : Nat, j ≤ m3 ∧ i = .int .i64 j ∧ Hid (∃ v, MkT w0 wr q 92 161 (.slice A7 n7 c7) (.slice A8 n8 c8) v (q + 1) ((thrL a b).take j)) ∧ Hid (OwF wr w0.heap.size (.slice A7 n7 c7) a.o ∧ OwF wr w0.heap.size (.slice A8 n8 c8) b.nw)) (fun i _ => m3 - (intOf i).toNat)
            case atStart => exact ⟨0, by omega, rfl, hid ⟨_, HMK.out⟩, hid ⟨HR18.out, HR28.out⟩⟩
            case round =>
              obtain ⟨j, hj, rfl, ⟨v, hm⟩, HRR2⟩ := hrel
              have HM := hid hm
              clear hm
              by_cases hlt : j < m3
              · obtain ⟨y, hy⟩ : ∃ y, b.mv[j]? = some y := ⟨_, List.getElem?_eq_getElem (by have := LM.out; omega)⟩
                obtain ⟨f, hf⟩ : ∃ f, b.nw[j]? = some f := ⟨_, List.getElem?_eq_getElem (by have := LM.out; have := (rightT_iff.1 HRR.out.symm).2.2.1; omega)⟩
                obtain ⟨z, hz⟩ : ∃ z, z = thrM a y f := ⟨_, rfl⟩
                have HY := hid hy; have HF := hid hf; have HZM := hid hz
                have HTK : Hid ((thrL a b).take (j + 1) = (thrL a b).take j ++ [z]) := hid (by rw [hz]; exact thrL_take hy hf)
                have hji : (j : Int) < m3 := by omega
                clear hy hf hz
                go_upto_region 7 with fail
                refine reg_beginB q (by kernel_rfl) (fun w0b hh0b hx0b hHeld => ?_)
                have HDR : Hid (Below wr.heap.size wr w0b) := hid ⟨hx0b.os, hx0b.tape, hx0b.output, by rw [hh0b.out]; exact Nat.le_refl _, fun i _ => by rw [hh0b.out]⟩
                have HMB := hid (HM.out.on HDR.out)
                have HX : ∀ w', ExB q w0b w' → Below w0.heap.size w0 w' := fun w' h => HM.out.bl.trans ((hx0b.trans h).mono HM.out.wq)
                have a0 := fun w' h => (HTA.out.on (HX w' h)).cells.1
                have a1 := fun w' h => (HTA.out.on (HX w' h)).cells.2.1
                have a2 := fun w' h => (HTA.out.on (HX w' h)).cells.2.2
                have b0 := fun w' h => (HTB.out.on (HX w' h)).cells.1
                have b1 := fun w' h => (HTB.out.on (HX w' h)).cells.2.1
                have b2 := fun w' h => (HTB.out.on (HX w' h)).cells.2.2
                have t1 := HMB.out.tb.cells.2.2
                have HXH := hid HX
                have HQB : Hid (q ≤ w0b.heap.size) := hid (by have := HMB.out.qb; have := HMB.out.az; omega)
                clear HX
                refine reg_takeB 0 (v := ?vy1k8_0) at0 (by kernel_rfl) (by kernel_rfl) (by kernel_rfl) (by rfl) ?hyy1k8_0 hHeld ?resty1k8_0
                case hyy1k8_0 => (intro w' hSw; go_simp; try with_reducible rfl)
                try simp only [Act.put, List.setIfInBounds_toArray, List.set_cons_zero, List.set_cons_succ]
                refine reg_takeB 2 (v := ?vy2k8_2) (atS (atS at0)) (by kernel_rfl) (by kernel_rfl) (by kernel_rfl) (by rfl) ?hyy2k8_2 hHeld ?resty2k8_2
                case hyy2k8_2 => (intro w' hSw; go_simp; try with_reducible rfl)
                try simp only [Act.put, List.setIfInBounds_toArray, List.set_cons_zero, List.set_cons_succ]
                refine reg_takeB 3 (v := ?vy3k8_3) (atS (atS (atS at0))) (by kernel_rfl) (by kernel_rfl) (by kernel_rfl) (by rfl) ?hyy3k8_3 hHeld ?resty3k8_3
                case hyy3k8_3 => (intro w' hSw; go_simp; try with_reducible rfl)
                try simp only [Act.put, List.setIfInBounds_toArray, List.set_cons_zero, List.set_cons_succ]
                refine reg_takeB 4 (v := ?vy4k8_4) (atS (atS (atS (atS at0)))) (by kernel_rfl) (by kernel_rfl) (by kernel_rfl) (by rfl) ?hyy4k8_4 hHeld ?resty4k8_4
                case hyy4k8_4 => (intro w' hSw; go_simp; try with_reducible rfl)
                try simp only [Act.put, List.setIfInBounds_toArray, List.set_cons_zero, List.set_cons_succ]
                refine wpAnyH_ready (rs := [1, 5]) (by kernel_rfl) (by simp) ?_
                refine AllReadyH.cons (atS at0) (fun K hK => ?_) (AllReadyH.cons (atS5 at0) (fun K hK => ?_) AllReadyH.nil)
                · skip
                  go_simp
                  go_simp
                  go_wp2_with fail
                  refine hK.out _ _ hHeld (fun hHeld => ?_)
                  clear hK K
                  try simp only [Act.put, List.setIfInBounds_toArray, List.set_cons_zero, List.set_cons_succ]
                  refine wpAnyH_ready (rs := [5]) (by kernel_rfl) (by simp) ?_
                  refine AllReadyH.cons (atS5 at0) (fun K hK => ?_) AllReadyH.nil
                  go_simp
                  refine (p7thr_any (HAT.out.on (HXH.out _ hHeld)) (HBTT.out.on (HXH.out _ hHeld)) HRA.out.symm HRR.out.symm HSAME.out HY.out HF.out).mono ?_
                  rintro e w5b ⟨rfl, hb5⟩
                  rw [← HZM.out]
                  have hm5 := HMB.out.on hb5
                  have t2 := hm5.tb.cells.2.2
                  have t3 := (hm5.on (B1 w5b (.cells #[.int .i64 z.fr, .int .i64 z.k, .int .u64 z.n, .string z.t] 161))).tb.cells.2.2
                  have hlz : ((thrL a b).take j).length ≤ 1000000 := by rw [List.length_take]; omega
                  obtain ⟨u', w6, hrun, hown, hgr⟩ := run_appMv Tryz.underlying90 infoMp hm5.ow z hlz hm5.az 90
                  have hmx := hm5.on (B1 w5b (.cells #[.int .i64 z.fr, .int .i64 z.k, .int .u64 z.n, .string z.t] 161))
                  have hmk := hmx.app hgr hown
                  rw [← HTK.out] at hmk
                  have htb := hmx.tb.grown hgr (fun e => by have := (hmx.ow.blk2 q e.symm).1; have := hmx.qb; omega)
                  have fz := htb.frozen 2
                  have ct := htb.cells.2.2
                  obtain ⟨A3x, n3x, c3x, rfl⟩ := hown.shape
                  have HRUN := hid hrun; have HMK2 := hid hmk
                  have HX5 : Hid (ExB q w0b w5b) := hid (Below.mono hb5 HQB.out)
                  have HX5A : Hid (ExB q w0b (w5b.alloc (.cells #[.int .i64 z.fr, .int .i64 z.k, .int .u64 z.n, .string z.t] 161))) := hid (Below.alloc HX5.out (Nat.le_trans HQB.out hb5.size) _)
                  have HX6 : Hid (ExB q w0b w6) := hid (Below.grown HX5A.out hgr (Nat.le_trans HQB.out (Nat.le_trans hb5.size (by simp))) (fun i e => by have := (hmx.ow.blk2 i e).1; omega))
                  have HR6 : Hid (OwF w6 w0.heap.size (.slice A7 n7 c7) a.o ∧ OwF w6 w0.heap.size (.slice A8 n8 c8) b.nw) := hid (by
                  have hk : KeepTy 68 wr w6 := ((KeepTy.below HDR.out).trans (KeepTy.below (Ba hb5 _))).trans (KeepTy.grown hgr (fun r e => (hmx.ow.blk2 r e).2) (by decide))
                  exact ⟨HRR2.out.1.ty hk, HRR2.out.2.ty hk⟩)
                  have HTB6 := hid htb
                  clear hrun hown hgr hmk htb hm5 hmx hb5 hlz
                  unfold mvV
                  go_wp2_with fail
                  refine hK.out _ _ HX5.out (fun hHeld => ?_)
                  clear hK K
                  try simp only [Act.put, List.setIfInBounds_toArray, List.set_cons_zero, List.set_cons_succ]
                  refine wpAnyH_ready (rs := [6]) (by kernel_rfl) (by simp) ?_
                  refine AllReadyH.cons (atS5 (atS at0)) (fun K hK => ?_) AllReadyH.nil
                  go_simp
                  go_simp
                  go_wp2_with fail
                  refine hK.out _ _ HX5A.out (fun hHeld => ?_)
                  clear hK K
                  try simp only [Act.put, List.setIfInBounds_toArray, List.set_cons_zero, List.set_cons_succ]
                  refine wpAnyH_ready (rs := [7]) (by kernel_rfl) (by simp) ?_
                  refine AllReadyH.cons (atS5 (atS (atS at0))) (fun K hK => ?_) AllReadyH.nil
                  refine step_appG rfl (.tmp 39) (.tmp 44) rfl (by rfl) (by rfl) HRUN.out ?_
                  refine hK.out _ _ HX6.out (fun hHeld => ?_)
                  clear hK K
                  try simp only [Act.put, List.setIfInBounds_toArray, List.set_cons_zero, List.set_cons_succ]
                  refine reg_takeB 8 (v := ?vy5k8_8) (atS5 (atS (atS (atS at0)))) (by kernel_rfl) (by kernel_rfl) (by kernel_rfl) (by rfl) ?hyy5k8_8 hHeld ?resty5k8_8
                  case hyy5k8_8 => (intro w' hSw; go_simp; try with_reducible rfl)
                  try simp only [Act.put, List.setIfInBounds_toArray, List.set_cons_zero, List.set_cons_succ]
                  refine wpAnyH_ready (rs := [9]) (by kernel_rfl) (by simp) ?_
                  refine AllReadyH.cons (atS5 (atS (atS (atS (atS at0))))) (fun K hK => ?_) AllReadyH.nil
                  go_simp
                  go_simp
                  go_wp2_with fail
                  refine hK.out _ _ (Below.setCell (p := ⟨q, 2, none⟩) HX6.out (Nat.le_refl _) _) (fun hHeld => ?_)
                  clear hK K
                  try simp only [Act.put]
                  refine wpAnyH_done (by kernel_rfl) ?_ _
                  refine NoPanic.normal ?_
                  clear a0 a1 a2 b0 b1 b2 t1 t2 t3 fz ct
                  go_wp2_with fail
                  exact ⟨⟨j + 1, by omega, by go_num, hid ⟨_, HMK2.out⟩, hid ⟨HR6.out.1.ty (KeepTy.set HTB6.out (by decide) 2 _), HR6.out.2.ty (KeepTy.set HTB6.out (by decide) 2 _)⟩⟩, by simp [intOf]; omega⟩
                · skip
                  go_simp
                  refine (p7thr_any (HAT.out.on (HXH.out _ hHeld)) (HBTT.out.on (HXH.out _ hHeld)) HRA.out.symm HRR.out.symm HSAME.out HY.out HF.out).mono ?_
                  rintro e w5b ⟨rfl, hb5⟩
                  rw [← HZM.out]
                  have hm5 := HMB.out.on hb5
                  have t2 := hm5.tb.cells.2.2
                  have t3 := (hm5.on (B1 w5b (.cells #[.int .i64 z.fr, .int .i64 z.k, .int .u64 z.n, .string z.t] 161))).tb.cells.2.2
                  have hlz : ((thrL a b).take j).length ≤ 1000000 := by rw [List.length_take]; omega
                  obtain ⟨u', w6, hrun, hown, hgr⟩ := run_appMv Tryz.underlying90 infoMp hm5.ow z hlz hm5.az 90
                  have hmx := hm5.on (B1 w5b (.cells #[.int .i64 z.fr, .int .i64 z.k, .int .u64 z.n, .string z.t] 161))
                  have hmk := hmx.app hgr hown
                  rw [← HTK.out] at hmk
                  have htb := hmx.tb.grown hgr (fun e => by have := (hmx.ow.blk2 q e.symm).1; have := hmx.qb; omega)
                  have fz := htb.frozen 2
                  have ct := htb.cells.2.2
                  obtain ⟨A3x, n3x, c3x, rfl⟩ := hown.shape
                  have HRUN := hid hrun; have HMK2 := hid hmk
                  have HX5 : Hid (ExB q w0b w5b) := hid (Below.mono hb5 HQB.out)
                  have HX5A : Hid (ExB q w0b (w5b.alloc (.cells #[.int .i64 z.fr, .int .i64 z.k, .int .u64 z.n, .string z.t] 161))) := hid (Below.alloc HX5.out (Nat.le_trans HQB.out hb5.size) _)
                  have HX6 : Hid (ExB q w0b w6) := hid (Below.grown HX5A.out hgr (Nat.le_trans HQB.out (Nat.le_trans hb5.size (by simp))) (fun i e => by have := (hmx.ow.blk2 i e).1; omega))
                  have HR6 : Hid (OwF w6 w0.heap.size (.slice A7 n7 c7) a.o ∧ OwF w6 w0.heap.size (.slice A8 n8 c8) b.nw) := hid (by
                  have hk : KeepTy 68 wr w6 := ((KeepTy.below HDR.out).trans (KeepTy.below (Ba hb5 _))).trans (KeepTy.grown hgr (fun r e => (hmx.ow.blk2 r e).2) (by decide))
                  exact ⟨HRR2.out.1.ty hk, HRR2.out.2.ty hk⟩)
                  have HTB6 := hid htb
                  clear hrun hown hgr hmk htb hm5 hmx hb5 hlz
                  unfold mvV
                  go_wp2_with fail
                  refine hK.out _ _ HX5.out (fun hHeld => ?_)
                  clear hK K
                  try simp only [Act.put, List.setIfInBounds_toArray, List.set_cons_zero, List.set_cons_succ]
                  refine wpAnyH_ready (rs := [1, 6]) (by kernel_rfl) (by simp) ?_
                  refine AllReadyH.cons (atS at0) (fun K hK => ?_) (AllReadyH.cons (atS5 (atS at0)) (fun K hK => ?_) AllReadyH.nil)
                  · skip
                    go_simp
                    go_simp
                    go_wp2_with fail
                    refine hK.out _ _ hHeld (fun hHeld => ?_)
                    clear hK K
                    try simp only [Act.put, List.setIfInBounds_toArray, List.set_cons_zero, List.set_cons_succ]
                    refine wpAnyH_ready (rs := [6]) (by kernel_rfl) (by simp) ?_
                    refine AllReadyH.cons (atS5 (atS at0)) (fun K hK => ?_) AllReadyH.nil
                    go_simp
                    go_simp
                    go_wp2_with fail
                    refine hK.out _ _ HX5A.out (fun hHeld => ?_)
                    clear hK K
                    try simp only [Act.put, List.setIfInBounds_toArray, List.set_cons_zero, List.set_cons_succ]
                    refine wpAnyH_ready (rs := [7]) (by kernel_rfl) (by simp) ?_
                    refine AllReadyH.cons (atS5 (atS (atS at0))) (fun K hK => ?_) AllReadyH.nil
                    refine step_appG rfl (.tmp 39) (.tmp 44) rfl (by rfl) (by rfl) HRUN.out ?_
                    refine hK.out _ _ HX6.out (fun hHeld => ?_)
                    clear hK K
                    try simp only [Act.put, List.setIfInBounds_toArray, List.set_cons_zero, List.set_cons_succ]
                    refine reg_takeB 8 (v := ?vy6k8_8) (atS5 (atS (atS (atS at0)))) (by kernel_rfl) (by kernel_rfl) (by kernel_rfl) (by rfl) ?hyy6k8_8 hHeld ?resty6k8_8
                    case hyy6k8_8 => (intro w' hSw; go_simp; try with_reducible rfl)
                    try simp only [Act.put, List.setIfInBounds_toArray, List.set_cons_zero, List.set_cons_succ]
                    refine wpAnyH_ready (rs := [9]) (by kernel_rfl) (by simp) ?_
                    refine AllReadyH.cons (atS5 (atS (atS (atS (atS at0))))) (fun K hK => ?_) AllReadyH.nil
                    go_simp
                    go_simp
                    go_wp2_with fail
                    refine hK.out _ _ (Below.setCell (p := ⟨q, 2, none⟩) HX6.out (Nat.le_refl _) _) (fun hHeld => ?_)
                    clear hK K
                    try simp only [Act.put]
                    refine wpAnyH_done (by kernel_rfl) ?_ _
                    refine NoPanic.normal ?_
                    clear a0 a1 a2 b0 b1 b2 t1 t2 t3 fz ct
                    go_wp2_with fail
                    exact ⟨⟨j + 1, by omega, by go_num, hid ⟨_, HMK2.out⟩, hid ⟨HR6.out.1.ty (KeepTy.set HTB6.out (by decide) 2 _), HR6.out.2.ty (KeepTy.set HTB6.out (by decide) 2 _)⟩⟩, by simp [intOf]; omega⟩
                  · skip
                    go_simp
                    go_simp
                    go_wp2_with fail
                    refine hK.out _ _ HX5A.out (fun hHeld => ?_)
                    clear hK K
                    try simp only [Act.put, List.setIfInBounds_toArray, List.set_cons_zero, List.set_cons_succ]
                    refine wpAnyH_ready (rs := [1]) (by kernel_rfl) (by simp) ?_
                    refine AllReadyH.cons (atS at0) (fun K hK => ?_) AllReadyH.nil
                    go_simp
                    go_simp
                    go_wp2_with fail
                    refine hK.out _ _ hHeld (fun hHeld => ?_)
                    clear hK K
                    try simp only [Act.put, List.setIfInBounds_toArray, List.set_cons_zero, List.set_cons_succ]
                    refine wpAnyH_ready (rs := [7]) (by kernel_rfl) (by simp) ?_
                    refine AllReadyH.cons (atS5 (atS (atS at0))) (fun K hK => ?_) AllReadyH.nil
                    refine step_appG rfl (.tmp 39) (.tmp 44) rfl (by rfl) (by rfl) HRUN.out ?_
                    refine hK.out _ _ HX6.out (fun hHeld => ?_)
                    clear hK K
                    try simp only [Act.put, List.setIfInBounds_toArray, List.set_cons_zero, List.set_cons_succ]
                    refine reg_takeB 8 (v := ?vy7k8_8) (atS5 (atS (atS (atS at0)))) (by kernel_rfl) (by kernel_rfl) (by kernel_rfl) (by rfl) ?hyy7k8_8 hHeld ?resty7k8_8
                    case hyy7k8_8 => (intro w' hSw; go_simp; try with_reducible rfl)
                    try simp only [Act.put, List.setIfInBounds_toArray, List.set_cons_zero, List.set_cons_succ]
                    refine wpAnyH_ready (rs := [9]) (by kernel_rfl) (by simp) ?_
                    refine AllReadyH.cons (atS5 (atS (atS (atS (atS at0))))) (fun K hK => ?_) AllReadyH.nil
                    go_simp
                    go_simp
                    go_wp2_with fail
                    refine hK.out _ _ (Below.setCell (p := ⟨q, 2, none⟩) HX6.out (Nat.le_refl _) _) (fun hHeld => ?_)
                    clear hK K
                    try simp only [Act.put]
                    refine wpAnyH_done (by kernel_rfl) ?_ _
                    refine NoPanic.normal ?_
                    clear a0 a1 a2 b0 b1 b2 t1 t2 t3 fz ct
                    go_wp2_with fail
                    exact ⟨⟨j + 1, by omega, by go_num, hid ⟨_, HMK2.out⟩, hid ⟨HR6.out.1.ty (KeepTy.set HTB6.out (by decide) 2 _), HR6.out.2.ty (KeepTy.set HTB6.out (by decide) 2 _)⟩⟩, by simp [intOf]; omega⟩
              · have hji : ¬ ((j : Int) < m3) := by omega
                have hjm : (thrL a b).take j = thrL a b := List.take_of_length_le (by rw [thrL_length (rightT_iff.1 HRR.out.symm).2.2.1, LM.out]; omega)
                rw [hjm] at HM
                obtain ⟨A9, n9, c9, rfl⟩ := HM.out.ow.shape
                have HRD : Hid (RdT wr wr.heap.size (.agg #[.slice A7 n7 c7, .slice A8 n8 c8, .slice A9 n9 c9]) ⟨a.o, b.nw, thrL a b⟩) := by
                  obtain ⟨_, _, e1, r1⟩ := HRR2.out.1.rd H1.out.2.2.2.1
                  obtain ⟨_, _, e2, r2⟩ := HRR2.out.2.rd K2.out.2.2.2.1
                  obtain ⟨_, _, e3, r3⟩ := HM.out.ow.rd HIM.out
                  cases e1; cases e2; cases e3
                  exact hid ⟨_, _, _, _, _, _, _, _, _, rfl, r1, r2, r3⟩
                have HCR : Hid (rightT ⟨a.o, b.nw, thrL a b⟩ = compB a b) := hid (comp_right HRA.out.symm HRR.out.symm HSAME.out (fun x hx => (H3.out.2.2.2.1 x hx).2.2))
                obtain ⟨q0, q1, q2⟩ := HM.out.tb.cells
                clear hjm
                go_wp2_with fail
                refine (p7right_any HRD.out ⟨HSA.out.1, HSB.out.2⟩).mono ?_
                rintro e w8 ⟨rfl, hb8⟩
                rw [HCR.out]
                have HB8 : Hid (Below w0.heap.size w0 w8) := hid (HM.out.bl.trans (hb8.mono HM.out.bl.size))
                have HTB8 := hid (HM.out.tb.on hb8)
                have HRD8 := hid (HRD.out.on hb8)
                clear hb8 q0 q1 q2
                obtain ⟨q0, q1, q2⟩ := HTB8.out.cells
                obtain ⟨z0, z1, z2⟩ := (HTZ.out.on HB8.out).cells
                have fz0 := (HTZ.out.on HB8.out).frozen 0; have fz1 := (HTZ.out.on HB8.out).frozen 1; have fz2 := (HTZ.out.on HB8.out).frozen 2
                cases hcb : compB a b with
                | false =>
                  have HE := hid hcb
                  clear hcb
                  go_wp2_with fail
                  exact ret_TBpe (by rfl) (by rfl) ((HTZ.out.on HB8.out).set3 _ _ _) (by rfl) (by rfl) ⟨_, by rw [compE_no' HE.out]; rfl, by rw [compT_no' HE.out]; exact RdT.nil _ _, B3 (Bt HB0.out HB8.out) HRZ.out _ _ _⟩
                | true =>
                  have HE := hid hcb
                  clear hcb
                  go_wp2_with fail
                  exact ret_TBpe (by rfl) (by rfl) ((HTZ.out.on HB8.out).set3 _ _ _) (by rfl) (by rfl) ⟨_, by rw [compE_ok' HE.out]; rfl, by rw [compT_ok' HE.out]; exact HRD8.out.box3 (HTZ.out.on HB8.out) ⟨_, _, _, rfl⟩ ⟨_, _, _, rfl⟩ ⟨_, _, _, rfl⟩ ⟨_, _, _, rfl⟩ ⟨_, _, _, rfl⟩ ⟨_, _, _, rfl⟩, B3 (Bt HB0.out HB8.out) HRZ.out _ _ _⟩
        · skip
          have HQL : Hid (w0a.heap.size ≤ w0a.heap.size) := hid (Below.size hHeld)
          go_simp
          refine hK.out _ _ (Ba hHeld _) (fun hHeld => ?_)
          clear hK K
          try simp only [Act.put, List.setIfInBounds_toArray, List.set_cons_zero, List.set_cons_succ]
          first | (have HR1 := hid (HR1.out.on (B1 _ (.cells #[.slice none 0 0, .slice none 0 0, .slice none 0 0] 92)))) | skip
          first | (have HR2 := hid (HR2.out.on (B1 _ (.cells #[.slice none 0 0, .slice none 0 0, .slice none 0 0] 92)))) | skip
          have HVB : Hid (TBx (w0a.alloc (.cells #[.slice none 0 0, .slice none 0 0, .slice none 0 0] 92)) w0a.heap.size (.slice none 0 0) (.slice none 0 0) (.slice none 0 0) 92) := hid (tb_new _ _ _ _ _)
          obtain ⟨w7n, hw7n⟩ : ∃ w7n, w7n = w0a.alloc (.cells #[.slice none 0 0, .slice none 0 0, .slice none 0 0] 92) := ⟨_, rfl⟩
          obtain ⟨q, hq⟩ : ∃ q, q = w0a.heap.size := ⟨_, rfl⟩
          have HQL2 : Hid (w0a.heap.size ≤ q) := hid (by rw [hq]; exact HQL.out)
          rw [← hq] at HVB ⊢
          rw [← hw7n] at HVB hHeld ⊢
          first | rw [← hw7n] at HR1 | skip
          first | rw [← hw7n] at HR2 | skip
          clear hw7n hq
          refine wpAnyH_ready (rs := [2]) (by kernel_rfl) (by simp) ?_
          refine AllReadyH.cons (atS (atS at0)) (fun K hK => ?_) AllReadyH.nil
          go_simp
          refine (fclone_any (H1.out.on (HX0.out.trans (Below.mono hHeld HX0.out.size))) hnA).mono ?_
          rintro e w2n ⟨v1, rfl, ho1, hb1n⟩
          obtain ⟨A7, n7, c7, rfl⟩ := ho1.shape
          have HR1 : Hid (OwF w2n w0.heap.size (.slice A7 n7 c7) a.o) := hid (ho1.less (Nat.le_trans HX0.out.size (Below.size hHeld)))
          first | (have HR2 := hid (HR2.out.on hb1n)) | skip
          first | (have HVB := hid (HVB.out.on hb1n)) | skip
          go_wp2_with fail
          refine hK.out _ _ (Ext.trans hHeld hb1n) (fun hHeld => ?_)
          clear hK K
          try simp only [Act.put, List.setIfInBounds_toArray, List.set_cons_zero, List.set_cons_succ]
          refine wpAnyH_ready (rs := [5]) (by kernel_rfl) (by simp) ?_
          refine AllReadyH.cons (atS5 at0) (fun K hK => ?_) AllReadyH.nil
          go_simp
          refine (fclone_any (K2.out.on (HX0.out.trans (Below.mono hHeld HX0.out.size))) hnB).mono ?_
          rintro e w5n ⟨v2, rfl, ho2, hb2n⟩
          obtain ⟨A8, n8, c8, rfl⟩ := ho2.shape
          have HR2 : Hid (OwF w5n w0.heap.size (.slice A8 n8 c8) b.nw) := hid (ho2.less (Nat.le_trans HX0.out.size (Below.size hHeld)))
          first | (have HR1 := hid (HR1.out.on hb2n)) | skip
          first | (have HVB := hid (HVB.out.on hb2n)) | skip
          go_wp2_with fail
          refine hK.out _ _ (Ext.trans hHeld hb2n) (fun hHeld => ?_)
          clear hK K
          try simp only [Act.put, List.setIfInBounds_toArray, List.set_cons_zero, List.set_cons_succ]
          refine reg_take 6 (v := ?vz9_6) (atS5 (atS at0)) (by kernel_rfl) (by kernel_rfl) (by kernel_rfl) (by rfl) ?hyz9_6 hHeld ?restz9_6
          case hyz9_6 => (intro w' hSw; go_simp; try with_reducible rfl)
          try simp only [Act.put, List.setIfInBounds_toArray, List.set_cons_zero, List.set_cons_succ]
          refine wpAnyH_ready (rs := [8]) (by kernel_rfl) (by simp) ?_
          refine AllReadyH.cons (atS5 (atS (atS (atS at0)))) (fun K hK => ?_) AllReadyH.nil
          obtain ⟨v0c, v1c, v2c⟩ := HVB.out.cells
          have vf0 := HVB.out.frozen 0; have vf1 := HVB.out.frozen 1; have vf2 := HVB.out.frozen 2
          go_simp
          refine hK.out _ _ (B3 hHeld HQL2.out _ _ _) (fun hHeld => ?_)
          clear hK K
          try simp only [Act.put]
          refine wpAnyH_done (by kernel_rfl) ?_ _
          refine NoPanic.normal ?_
          clear s1 s3 v0c v1c v2c vf0 vf1 vf2
          obtain ⟨W8, hW8⟩ : ∃ W8, W8 = ((w5n.setCell ⟨q, 0, none⟩ (.slice A7 n7 c7)).setCell ⟨q, 1, none⟩ (.slice A8 n8 c8)).setCell ⟨q, 2, none⟩ (.slice none 0 0) := ⟨_, rfl⟩
          rw [← hW8]
          rw [← hW8] at hHeld
          have HWQ : Hid (w0.heap.size ≤ q) := hid (Nat.le_trans HX0.out.size HQL2.out)
          have HTB8 : Hid (TBx W8 q (.slice A7 n7 c7) (.slice A8 n8 c8) (.slice none 0 0) 92) := by rw [hW8]; exact hid (HVB.out.set3 _ _ _)
          have hkf : KeepTy 68 w5n W8 := by rw [hW8]; exact ((KeepTy.set HVB.out (by decide) 0 _).trans (KeepTy.set (HVB.out.set0 _) (by decide) 1 _)).trans (KeepTy.set ((HVB.out.set0 _).set1 _) (by decide) 2 _)
          have HR18 := hid (HR1.out.ty hkf)
          have HR28 := hid (HR2.out.ty hkf)
          have HMK : Hid (MkT w0 W8 q 92 161 (.slice A7 n7 c7) (.slice A8 n8 c8) (.slice none 0 0) (q + 1) ((thrL a b).take 0)) := hid ⟨HTB8.out, by rw [List.take_zero]; exact OwM.nil _ _ _, HX0.out.trans (Below.mono hHeld HX0.out.size), by omega, HWQ.out, HTB8.out.lt⟩
          clear hW8 hkf
          obtain ⟨a0, a1, a2⟩ := (HTA.out.on HMK.out.bl).cells
          obtain ⟨b0, b1, b2⟩ := (HTB.out.on HMK.out.bl).cells
          go_wp2_with fail
          clear a0 a1 a2 b0 b1 b2
          go_loopw [35] (fun i wr => ∃ j : Nat, j ≤ m3 ∧ i = .int .i64 j ∧ Hid (∃ v, MkT w0 wr q 92 161 (.slice A7 n7 c7) (.slice A8 n8 c8) v (q + 1) ((thrL a b).take j)) ∧ Hid (OwF wr w0.heap.size (.slice A7 n7 c7) a.o ∧ OwF wr w0.heap.size (.slice A8 n8 c8) b.nw)) (fun i _ => m3 - (intOf i).toNat)
          case atStart => exact ⟨0, by omega, rfl, hid ⟨_, HMK.out⟩, hid ⟨HR18.out, HR28.out⟩⟩
          case round =>
            obtain ⟨j, hj, rfl, ⟨v, hm⟩, HRR2⟩ := hrel
            have HM := hid hm
            clear hm
            by_cases hlt : j < m3
            · obtain ⟨y, hy⟩ : ∃ y, b.mv[j]? = some y := ⟨_, List.getElem?_eq_getElem (by have := LM.out; omega)⟩
              obtain ⟨f, hf⟩ : ∃ f, b.nw[j]? = some f := ⟨_, List.getElem?_eq_getElem (by have := LM.out; have := (rightT_iff.1 HRR.out.symm).2.2.1; omega)⟩
              obtain ⟨z, hz⟩ : ∃ z, z = thrM a y f := ⟨_, rfl⟩
              have HY := hid hy; have HF := hid hf; have HZM := hid hz
              have HTK : Hid ((thrL a b).take (j + 1) = (thrL a b).take j ++ [z]) := hid (by rw [hz]; exact thrL_take hy hf)
              have hji : (j : Int) < m3 := by omega
              clear hy hf hz
              go_upto_region 7 with fail
              refine reg_beginB q (by kernel_rfl) (fun w0b hh0b hx0b hHeld => ?_)
              have HDR : Hid (Below wr.heap.size wr w0b) := hid ⟨hx0b.os, hx0b.tape, hx0b.output, by rw [hh0b.out]; exact Nat.le_refl _, fun i _ => by rw [hh0b.out]⟩
              have HMB := hid (HM.out.on HDR.out)
              have HX : ∀ w', ExB q w0b w' → Below w0.heap.size w0 w' := fun w' h => HM.out.bl.trans ((hx0b.trans h).mono HM.out.wq)
              have a0 := fun w' h => (HTA.out.on (HX w' h)).cells.1
              have a1 := fun w' h => (HTA.out.on (HX w' h)).cells.2.1
              have a2 := fun w' h => (HTA.out.on (HX w' h)).cells.2.2
              have b0 := fun w' h => (HTB.out.on (HX w' h)).cells.1
              have b1 := fun w' h => (HTB.out.on (HX w' h)).cells.2.1
              have b2 := fun w' h => (HTB.out.on (HX w' h)).cells.2.2
              have t1 := HMB.out.tb.cells.2.2
              have HXH := hid HX
              have HQB : Hid (q ≤ w0b.heap.size) := hid (by have := HMB.out.qb; have := HMB.out.az; omega)
              clear HX
              refine reg_takeB 0 (v := ?vy1k10_0) at0 (by kernel_rfl) (by kernel_rfl) (by kernel_rfl) (by rfl) ?hyy1k10_0 hHeld ?resty1k10_0
              case hyy1k10_0 => (intro w' hSw; go_simp; try with_reducible rfl)
              try simp only [Act.put, List.setIfInBounds_toArray, List.set_cons_zero, List.set_cons_succ]
              refine reg_takeB 2 (v := ?vy2k10_2) (atS (atS at0)) (by kernel_rfl) (by kernel_rfl) (by kernel_rfl) (by rfl) ?hyy2k10_2 hHeld ?resty2k10_2
              case hyy2k10_2 => (intro w' hSw; go_simp; try with_reducible rfl)
              try simp only [Act.put, List.setIfInBounds_toArray, List.set_cons_zero, List.set_cons_succ]
              refine reg_takeB 3 (v := ?vy3k10_3) (atS (atS (atS at0))) (by kernel_rfl) (by kernel_rfl) (by kernel_rfl) (by rfl) ?hyy3k10_3 hHeld ?resty3k10_3
              case hyy3k10_3 => (intro w' hSw; go_simp; try with_reducible rfl)
              try simp only [Act.put, List.setIfInBounds_toArray, List.set_cons_zero, List.set_cons_succ]
              refine reg_takeB 4 (v := ?vy4k10_4) (atS (atS (atS (atS at0)))) (by kernel_rfl) (by kernel_rfl) (by kernel_rfl) (by rfl) ?hyy4k10_4 hHeld ?resty4k10_4
              case hyy4k10_4 => (intro w' hSw; go_simp; try with_reducible rfl)
              try simp only [Act.put, List.setIfInBounds_toArray, List.set_cons_zero, List.set_cons_succ]
              refine wpAnyH_ready (rs := [1, 5]) (by kernel_rfl) (by simp) ?_
              refine AllReadyH.cons (atS at0) (fun K hK => ?_) (AllReadyH.cons (atS5 at0) (fun K hK => ?_) AllReadyH.nil)
              · skip
                go_simp
                go_simp
                go_wp2_with fail
                refine hK.out _ _ hHeld (fun hHeld => ?_)
                clear hK K
                try simp only [Act.put, List.setIfInBounds_toArray, List.set_cons_zero, List.set_cons_succ]
                refine wpAnyH_ready (rs := [5]) (by kernel_rfl) (by simp) ?_
                refine AllReadyH.cons (atS5 at0) (fun K hK => ?_) AllReadyH.nil
                go_simp
                refine (p7thr_any (HAT.out.on (HXH.out _ hHeld)) (HBTT.out.on (HXH.out _ hHeld)) HRA.out.symm HRR.out.symm HSAME.out HY.out HF.out).mono ?_
                rintro e w5b ⟨rfl, hb5⟩
                rw [← HZM.out]
                have hm5 := HMB.out.on hb5
                have t2 := hm5.tb.cells.2.2
                have t3 := (hm5.on (B1 w5b (.cells #[.int .i64 z.fr, .int .i64 z.k, .int .u64 z.n, .string z.t] 161))).tb.cells.2.2
                have hlz : ((thrL a b).take j).length ≤ 1000000 := by rw [List.length_take]; omega
                obtain ⟨u', w6, hrun, hown, hgr⟩ := run_appMv Tryz.underlying90 infoMp hm5.ow z hlz hm5.az 90
                have hmx := hm5.on (B1 w5b (.cells #[.int .i64 z.fr, .int .i64 z.k, .int .u64 z.n, .string z.t] 161))
                have hmk := hmx.app hgr hown
                rw [← HTK.out] at hmk
                have htb := hmx.tb.grown hgr (fun e => by have := (hmx.ow.blk2 q e.symm).1; have := hmx.qb; omega)
                have fz := htb.frozen 2
                have ct := htb.cells.2.2
                obtain ⟨A3x, n3x, c3x, rfl⟩ := hown.shape
                have HRUN := hid hrun; have HMK2 := hid hmk
                have HX5 : Hid (ExB q w0b w5b) := hid (Below.mono hb5 HQB.out)
                have HX5A : Hid (ExB q w0b (w5b.alloc (.cells #[.int .i64 z.fr, .int .i64 z.k, .int .u64 z.n, .string z.t] 161))) := hid (Below.alloc HX5.out (Nat.le_trans HQB.out hb5.size) _)
                have HX6 : Hid (ExB q w0b w6) := hid (Below.grown HX5A.out hgr (Nat.le_trans HQB.out (Nat.le_trans hb5.size (by simp))) (fun i e => by have := (hmx.ow.blk2 i e).1; omega))
                have HR6 : Hid (OwF w6 w0.heap.size (.slice A7 n7 c7) a.o ∧ OwF w6 w0.heap.size (.slice A8 n8 c8) b.nw) := hid (by
                have hk : KeepTy 68 wr w6 := ((KeepTy.below HDR.out).trans (KeepTy.below (Ba hb5 _))).trans (KeepTy.grown hgr (fun r e => (hmx.ow.blk2 r e).2) (by decide))
                exact ⟨HRR2.out.1.ty hk, HRR2.out.2.ty hk⟩)
                have HTB6 := hid htb
                clear hrun hown hgr hmk htb hm5 hmx hb5 hlz
                unfold mvV
                go_wp2_with fail
                refine hK.out _ _ HX5.out (fun hHeld => ?_)
                clear hK K
                try simp only [Act.put, List.setIfInBounds_toArray, List.set_cons_zero, List.set_cons_succ]
                refine wpAnyH_ready (rs := [6]) (by kernel_rfl) (by simp) ?_
                refine AllReadyH.cons (atS5 (atS at0)) (fun K hK => ?_) AllReadyH.nil
                go_simp
                go_simp
                go_wp2_with fail
                refine hK.out _ _ HX5A.out (fun hHeld => ?_)
                clear hK K
                try simp only [Act.put, List.setIfInBounds_toArray, List.set_cons_zero, List.set_cons_succ]
                refine wpAnyH_ready (rs := [7]) (by kernel_rfl) (by simp) ?_
                refine AllReadyH.cons (atS5 (atS (atS at0))) (fun K hK => ?_) AllReadyH.nil
                refine step_appG rfl (.tmp 39) (.tmp 44) rfl (by rfl) (by rfl) HRUN.out ?_
                refine hK.out _ _ HX6.out (fun hHeld => ?_)
                clear hK K
                try simp only [Act.put, List.setIfInBounds_toArray, List.set_cons_zero, List.set_cons_succ]
                refine reg_takeB 8 (v := ?vy5k10_8) (atS5 (atS (atS (atS at0)))) (by kernel_rfl) (by kernel_rfl) (by kernel_rfl) (by rfl) ?hyy5k10_8 hHeld ?resty5k10_8
                case hyy5k10_8 => (intro w' hSw; go_simp; try with_reducible rfl)
                try simp only [Act.put, List.setIfInBounds_toArray, List.set_cons_zero, List.set_cons_succ]
                refine wpAnyH_ready (rs := [9]) (by kernel_rfl) (by simp) ?_
                refine AllReadyH.cons (atS5 (atS (atS (atS (atS at0))))) (fun K hK => ?_) AllReadyH.nil
                go_simp
                go_simp
                go_wp2_with fail
                refine hK.out _ _ (Below.setCell (p := ⟨q, 2, none⟩) HX6.out (Nat.le_refl _) _) (fun hHeld => ?_)
                clear hK K
                try simp only [Act.put]
                refine wpAnyH_done (by kernel_rfl) ?_ _
                refine NoPanic.normal ?_
                clear a0 a1 a2 b0 b1 b2 t1 t2 t3 fz ct
                go_wp2_with fail
                exact ⟨⟨j + 1, by omega, by go_num, hid ⟨_, HMK2.out⟩, hid ⟨HR6.out.1.ty (KeepTy.set HTB6.out (by decide) 2 _), HR6.out.2.ty (KeepTy.set HTB6.out (by decide) 2 _)⟩⟩, by simp [intOf]; omega⟩
              · skip
                go_simp
                refine (p7thr_any (HAT.out.on (HXH.out _ hHeld)) (HBTT.out.on (HXH.out _ hHeld)) HRA.out.symm HRR.out.symm HSAME.out HY.out HF.out).mono ?_
                rintro e w5b ⟨rfl, hb5⟩
                rw [← HZM.out]
                have hm5 := HMB.out.on hb5
                have t2 := hm5.tb.cells.2.2
                have t3 := (hm5.on (B1 w5b (.cells #[.int .i64 z.fr, .int .i64 z.k, .int .u64 z.n, .string z.t] 161))).tb.cells.2.2
                have hlz : ((thrL a b).take j).length ≤ 1000000 := by rw [List.length_take]; omega
                obtain ⟨u', w6, hrun, hown, hgr⟩ := run_appMv Tryz.underlying90 infoMp hm5.ow z hlz hm5.az 90
                have hmx := hm5.on (B1 w5b (.cells #[.int .i64 z.fr, .int .i64 z.k, .int .u64 z.n, .string z.t] 161))
                have hmk := hmx.app hgr hown
                rw [← HTK.out] at hmk
                have htb := hmx.tb.grown hgr (fun e => by have := (hmx.ow.blk2 q e.symm).1; have := hmx.qb; omega)
                have fz := htb.frozen 2
                have ct := htb.cells.2.2
                obtain ⟨A3x, n3x, c3x, rfl⟩ := hown.shape
                have HRUN := hid hrun; have HMK2 := hid hmk
                have HX5 : Hid (ExB q w0b w5b) := hid (Below.mono hb5 HQB.out)
                have HX5A : Hid (ExB q w0b (w5b.alloc (.cells #[.int .i64 z.fr, .int .i64 z.k, .int .u64 z.n, .string z.t] 161))) := hid (Below.alloc HX5.out (Nat.le_trans HQB.out hb5.size) _)
                have HX6 : Hid (ExB q w0b w6) := hid (Below.grown HX5A.out hgr (Nat.le_trans HQB.out (Nat.le_trans hb5.size (by simp))) (fun i e => by have := (hmx.ow.blk2 i e).1; omega))
                have HR6 : Hid (OwF w6 w0.heap.size (.slice A7 n7 c7) a.o ∧ OwF w6 w0.heap.size (.slice A8 n8 c8) b.nw) := hid (by
                have hk : KeepTy 68 wr w6 := ((KeepTy.below HDR.out).trans (KeepTy.below (Ba hb5 _))).trans (KeepTy.grown hgr (fun r e => (hmx.ow.blk2 r e).2) (by decide))
                exact ⟨HRR2.out.1.ty hk, HRR2.out.2.ty hk⟩)
                have HTB6 := hid htb
                clear hrun hown hgr hmk htb hm5 hmx hb5 hlz
                unfold mvV
                go_wp2_with fail
                refine hK.out _ _ HX5.out (fun hHeld => ?_)
                clear hK K
                try simp only [Act.put, List.setIfInBounds_toArray, List.set_cons_zero, List.set_cons_succ]
                refine wpAnyH_ready (rs := [1, 6]) (by kernel_rfl) (by simp) ?_
                refine AllReadyH.cons (atS at0) (fun K hK => ?_) (AllReadyH.cons (atS5 (atS at0)) (fun K hK => ?_) AllReadyH.nil)
                · skip
                  go_simp
                  go_simp
                  go_wp2_with fail
                  refine hK.out _ _ hHeld (fun hHeld => ?_)
                  clear hK K
                  try simp only [Act.put, List.setIfInBounds_toArray, List.set_cons_zero, List.set_cons_succ]
                  refine wpAnyH_ready (rs := [6]) (by kernel_rfl) (by simp) ?_
                  refine AllReadyH.cons (atS5 (atS at0)) (fun K hK => ?_) AllReadyH.nil
                  go_simp
                  go_simp
                  go_wp2_with fail
                  refine hK.out _ _ HX5A.out (fun hHeld => ?_)
                  clear hK K
                  try simp only [Act.put, List.setIfInBounds_toArray, List.set_cons_zero, List.set_cons_succ]
                  refine wpAnyH_ready (rs := [7]) (by kernel_rfl) (by simp) ?_
                  refine AllReadyH.cons (atS5 (atS (atS at0))) (fun K hK => ?_) AllReadyH.nil
                  refine step_appG rfl (.tmp 39) (.tmp 44) rfl (by rfl) (by rfl) HRUN.out ?_
                  refine hK.out _ _ HX6.out (fun hHeld => ?_)
                  clear hK K
                  try simp only [Act.put, List.setIfInBounds_toArray, List.set_cons_zero, List.set_cons_succ]
                  refine reg_takeB 8 (v := ?vy6k10_8) (atS5 (atS (atS (atS at0)))) (by kernel_rfl) (by kernel_rfl) (by kernel_rfl) (by rfl) ?hyy6k10_8 hHeld ?resty6k10_8
                  case hyy6k10_8 => (intro w' hSw; go_simp; try with_reducible rfl)
                  try simp only [Act.put, List.setIfInBounds_toArray, List.set_cons_zero, List.set_cons_succ]
                  refine wpAnyH_ready (rs := [9]) (by kernel_rfl) (by simp) ?_
                  refine AllReadyH.cons (atS5 (atS (atS (atS (atS at0))))) (fun K hK => ?_) AllReadyH.nil
                  go_simp
                  go_simp
                  go_wp2_with fail
                  refine hK.out _ _ (Below.setCell (p := ⟨q, 2, none⟩) HX6.out (Nat.le_refl _) _) (fun hHeld => ?_)
                  clear hK K
                  try simp only [Act.put]
                  refine wpAnyH_done (by kernel_rfl) ?_ _
                  refine NoPanic.normal ?_
                  clear a0 a1 a2 b0 b1 b2 t1 t2 t3 fz ct
                  go_wp2_with fail
                  exact ⟨⟨j + 1, by omega, by go_num, hid ⟨_, HMK2.out⟩, hid ⟨HR6.out.1.ty (KeepTy.set HTB6.out (by decide) 2 _), HR6.out.2.ty (KeepTy.set HTB6.out (by decide) 2 _)⟩⟩, by simp [intOf]; omega⟩
                · skip
                  go_simp
                  go_simp
                  go_wp2_with fail
                  refine hK.out _ _ HX5A.out (fun hHeld => ?_)
                  clear hK K
                  try simp only [Act.put, List.setIfInBounds_toArray, List.set_cons_zero, List.set_cons_succ]
                  refine wpAnyH_ready (rs := [1]) (by kernel_rfl) (by simp) ?_
                  refine AllReadyH.cons (atS at0) (fun K hK => ?_) AllReadyH.nil
                  go_simp
                  go_simp
                  go_wp2_with fail
                  refine hK.out _ _ hHeld (fun hHeld => ?_)
                  clear hK K
                  try simp only [Act.put, List.setIfInBounds_toArray, List.set_cons_zero, List.set_cons_succ]
                  refine wpAnyH_ready (rs := [7]) (by kernel_rfl) (by simp) ?_
                  refine AllReadyH.cons (atS5 (atS (atS at0))) (fun K hK => ?_) AllReadyH.nil
                  refine step_appG rfl (.tmp 39) (.tmp 44) rfl (by rfl) (by rfl) HRUN.out ?_
                  refine hK.out _ _ HX6.out (fun hHeld => ?_)
                  clear hK K
                  try simp only [Act.put, List.setIfInBounds_toArray, List.set_cons_zero, List.set_cons_succ]
                  refine reg_takeB 8 (v := ?vy7k10_8) (atS5 (atS (atS (atS at0)))) (by kernel_rfl) (by kernel_rfl) (by kernel_rfl) (by rfl) ?hyy7k10_8 hHeld ?resty7k10_8
                  case hyy7k10_8 => (intro w' hSw; go_simp; try with_reducible rfl)
                  try simp only [Act.put, List.setIfInBounds_toArray, List.set_cons_zero, List.set_cons_succ]
                  refine wpAnyH_ready (rs := [9]) (by kernel_rfl) (by simp) ?_
                  refine AllReadyH.cons (atS5 (atS (atS (atS (atS at0))))) (fun K hK => ?_) AllReadyH.nil
                  go_simp
                  go_simp
                  go_wp2_with fail
                  refine hK.out _ _ (Below.setCell (p := ⟨q, 2, none⟩) HX6.out (Nat.le_refl _) _) (fun hHeld => ?_)
                  clear hK K
                  try simp only [Act.put]
                  refine wpAnyH_done (by kernel_rfl) ?_ _
                  refine NoPanic.normal ?_
                  clear a0 a1 a2 b0 b1 b2 t1 t2 t3 fz ct
                  go_wp2_with fail
                  exact ⟨⟨j + 1, by omega, by go_num, hid ⟨_, HMK2.out⟩, hid ⟨HR6.out.1.ty (KeepTy.set HTB6.out (by decide) 2 _), HR6.out.2.ty (KeepTy.set HTB6.out (by decide) 2 _)⟩⟩, by simp [intOf]; omega⟩
            · have hji : ¬ ((j : Int) < m3) := by omega
              have hjm : (thrL a b).take j = thrL a b := List.take_of_length_le (by rw [thrL_length (rightT_iff.1 HRR.out.symm).2.2.1, LM.out]; omega)
              rw [hjm] at HM
              obtain ⟨A9, n9, c9, rfl⟩ := HM.out.ow.shape
              have HRD : Hid (RdT wr wr.heap.size (.agg #[.slice A7 n7 c7, .slice A8 n8 c8, .slice A9 n9 c9]) ⟨a.o, b.nw, thrL a b⟩) := by
                obtain ⟨_, _, e1, r1⟩ := HRR2.out.1.rd H1.out.2.2.2.1
                obtain ⟨_, _, e2, r2⟩ := HRR2.out.2.rd K2.out.2.2.2.1
                obtain ⟨_, _, e3, r3⟩ := HM.out.ow.rd HIM.out
                cases e1; cases e2; cases e3
                exact hid ⟨_, _, _, _, _, _, _, _, _, rfl, r1, r2, r3⟩
              have HCR : Hid (rightT ⟨a.o, b.nw, thrL a b⟩ = compB a b) := hid (comp_right HRA.out.symm HRR.out.symm HSAME.out (fun x hx => (H3.out.2.2.2.1 x hx).2.2))
              obtain ⟨q0, q1, q2⟩ := HM.out.tb.cells
              clear hjm
              go_wp2_with fail
              refine (p7right_any HRD.out ⟨HSA.out.1, HSB.out.2⟩).mono ?_
              rintro e w8 ⟨rfl, hb8⟩
              rw [HCR.out]
              have HB8 : Hid (Below w0.heap.size w0 w8) := hid (HM.out.bl.trans (hb8.mono HM.out.bl.size))
              have HTB8 := hid (HM.out.tb.on hb8)
              have HRD8 := hid (HRD.out.on hb8)
              clear hb8 q0 q1 q2
              obtain ⟨q0, q1, q2⟩ := HTB8.out.cells
              obtain ⟨z0, z1, z2⟩ := (HTZ.out.on HB8.out).cells
              have fz0 := (HTZ.out.on HB8.out).frozen 0; have fz1 := (HTZ.out.on HB8.out).frozen 1; have fz2 := (HTZ.out.on HB8.out).frozen 2
              cases hcb : compB a b with
              | false =>
                have HE := hid hcb
                clear hcb
                go_wp2_with fail
                exact ret_TBpe (by rfl) (by rfl) ((HTZ.out.on HB8.out).set3 _ _ _) (by rfl) (by rfl) ⟨_, by rw [compE_no' HE.out]; rfl, by rw [compT_no' HE.out]; exact RdT.nil _ _, B3 (Bt HB0.out HB8.out) HRZ.out _ _ _⟩
              | true =>
                have HE := hid hcb
                clear hcb
                go_wp2_with fail
                exact ret_TBpe (by rfl) (by rfl) ((HTZ.out.on HB8.out).set3 _ _ _) (by rfl) (by rfl) ⟨_, by rw [compE_ok' HE.out]; rfl, by rw [compT_ok' HE.out]; exact HRD8.out.box3 (HTZ.out.on HB8.out) ⟨_, _, _, rfl⟩ ⟨_, _, _, rfl⟩ ⟨_, _, _, rfl⟩ ⟨_, _, _, rfl⟩ ⟨_, _, _, rfl⟩ ⟨_, _, _, rfl⟩, B3 (Bt HB0.out HB8.out) HRZ.out _ _ _⟩
      · rw [decide_eq_false hsame]
        have HE : Hid (compB a b = false) := hid (by unfold compB; rw [decide_eq_false hsame]; simp)
        clear hsame
        go_wp2_with fail
        exact ret_TBpe (by rfl) (by rfl) ((HTZ.out.on HB3.out).set3 _ _ _) (by rfl) (by rfl) ⟨_, by rw [compE_no' HE.out]; rfl, by rw [compT_no' HE.out]; exact RdT.nil _ _, B3 (Bt HB0.out HB3.out) HRZ.out _ _ _⟩
end Go.Proofs.YtaegencmnmjgbaaGreat
