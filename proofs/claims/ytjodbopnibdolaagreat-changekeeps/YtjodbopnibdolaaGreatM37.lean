/-
  The walk of ChangeKeeps.
-/
import Derived.Test.YtjodbopnibdolaaGreatM33
import Derived.Test.YtjodbopnibdolaaGreatM35
import Derived.Test.YtjodbopnibdolaaGreatM34
import Derived.Test.YtjodbopnibdolaaGreatM36

namespace Go.Proofs.YtjodbopnibdolaaGreat
open Go.RowKit
set_option linter.unusedVariables false
set_option linter.unusedSimpArgs false

theorem run_bytesK (w : World) (l : List UInt8) (hl : l.length ≤ 1000000) : ∃ c w', (convert 9 42 (.string (bs l))).run Tryz.prog w = .ok (.slice (some ⟨w.heap.size, 0, none⟩) l.length c) w' ∧ Rd w' w'.heap.size (some ⟨w.heap.size, 0, none⟩) l.length c l ∧ Below w.heap.size w w' := by
  refine ⟨_, _, Lib.run_convert_string_bytes (P := Tryz.prog) w 9 42 5 ⟨l.toArray⟩ Tryz.underlying9 Tryz.underlying42 Tryz.underlying5, ?_, ?_⟩
  · refine ⟨rfl, grownCap_ge _ _ _ _, grownCap_le_maxLen _ _ _ _ (by show l.length ≤ maxLen; unfold maxLen; omega), (fun h => by cases h), fun _ => ⟨w.heap.size, 0, rfl, by rw [Lib.bytesWorld_size]; omega, fun i hi => ?_⟩⟩
    rw [Nat.zero_add, Lib.bytesWorld_cell w 5 ⟨l.toArray⟩ i hi]
    simp [List.getD, List.getElem?_eq_getElem hi]; rfl
  · exact ⟨rfl, rfl, rfl, by rw [Lib.bytesWorld_size]; omega, fun i hi => Lib.bytesWorld_at_old w 5 ⟨l.toArray⟩ i hi⟩
theorem few_shortK {n m : Nat} {l : List Fd} {cs : List Ch} (h : fewP8 n l m cs) : short l := fun f hf => by have := h.2.2.1 f hf; omega
theorem few_chOkK {n m : Nat} {l : List Fd} {cs : List Ch} (h : fewP8 n l m cs) {c : Ch} (hc : c ∈ cs) (hi : I64 c.op ∧ I64 c.to.k ∧ I64 c.to.g ∧ I64 c.dk ∧ U64 c.dn) : chOk c := ⟨hi.1, hi.2.1, hi.2.2.1, hi.2.2.2.1, hi.2.2.2.2, by have := h.2.2.2 c hc; unfold wtC at this; omega⟩

theorem RdVa.on {w w' : World} {A : Option Addr} {n cap : Nat} {l : List Va} (h : RdVa w w.heap.size A n cap l) (hb : Below w.heap.size w w') : RdVa w' w'.heap.size A n cap l :=
  ⟨h.1, h.2.1, h.2.2.1, h.2.2.2.1, fun hn => by
    obtain ⟨b, off, e, hlt, hc⟩ := h.2.2.2.2 hn
    exact ⟨b, off, e, Nat.lt_of_lt_of_le hlt hb.size, fun i hi => ⟨(hb.cell (p := ⟨b, off + i * 3, none⟩) hlt).trans (hc i hi).1, (hb.cell (p := ⟨b, off + i * 3 + 1, none⟩) hlt).trans (hc i hi).2.1, (hb.cell (p := ⟨b, off + i * 3 + 2, none⟩) hlt).trans (hc i hi).2.2⟩⟩⟩

set_option maxRecDepth 20000 in
set_option maxHeartbeats 16000000 in
theorem walk_ChangeKeeps (A : Option Addr) (n cp : Nat) (l : List Fd) (Ac : Option Addr) (m mc : Nat) (cs : List Ch) (Av : Option Addr) (nv cv : Nat) (vs : List Va) (w : World) (h : RdF w w.heap.size A n cp l) (hc : RdC w w.heap.size Ac m mc cs) (hsh : ∀ c ∈ cs, shC c) (hv : RdVa w w.heap.size Av nv cv vs) :
    Calls Tryz.prog 3 #[.slice A n cp, .slice Ac m mc, .slice Av nv cv] w fun e w' => e = .returned (.bool true) ∧ Below w.heap.size w w' := by
  have hni : (n : Int) ≤ 9223372036854775807 := by have := Nat.le_trans h.2.1 h.2.2.1; unfold maxLen at this; omega
  have H := hid h; have HC := hid hc; have HSH := hid hsh; have HV := hid hv
  have HL := hid h.1; have HLV := hid hv.1
  clear h hc hsh hv
  go_enter Tryz.func3, Tryz.ntmps3
  go_wp2_with fail
  refine (few8_any H.out HC.out HSH.out).mono ?_
  rintro e w1 ⟨fb, rfl, hfew, hb1⟩
  have HFEW := hid hfew
  have HB1 := hid hb1
  clear hfew hb1
  cases fb with
  | false =>
    go_wp2_with fail
    refine (alive8_any _).mono ?_
    rintro e w2 ⟨rfl, hb2⟩
    go_wp2_with fail
    go_ret
    exact ⟨rfl, Bt HB1.out hb2⟩
  | true =>
  have HF := hid (HFEW.out rfl)
  go_wp2_with fail
  refine (r6right_any (H.out.on HB1.out) (few_shortK HF.out)).mono ?_
  rintro e w2 ⟨rfl, hb2⟩
  have HB2 := hid (Bt HB1.out hb2)
  clear hb2
  cases hr : rightL l with
  | false =>
    clear hr
    go_wp2_with fail
    refine (alive8_any _).mono ?_
    rintro e w3 ⟨rfl, hb3⟩
    go_wp2_with fail
    go_ret
    exact ⟨rfl, Bt HB2.out hb3⟩
  | true =>
  have HR := hid hr
  clear hr
  by_cases hvn : nv < n
  · have hvi : (nv : Int) < n := by omega
    go_wp2_with fail
    refine (alive8_any _).mono ?_
    rintro e w3 ⟨rfl, hb3⟩
    go_wp2_with fail
    go_ret
    exact ⟨rfl, Bt HB2.out hb3⟩
  have HVN : Hid (n ≤ nv) := hid (by omega)
  have hvi : ¬ ((nv : Int) < n) := by omega
  go_wp2_with fail
  go_loopw [36] (fun i wr => ∃ j : Nat, j ≤ n ∧ i = .int .i64 j ∧ Hid (∀ (x : Nat) f v, x < j → l[x]? = some f → vs[x]? = some v → rightF v.k v.n v.t.size f.k f.g = true) ∧ Hid (Below w.heap.size w wr)) (fun i _ => n - (intOf i).toNat)
  case atStart => exact ⟨0, by omega, rfl, hid (fun x _ _ hx => absurd hx (by omega)), HB2⟩
  case round =>
    obtain ⟨j, hj, rfl, HG, HB⟩ := hrel
    by_cases hlt : j < n
    · obtain ⟨f, hf⟩ : ∃ f, l[j]? = some f := ⟨_, List.getElem?_eq_getElem (by have := HL.out; omega)⟩
      obtain ⟨v, hv⟩ : ∃ v, vs[j]? = some v := ⟨_, List.getElem?_eq_getElem (by have := HLV.out; have := HVN.out; omega)⟩
      obtain ⟨_, _, _, _, b, off, rfl, hc⟩ := H.out.at hf
      obtain ⟨_, ⟨_, hu⟩, b2, off2, rfl, hc2⟩ := HV.out.at hv
      obtain ⟨c0, cc1, cc2⟩ := hc wr HB.out
      have HC2 := hid hc2; have HU := hid hu
      have HFX := hid hf; have HVX := hid hv
      have hji : (j : Int) < n := by omega
      have hji2 : (j : Int) < nv := by have := HVN.out; omega
      have hj0 : (0 : Int) ≤ j := by omega
      obtain ⟨p, hp⟩ : ∃ p, p = wr.heap.size := ⟨_, rfl⟩
      obtain ⟨w3, hw3⟩ : ∃ w3, w3 = wr.alloc (.cells #[.string (bs f.nm), .int .i64 f.k, .int .i64 f.g] 29) := ⟨_, rfl⟩
      have HP := hid hp; have HW3 := hid hw3
      have HFB : Hid (FB w3 p (bs f.nm) f.k f.g) := by rw [hw3, hp]; exact hid (fb_new wr _ _ _)
      have HB3 : Hid (Below w.heap.size w w3) := by rw [hw3]; exact hid (Ba HB.out _)
      clear hc hc2 hf hv hp hw3 hu
      go_upto_region 6 with fail
      rw [← HW3.out, ← HP.out]
      clear c0 cc1 cc2
      refine reg_begin (by kernel_rfl) (fun w0a hx0a hHeld => ?_)
      have s0 : ∀ w', Ext w0a w' → Below w3.heap.size w3 w' := fun w' h => hx0a.trans h
      have f0 := fun w' h => (HFB.out.on (s0 w' h)).cells.1
      have f1 := fun w' h => (HFB.out.on (s0 w' h)).cells.2.1
      have f2 := fun w' h => (HFB.out.on (s0 w' h)).cells.2.2
      have u1 := fun w' h => (HC2.out w' (Bt HB3.out (s0 w' h))).1
      have u2 := fun w' h => (HC2.out w' (Bt HB3.out (s0 w' h))).2.1
      have u3 := fun w' h => (HC2.out w' (Bt HB3.out (s0 w' h))).2.2
      refine reg_take 0 (v := ?vb0) at0 (by kernel_rfl) (by kernel_rfl) (by kernel_rfl) (by rfl) ?hyb0 hHeld ?restb0
      case hyb0 => (intro w' hSw; go_simp; try with_reducible rfl)
      try simp only [Act.put, List.setIfInBounds_toArray, List.set_cons_zero, List.set_cons_succ]
      refine reg_take 1 (v := ?vb1) (atS at0) (by kernel_rfl) (by kernel_rfl) (by kernel_rfl) (by rfl) ?hyb1 hHeld ?restb1
      case hyb1 => (intro w' hSw; go_simp; try with_reducible rfl)
      try simp only [Act.put, List.setIfInBounds_toArray, List.set_cons_zero, List.set_cons_succ]
      refine reg_take 2 (v := ?vb2) (atS (atS at0)) (by kernel_rfl) (by kernel_rfl) (by kernel_rfl) (by rfl) ?hyb2 hHeld ?restb2
      case hyb2 => (intro w' hSw; go_simp; try with_reducible rfl)
      try simp only [Act.put, List.setIfInBounds_toArray, List.set_cons_zero, List.set_cons_succ]
      refine reg_take 3 (v := ?vb3) (atS (atS (atS at0))) (by kernel_rfl) (by kernel_rfl) (by kernel_rfl) (by rfl) ?hyb3 hHeld ?restb3
      case hyb3 => (intro w' hSw; go_simp; try with_reducible rfl)
      try simp only [Act.put, List.setIfInBounds_toArray, List.set_cons_zero, List.set_cons_succ]
      refine reg_take 4 (v := ?vb4) (atS (atS (atS (atS at0)))) (by kernel_rfl) (by kernel_rfl) (by kernel_rfl) (by rfl) ?hyb4 hHeld ?restb4
      case hyb4 => (intro w' hSw; go_simp; try with_reducible rfl)
      try simp only [Act.put, List.setIfInBounds_toArray, List.set_cons_zero, List.set_cons_succ]
      refine wpAnyH_ready (rs := [5]) (by kernel_rfl) (by simp) ?_
      refine AllReadyH.cons (atS5 at0) (fun K hK => ?_) AllReadyH.nil
      go_simp
      refine (rright_any v.k v.n v.t (bs f.nm) f.k f.g _ HU.out).mono ?_
      rintro e w4 ⟨rfl, hb4⟩
      have HB4 := hid (Bt (Bt HB3.out hx0a) hb4)
      go_wp2_with fail
      refine hK.out _ _ hb4 (fun hHeld => ?_)
      clear hK K
      try simp only [Act.put, List.setIfInBounds_toArray, List.set_cons_zero, List.set_cons_succ]
      refine reg_on hb4 (fun hHeld => ?_)
      refine reg_take 6 (v := ?vb6) (atS5 (atS at0)) (by kernel_rfl) (by kernel_rfl) (by kernel_rfl) (by rfl) ?hyb6 hHeld ?restb6
      case hyb6 => (intro w' hSw; go_simp; try with_reducible rfl)
      try simp only [Act.put, List.setIfInBounds_toArray, List.set_cons_zero, List.set_cons_succ]
      refine wpAnyH_done (by kernel_rfl) ?_ _
      refine NoPanic.normal ?_
      clear f0 f1 f2 u1 u2 u3 s0
      cases hrf : rightF v.k v.n v.t.size f.k f.g with
      | false =>
        clear hrf
        go_wp2_with fail
        refine (alive8_any _).mono ?_
        rintro e w5 ⟨rfl, hb5⟩
        go_wp2_with fail
        go_ret
        exact ⟨rfl, Bt HB4.out hb5⟩
      | true =>
        have HRF := hid hrf
        clear hrf
        go_wp2_with fail
        exact ⟨⟨j + 1, by omega, by go_num, hid (fun (x : Nat) (g : Fd) (u : Va) hx hg hu => by
          by_cases e : x = j
          · subst e
            have e1 := HFX.out; have e2 := HVX.out
            rw [hg] at e1; rw [hu] at e2
            cases e1; cases e2
            exact HRF.out
          · exact HG.out x g u (by omega) hg hu), HB4⟩, by simp [intOf]; omega⟩
    · have hje : j = n := by omega
      have hji : ¬ ((j : Int) < n) := by omega
      have HOK : Hid (okV l vs) := hid ⟨by have := HL.out; have := HLV.out; have := HVN.out; omega, fun i f v hf hv => ⟨HG.out i f v (by have := (List.getElem?_eq_some_iff.1 hf).1; have := HL.out; omega) hf hv, (HV.out.2.2.2.1 v (List.mem_of_getElem? hv)).2⟩⟩
      have HCK : Hid (∀ c ∈ cs, chOk c) := hid (fun c hc => few_chOkK HF.out hc (HC.out.2.2.2.1 c hc))
      go_wp2_with fail
      refine (own_any (HC.out.on HB.out) (by have := HF.out.2.1; omega)).mono ?_
      rintro e w6 ⟨A6, n6, c6, rfl, h6, hb6⟩
      have HB6 := hid (Bt HB.out hb6)
      have H6 := hid h6
      clear h6 hb6
      go_wp2_with fail
      refine (p8all_any (H.out.on HB6.out) HR.out H6.out (fun c hc => (HCK.out c hc).2.2.2.2.2)).mono ?_
      rintro e w7 ⟨v7, rfl, ⟨B1', m1, d1, B2', m2, d2, B3', m3, d3, rfl, h1, h2, h3⟩, hb7⟩
      have HAR := hid (fun h => all8_rightT (cs := cs) h HR.out HCK.out)
      have HAV := hid (fun h (x : Nat) f v hf hv hn => all8_value (cs := cs) (vs := vs) h HR.out HCK.out HOK.out (x := x) (f := f) (v := v) hf hv hn)
      obtain ⟨r2, hr2⟩ : ∃ r2, r2 = (all8 l cs).2 := ⟨_, rfl⟩
      obtain ⟨T, hr1⟩ : ∃ T, T = (all8 l cs).1 := ⟨_, rfl⟩
      rw [← hr1] at h1 h2 h3
      rw [← hr2]
      rw [← hr1, ← hr2] at HAR HAV
      obtain ⟨q, hq⟩ : ∃ q, q = w7.heap.size := ⟨_, rfl⟩
      obtain ⟨w8, hw8⟩ : ∃ w8, w8 = w7.alloc (.cells #[.slice B1' m1 d1, .slice B2' m2 d2, .slice B3' m3 d3] 36) := ⟨_, rfl⟩
      have HQ := hid hq; have HW8 := hid hw8
      have HT : Hid (TBx w8 q (.slice B1' m1 d1) (.slice B2' m2 d2) (.slice B3' m3 d3) 36) := by rw [hw8, hq]; exact hid (tb_new _ _ _ _ _)
      have HRT8 : Hid (RdT w8 w8.heap.size (.agg #[.slice B1' m1 d1, .slice B2' m2 d2, .slice B3' m3 d3]) T) := by
        rw [hw8]; exact hid (RdT.on ⟨_, _, _, _, _, _, _, _, _, rfl, h1, h2, h3⟩ (B1 _ _))
      have HN8 : Hid (RdF w8 w8.heap.size B2' m2 d2 T.nw) := by rw [hw8]; exact hid (h2.on (B1 _ _))
      have HB8 : Hid (Below w.heap.size w w8) := by rw [hw8]; exact hid (Ba (Bt HB6.out hb7) _)
      clear h1 h2 h3 hb7 hq hw8 hr1 hr2
      go_upto_region 10 with fail
      rw [← HW8.out, ← HQ.out]
      by_cases hz : r2 = 0
      · have HRT := hid (HAR.out hz)
        have HVT := hid (HAV.out hz)
        subst hz
        go_upto_region 12 with fail
        refine reg_begin (by kernel_rfl) (fun w0b hx0b hHeld => ?_)
        have s0 : ∀ w', Ext w0b w' → Below w8.heap.size w8 w' := fun w' h => hx0b.trans h
        have t0 := fun w' h => (HT.out.on (s0 w' h)).cells.1
        have t1 := fun w' h => (HT.out.on (s0 w' h)).cells.2.1
        have t2 := fun w' h => (HT.out.on (s0 w' h)).cells.2.2
        have HS0 := hid s0
        clear s0
        refine reg_take 0 (v := ?vc0) at0 (by kernel_rfl) (by kernel_rfl) (by kernel_rfl) (by rfl) ?hyc0 hHeld ?restc0
        case hyc0 => (intro w' hSw; go_simp; try with_reducible rfl)
        try simp only [Act.put, List.setIfInBounds_toArray, List.set_cons_zero, List.set_cons_succ]
        refine reg_take 1 (v := ?vc1) (atS at0) (by kernel_rfl) (by kernel_rfl) (by kernel_rfl) (by rfl) ?hyc1 hHeld ?restc1
        case hyc1 => (intro w' hSw; go_simp; try with_reducible rfl)
        try simp only [Act.put, List.setIfInBounds_toArray, List.set_cons_zero, List.set_cons_succ]
        refine reg_take 2 (v := ?vc2) (atS (atS at0)) (by kernel_rfl) (by kernel_rfl) (by kernel_rfl) (by rfl) ?hyc2 hHeld ?restc2
        case hyc2 => (intro w' hSw; go_simp; try with_reducible rfl)
        try simp only [Act.put, List.setIfInBounds_toArray, List.set_cons_zero, List.set_cons_succ]
        refine wpAnyH_ready (rs := [3]) (by kernel_rfl) (by simp) ?_
        refine AllReadyH.cons (atS (atS (atS at0))) (fun K hK => ?_) AllReadyH.nil
        go_simp
        refine (r7object_any (H.out.on (Bt HB8.out hx0b)) (right_short HR.out) (HV.out.on (Bt HB8.out hx0b)) HVN.out (fun k => Nat.le_trans (objS_short HR.out HOK.out k) (by omega))).mono ?_
        rintro e w9 ⟨rfl, hb9⟩
        rw [show objS l vs n = objA l vs by unfold objA; rw [HL.out]]
        obtain ⟨S, hS⟩ : ∃ S, S = objA l vs := ⟨_, rfl⟩
        rw [← hS]
        have HSE := hid hS
        have hSl : S.length ≤ 1000000 := by rw [hS]; exact Nat.le_trans (objS_short HR.out HOK.out _) (by omega)
        clear hS
        go_wp2_with fail
        refine hK.out _ _ hb9 (fun hHeld => ?_)
        clear hK K
        try simp only [Act.put, List.setIfInBounds_toArray, List.set_cons_zero, List.set_cons_succ]
        refine reg_on hb9 (fun hHeld => ?_)
        refine wpAnyH_ready (rs := [4]) (by kernel_rfl) (by simp) ?_
        refine AllReadyH.cons (atS (atS (atS (atS at0)))) (fun K hK => ?_) AllReadyH.nil
        go_simp
        obtain ⟨c10, w10, hrun, hrd, hb10⟩ := run_bytesK w9 S hSl
        have HRD := hid hrd
        clear hrd
        rw [hrun]
        go_wp2_with fail
        refine hK.out _ _ hb10 (fun hHeld => ?_)
        clear hK K
        try simp only [Act.put, List.setIfInBounds_toArray, List.set_cons_zero, List.set_cons_succ]
        refine reg_on hb10 (fun hHeld => ?_)
        refine wpAnyH_ready (rs := [5]) (by kernel_rfl) (by simp) ?_
        refine AllReadyH.cons (atS5 at0) (fun K hK => ?_) AllReadyH.nil
        go_simp
        refine (p7apply_any (HRT8.out.on (HS0.out _ (Bt hb9 hb10))) HRT.out.1 (by rw [HRT.out.2.1]; exact HOK.out) HRD.out (by rw [HRT.out.2.1]; exact HSE.out)).mono ?_
        rintro e w11 ⟨u11, rfl, ho11, hb11⟩
        obtain ⟨A11, c11, rfl, hrd11⟩ := ho11.rd
        obtain ⟨n11, hn11⟩ : ∃ n11, n11 = (objA T.nw (valsT T vs)).length := ⟨_, rfl⟩
        rw [← hn11] at hrd11 ⊢
        have HN11 := hid hn11
        clear hn11
        go_wp2_with fail
        refine hK.out _ _ hb11 (fun hHeld => ?_)
        clear hK K
        try simp only [Act.put, List.setIfInBounds_toArray, List.set_cons_zero, List.set_cons_succ]
        refine reg_on hb11 (fun hHeld => ?_)
        refine reg_take 6 (v := ?vc6) (atS5 (atS at0)) (by kernel_rfl) (by kernel_rfl) (by kernel_rfl) (by rfl) ?hyc6 hHeld ?restc6
        case hyc6 => (intro w' hSw; go_simp; try with_reducible rfl)
        try simp only [Act.put, List.setIfInBounds_toArray, List.set_cons_zero, List.set_cons_succ]
        refine reg_take 7 (v := ?vc7) (atS5 (atS (atS at0))) (by kernel_rfl) (by kernel_rfl) (by kernel_rfl) (by rfl) ?hyc7 hHeld ?restc7
        case hyc7 => (intro w' hSw; go_simp; try with_reducible rfl)
        try simp only [Act.put, List.setIfInBounds_toArray, List.set_cons_zero, List.set_cons_succ]
        refine reg_take 8 (v := ?vc8) (atS5 (atS (atS (atS at0)))) (by kernel_rfl) (by kernel_rfl) (by kernel_rfl) (by rfl) ?hyc8 hHeld ?restc8
        case hyc8 => (intro w' hSw; go_simp; try with_reducible rfl)
        try simp only [Act.put, List.setIfInBounds_toArray, List.set_cons_zero, List.set_cons_succ]
        refine reg_take 9 (v := ?vc9) (atS5 (atS (atS (atS (atS at0))))) (by kernel_rfl) (by kernel_rfl) (by kernel_rfl) (by rfl) ?hyc9 hHeld ?restc9
        case hyc9 => (intro w' hSw; go_simp; try with_reducible rfl)
        try simp only [Act.put, List.setIfInBounds_toArray, List.set_cons_zero, List.set_cons_succ]
        refine reg_take 10 (v := ?vc10) (atS5 (atS5 at0)) (by kernel_rfl) (by kernel_rfl) (by kernel_rfl) (by rfl) ?hyc10 hHeld ?restc10
        case hyc10 => (intro w' hSw; go_simp; try with_reducible rfl)
        try simp only [Act.put, List.setIfInBounds_toArray, List.set_cons_zero, List.set_cons_succ]
        refine wpAnyH_done (by kernel_rfl) ?_ _
        refine NoPanic.normal ?_
        have HB11 : Hid (Below w8.heap.size w8 w11) := hid (HS0.out _ (Bt (Bt hb9 hb10) hb11))
        have H11 := hid hrd11
        have HOV : Hid (okV T.nw (valsT T vs)) := hid (valsT_ok HRT.out.1 (by rw [HRT.out.2.1]; exact HOK.out) HRT.out.2.2)
        have HRN : Hid (rightL T.nw = true) := hid (rightT_iff.1 HRT.out.1).2.1
        have HL11 : Hid (n11 ≤ 100000) := hid (by rw [HN11.out]; exact Nat.le_trans (objS_short HRN.out HOV.out _) (by omega))
        clear t0 t1 t2 hb9 hb10 hb11 ho11 hrd11 hrun hSl
        go_wp2_with fail
        go_loopw [73] (fun i wr => ∃ j : Nat, j ≤ n ∧ i = .int .i64 j ∧ Hid (Below w11.heap.size w11 wr)) (fun i _ => n - (intOf i).toNat)
        case atStart => exact ⟨0, by omega, rfl, hid (B0 _)⟩
        case round =>
          obtain ⟨x, hx, rfl, HBX⟩ := hrel
          have HB12 := hid (Bt HB11.out HBX.out)
          have HBW := hid (Bt HB8.out HB12.out)
          by_cases hlt : x < n
          · obtain ⟨f, hf⟩ : ∃ f, l[x]? = some f := ⟨_, List.getElem?_eq_getElem (by have := HL.out; omega)⟩
            obtain ⟨v, hv⟩ : ∃ v, vs[x]? = some v := ⟨_, List.getElem?_eq_getElem (by have := HLV.out; have := HVN.out; omega)⟩
            obtain ⟨_, _, _, _, b, off, rfl, hc⟩ := H.out.at hf
            obtain ⟨_, ⟨_, hu⟩, b2, off2, rfl, hc2⟩ := HV.out.at hv
            obtain ⟨c0, cc1, cc2⟩ := hc wr HBW.out
            have HC2 := hid hc2
            have HFX := hid hf; have HVX := hid hv
            have hji : (x : Int) < n := by omega
            have hji2 : (x : Int) < nv := by have := HVN.out; omega
            have hj0 : (0 : Int) ≤ x := by omega
            obtain ⟨p, hp⟩ : ∃ p, p = wr.heap.size := ⟨_, rfl⟩
            obtain ⟨w3, hw3⟩ : ∃ w3, w3 = wr.alloc (.cells #[.string (bs f.nm), .int .i64 f.k, .int .i64 f.g] 29) := ⟨_, rfl⟩
            have HP := hid hp; have HW3 := hid hw3
            have HFB : Hid (FB w3 p (bs f.nm) f.k f.g) := by rw [hw3, hp]; exact hid (fb_new wr _ _ _)
            have HB3 : Hid (Below w11.heap.size w11 w3) := by rw [hw3]; exact hid (Ba HBX.out _)
            have HB83 := hid (Bt HB11.out HB3.out)
            clear hc hc2 hf hv hp hw3 hu
            go_upto_region 18 with fail
            rw [← HW3.out, ← HP.out]
            clear c0 cc1 cc2
            obtain ⟨f0, f1, f2⟩ := HFB.out.cells
            go_wp2_with fail
            refine (named_any (HC.out.on (Bt HB8.out HB83.out)) f.nm).mono ?_
            rintro e w4 ⟨rfl, hb4⟩
            have HB4 := hid (Bt HB3.out hb4)
            have HF4 := hid (HFB.out.on hb4)
            clear hb4 f0 f1 f2
            cases hn : namedB cs f.nm with
            | true =>
              clear hn
              go_wp2_with fail
              exact ⟨⟨x + 1, by omega, by go_num, HB4⟩, by simp [intOf]; omega⟩
            | false =>
              obtain ⟨i, hi1, hi2⟩ := HVT.out x f v HFX.out HVX.out hn
              have HGT : Hid (getR (objA T.nw (valsT T vs)) T.nw f.nm = _) := hid (objA_get HRN.out HOV.out hi1 hi2)
              have HB84 := hid (Bt HB11.out HB4.out)
              obtain ⟨f0, f1, f2⟩ := HF4.out.cells
              obtain ⟨t0, t1, t2⟩ := (HT.out.on HB84.out).cells
              clear hn hi1 hi2
              go_wp2_with fail
              refine (p6get_any (HN8.out.on HB84.out) (right_short HRN.out) (H11.out.on HB4.out) HL11.out f.nm).mono ?_
              rintro e w5 ⟨rfl, hb5⟩
              rw [HGT.out]
              obtain ⟨pv, hpv⟩ : ∃ pv, pv = w5.heap.size := ⟨_, rfl⟩
              obtain ⟨w6', hw6'⟩ : ∃ w6', w6' = w5.alloc (.cells #[.int .i64 v.k, .int .u64 v.n, .string v.t] 33) := ⟨_, rfl⟩
              have HPV := hid hpv; have HW6 := hid hw6'
              have HVB6 : Hid (VB w6' pv v.k v.n v.t) := by rw [hw6', hpv]; exact hid (vb_new _ _ _ _)
              have HB6' : Hid (Below w11.heap.size w11 w6') := by rw [hw6']; exact hid (Ba (Bt HB4.out hb5) _)
              have HBW6 := hid (Bt HB8.out (Bt HB11.out HB6'.out))
              clear hb5 hpv hw6' f0 f1 f2 t0 t1 t2
              go_upto_region 20 with fail
              rw [← HW6.out, ← HPV.out]
              refine reg_begin (by kernel_rfl) (fun w0c hx0c hHeld => ?_)
              have s0 : ∀ w', Ext w0c w' → Below w6'.heap.size w6' w' := fun w' h => hx0c.trans h
              have v0 := fun w' h => (HVB6.out.on (s0 w' h)).cells.1
              have v1 := fun w' h => (HVB6.out.on (s0 w' h)).cells.2.1
              have v2 := fun w' h => (HVB6.out.on (s0 w' h)).cells.2.2
              have u1 := fun w' h => (HC2.out w' (Bt HBW6.out (s0 w' h))).1
              have u2 := fun w' h => (HC2.out w' (Bt HBW6.out (s0 w' h))).2.1
              have u3 := fun w' h => (HC2.out w' (Bt HBW6.out (s0 w' h))).2.2
              refine reg_take 0 (v := ?vd0) at0 (by kernel_rfl) (by kernel_rfl) (by kernel_rfl) (by rfl) ?hyd0 hHeld ?restd0
              case hyd0 => (intro w' hSw; go_simp; try with_reducible rfl)
              try simp only [Act.put, List.setIfInBounds_toArray, List.set_cons_zero, List.set_cons_succ]
              refine reg_take 1 (v := ?vd1) (atS at0) (by kernel_rfl) (by kernel_rfl) (by kernel_rfl) (by rfl) ?hyd1 hHeld ?restd1
              case hyd1 => (intro w' hSw; go_simp; try with_reducible rfl)
              try simp only [Act.put, List.setIfInBounds_toArray, List.set_cons_zero, List.set_cons_succ]
              refine reg_take 2 (v := ?vd2) (atS (atS at0)) (by kernel_rfl) (by kernel_rfl) (by kernel_rfl) (by rfl) ?hyd2 hHeld ?restd2
              case hyd2 => (intro w' hSw; go_simp; try with_reducible rfl)
              try simp only [Act.put, List.setIfInBounds_toArray, List.set_cons_zero, List.set_cons_succ]
              refine reg_take 3 (v := ?vd3) (atS (atS (atS at0))) (by kernel_rfl) (by kernel_rfl) (by kernel_rfl) (by rfl) ?hyd3 hHeld ?restd3
              case hyd3 => (intro w' hSw; go_simp; try with_reducible rfl)
              try simp only [Act.put, List.setIfInBounds_toArray, List.set_cons_zero, List.set_cons_succ]
              refine reg_take 4 (v := ?vd4) (atS (atS (atS (atS at0)))) (by kernel_rfl) (by kernel_rfl) (by kernel_rfl) (by rfl) ?hyd4 hHeld ?restd4
              case hyd4 => (intro w' hSw; go_simp; try with_reducible rfl)
              try simp only [Act.put, List.setIfInBounds_toArray, List.set_cons_zero, List.set_cons_succ]
              refine reg_take 5 (v := ?vd5) (atS5 at0) (by kernel_rfl) (by kernel_rfl) (by kernel_rfl) (by rfl) ?hyd5 hHeld ?restd5
              case hyd5 => (intro w' hSw; go_simp; try with_reducible rfl)
              try simp only [Act.put, List.setIfInBounds_toArray, List.set_cons_zero, List.set_cons_succ]
              refine reg_take 6 (v := ?vd6) (atS5 (atS at0)) (by kernel_rfl) (by kernel_rfl) (by kernel_rfl) (by rfl) ?hyd6 hHeld ?restd6
              case hyd6 => (intro w' hSw; go_simp; try with_reducible rfl)
              try simp only [Act.put, List.setIfInBounds_toArray, List.set_cons_zero, List.set_cons_succ]
              refine reg_take 7 (v := ?vd7) (atS5 (atS (atS at0))) (by kernel_rfl) (by kernel_rfl) (by kernel_rfl) (by rfl) ?hyd7 hHeld ?restd7
              case hyd7 => (intro w' hSw; go_simp; try with_reducible rfl)
              try simp only [Act.put, List.setIfInBounds_toArray, List.set_cons_zero, List.set_cons_succ]
              refine reg_take 8 (v := ?vd8) (atS5 (atS (atS (atS at0)))) (by kernel_rfl) (by kernel_rfl) (by kernel_rfl) (by rfl) ?hyd8 hHeld ?restd8
              case hyd8 => (intro w' hSw; go_simp; try with_reducible rfl)
              try simp only [Act.put, List.setIfInBounds_toArray, List.set_cons_zero, List.set_cons_succ]
              refine reg_take 9 (v := ?vd9) (atS5 (atS (atS (atS (atS at0))))) (by kernel_rfl) (by kernel_rfl) (by kernel_rfl) (by rfl) ?hyd9 hHeld ?restd9
              case hyd9 => (intro w' hSw; go_simp; try with_reducible rfl)
              try simp only [Act.put, List.setIfInBounds_toArray, List.set_cons_zero, List.set_cons_succ]
              refine wpAnyH_done (by kernel_rfl) ?_ _
              refine NoPanic.normal ?_
              have HB7 : Hid (Below w11.heap.size w11 w0c) := hid (Bt HB6'.out hx0c)
              clear s0 v0 v1 v2 u1 u2 u3
              go_wp2_with fail
              exact ⟨⟨x + 1, by omega, by go_num, HB7⟩, by simp [intOf]; omega⟩
          · have hji : ¬ ((x : Int) < n) := by omega
            go_wp2_with fail
            refine (alive8_any _).mono ?_
            rintro e w9 ⟨rfl, hb9⟩
            go_wp2_with fail
            go_ret
            exact ⟨rfl, Bt HBW.out hb9⟩
      · have t1 : (r2 != 0) = true := by simpa using hz
        clear hz
        go_wp2_with fail
        refine (alive8_any _).mono ?_
        rintro e w9 ⟨rfl, hb9⟩
        go_wp2_with fail
        go_ret
        exact ⟨rfl, Bt HB8.out hb9⟩
end Go.Proofs.YtjodbopnibdolaaGreat
