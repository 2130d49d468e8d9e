/-
  The program's Make of layer 8.
-/
import Derived.Test.YtaegencmnmjgbaaGreatM42
import Derived.Test.YtaegencmnmjgbaaGreatM43
import Derived.Test.YtaegencmnmjgbaaGreatM36

namespace Go.Proofs.YtaegencmnmjgbaaGreat
open Go.RowKit
set_option linter.unusedVariables false
set_option linter.unusedSimpArgs false
def MpQ (w : World) (l : List Fd) (c : Ch) (e : Ending) (w' : World) : Prop := ∃ v, e = .returned (.tuple #[v, .int .i64 (mkE l c)]) ∧ RdT w' w'.heap.size v (mkT l c) ∧ Below w.heap.size w w'
theorem same_dok {l : List Fd} (hr : rightL l = true) (hf : okF l) : Dok (sameT l) := by
  rw [sameT_right hr]
  have h16 := right_len hr
  exact ⟨by show l.length ≤ _; omega, selfL_length _, hf, self_I64 (by omega)⟩
theorem newC_ok {l : List Fd} {c : Ch} (hf : okF l) (hc : chOk c) (hnm : ∀ f ∈ l, f.nm.length ≤ 140737488351232) : ∀ f ∈ newC l c, I64 f.k ∧ I64 f.g ∧ f.nm.length ≤ 140737488351232 := by
  have hed : ∀ f ∈ l, ∀ i, I64 (ed c (findN l c.nm) i f).k ∧ I64 (ed c (findN l c.nm) i f).g ∧ (ed c (findN l c.nm) i f).nm.length ≤ 140737488351232 := fun f h i => by
    obtain ⟨h1, h2, _⟩ := hf f h
    have h3 := hnm f h
    unfold ed
    split
    · exact ⟨h1, h2, hc.2.2.2.2.2⟩
    · split
      · exact ⟨hc.2.1, hc.2.2.1, h3⟩
      · exact ⟨h1, h2, h3⟩
  intro f h
  unfold newC at h
  split at h
  · rw [List.mem_append] at h
    rcases h with h | h
    · exact newF_I64 (fun f => I64 f.k ∧ I64 f.g ∧ f.nm.length ≤ 140737488351232) hed f h
    · simp at h; subst h; exact ⟨hc.2.1, hc.2.2.1, hc.2.2.2.2.2⟩
  · split at h
    · unfold odF at h
      rw [List.mem_filterMap] at h
      obtain ⟨x, _, hx⟩ := h
      unfold fdAt at hx
      split at hx
      · have hm := List.mem_of_getElem? hx
        exact ⟨(hf f hm).1, (hf f hm).2.1, hnm f hm⟩
      · cases hx
    · exact newF_I64 (fun f => I64 f.k ∧ I64 f.g ∧ f.nm.length ≤ 140737488351232) hed f h
theorem mvC_ok {l : List Fd} {c : Ch} (hc : chOk c) (h16 : l.length ≤ 16) (hod : c.op = 5 → ∀ x ∈ c.od, 0 ≤ x ∧ x < l.length) : ∀ m ∈ mvC l c, I64 m.fr ∧ I64 m.k ∧ U64 m.n := by
  have hz : ∀ x : Int, 0 ≤ x → x ≤ 16 → I64 x ∧ I64 0 ∧ U64 0 := fun x h0 h1 => ⟨i64_iff.2 ⟨by omega, by omega⟩, i64_iff.2 ⟨by omega, by omega⟩, ⟨Int.le_refl _, by rw [pw8]; decide⟩⟩
  have hF : ∀ m ∈ mvF c (findN l c.nm) l.length, I64 m.fr ∧ I64 m.k ∧ U64 m.n := fun m hm => by
    unfold mvF at hm
    rw [List.mem_map] at hm
    obtain ⟨i, hi, rfl⟩ := hm
    have := idxs_lt i hi
    exact hz i (by omega) (by omega)
  intro m hm
  unfold mvC at hm
  split at hm
  · rw [List.mem_append] at hm
    rcases hm with hm | hm
    · exact hF m hm
    · simp at hm; subst hm; exact ⟨i64_iff.2 ⟨by show (-9223372036854775808 : Int) ≤ -1; omega, by show (-1 : Int) ≤ 9223372036854775807; omega⟩, hc.2.2.2.1, hc.2.2.2.2.1⟩
  · split at hm
    · rename_i h5
      unfold odM at hm
      rw [List.mem_map] at hm
      obtain ⟨x, hx, rfl⟩ := hm
      have := hod h5 x hx
      exact hz x this.1 (by omega)
    · exact hF m hm
theorem made_od {l : List Fd} {c : Ch} (h5 : c.op = 5) (h : (deedR (sameT l) c).2 = 0) (hr : rightL l = true) : ∀ x ∈ c.od, 0 ≤ x ∧ x < l.length := by
  have hop : deedR (sameT l) c = ordR (sameT l) c.od := by unfold deedR; rw [if_neg (by omega), if_neg (by omega), if_neg (by omega), if_neg (by omega)]
  rw [hop, sameT_right hr] at h
  unfold ordR at h
  cases hab : allB c.od l.length with
  | true => exact allB_mem hab
  | false => simp [hab] at h
set_option maxRecDepth 20000 in
set_option maxHeartbeats 16000000 in
theorem p8make_any {w : World} {A : Option Addr} {n cp : Nat} {l : List Fd} (h : RdF w w.heap.size A n cp l) (hs : short l) {c : Ch} (hc : chOk c) {A2 : Option Addr} {n2 c2 : Nat} (ho : RdI w w.heap.size A2 n2 c2 c.od) :
    Calls Tryz.prog 104 #[.slice A n cp, chV c A2 n2 c2] w (MpQ w l c) := by
  obtain ⟨w0, hw0⟩ : ∃ w0, w0 = (w.alloc (.cells #[.int .i64 c.op, .string (bs c.nm), .string (bs c.to.nm), .int .i64 c.to.k, .int .i64 c.to.g, .int .i64 c.dk, .int .u64 c.dn, .string c.dt, .slice A2 n2 c2] 76)).alloc (.cells #[.slice none 0 0, .slice none 0 0, .slice none 0 0] 92) := ⟨_, rfl⟩
  obtain ⟨rc, hrc⟩ : ∃ rc, rc = w.heap.size := ⟨_, rfl⟩
  obtain ⟨rz, hrz⟩ : ∃ rz, rz = w.heap.size + 1 := ⟨_, rfl⟩
  have HW0 := hid hw0; have HRC := hid hrc; have HRZ := hid hrz
  have HB0 : Hid (Below w.heap.size w w0) := by rw [hw0]; exact hid (Ba (B1 _ _) _)
  have HC0 : Hid (CB w0 rc c A2 n2 c2 76) := by rw [hw0, hrc]; exact hid ((CB.new w c A2 n2 c2 _).on (B1 _ _))
  have HZ0 : Hid (TBx w0 rz (.slice none 0 0) (.slice none 0 0) (.slice none 0 0) 92) := by
    rw [hw0, hrz, ← World.size_alloc w (.cells #[.int .i64 c.op, .string (bs c.nm), .string (bs c.to.nm), .int .i64 c.to.k, .int .i64 c.to.g, .int .i64 c.dk, .int .u64 c.dn, .string c.dt, .slice A2 n2 c2] 76)]; exact hid (tb_new _ _ _ _ _)
  have HRZL : Hid (w.heap.size ≤ rz) := hid (by omega)
  have H := hid (h.on HB0.out); have HO := hid (ho.on HB0.out); have HS := hid hs; have HC := hid hc
  have HOP64 : Hid (I64 c.op) := hid hc.1
  have HOK : Hid (okF l) := hid h.2.2.2.1
  clear h hs hc ho hw0 hrc hrz
  obtain ⟨z0, z1, z2⟩ := HZ0.out.cells
  have y0 := HZ0.out.frozen 0; have y1 := HZ0.out.frozen 1; have y2 := HZ0.out.frozen 2
  unfold chV
  go_enter Tryz.func104, Tryz.ntmps104
  go_upto_region 1 with fail
  rw [← HW0.out, ← HRZ.out, ← HRC.out]
  go_wp2_with fail
  refine (p6right_any H.out HS.out).mono ?_
  rintro e w1 ⟨rfl, hb1⟩
  have HB1 := hid hb1
  clear hb1 z0 z1 z2 y0 y1 y2
  cases hr : rightL l with
  | false =>
    obtain ⟨z0, z1, z2⟩ := (HZ0.out.on HB1.out).cells
    have y0 := (HZ0.out.on HB1.out).frozen 0; have y1 := (HZ0.out.on HB1.out).frozen 1; have y2 := (HZ0.out.on HB1.out).frozen 2
    have HE : Hid (mkE l c = 60) := hid (by unfold mkE; rw [hr]; simp)
    clear hr
    go_wp2_with fail
    exact ret_TBpe (by rfl) (by rfl) ((HZ0.out.on HB1.out).set3 _ _ _) (by rfl) (by rfl) ⟨_, by rw [HE.out]; rfl, by rw [mkT_no (by rw [HE.out]; decide)]; exact RdT.nil _ _, B3 (Bt HB0.out HB1.out) HRZL.out _ _ _⟩
  | true =>
    have HR := hid hr
    clear hr
    go_upto_region 3 with fail
    refine reg_begin (by kernel_rfl) (fun w0a hx0a hHeld => ?_)
    have s0 : ∀ w', Ext w0a w' → CB w' rc c A2 n2 c2 76 := fun w' h => HC0.out.on (HB1.out.trans ((hx0a.trans h).mono HB1.out.size))
    have s0' := fun w' h => (s0 w' h).cells.1
    have s1' := fun w' h => (s0 w' h).cells.2.1
    have s2' := fun w' h => (s0 w' h).cells.2.2.1
    have s3' := fun w' h => (s0 w' h).cells.2.2.2.1
    have s4' := fun w' h => (s0 w' h).cells.2.2.2.2.1
    have s5' := fun w' h => (s0 w' h).cells.2.2.2.2.2.1
    have s6' := fun w' h => (s0 w' h).cells.2.2.2.2.2.2.1
    have s7' := fun w' h => (s0 w' h).cells.2.2.2.2.2.2.2.1
    have s8' := fun w' h => (s0 w' h).cells.2.2.2.2.2.2.2.2
    clear s0
    refine reg_take 0 (v := ?vb0) at0 (by kernel_rfl) (by kernel_rfl) (by kernel_rfl) (by rfl) ?hyb0 hHeld ?restb0
    case hyb0 => (intro w' hSw; go_simp; try with_reducible rfl)
    try simp only [Act.put, List.setIfInBounds_toArray, List.set_cons_zero, List.set_cons_succ]
    refine reg_take 2 (v := ?vb2) (atS (atS at0)) (by kernel_rfl) (by kernel_rfl) (by kernel_rfl) (by rfl) ?hyb2 hHeld ?restb2
    case hyb2 => (intro w' hSw; go_simp; try with_reducible rfl)
    try simp only [Act.put, List.setIfInBounds_toArray, List.set_cons_zero, List.set_cons_succ]
    refine reg_take 3 (v := ?vb3) (atS (atS (atS at0))) (by kernel_rfl) (by kernel_rfl) (by kernel_rfl) (by rfl) ?hyb3 hHeld ?restb3
    case hyb3 => (intro w' hSw; go_simp; try with_reducible rfl)
    try simp only [Act.put, List.setIfInBounds_toArray, List.set_cons_zero, List.set_cons_succ]
    refine wpAnyH_ready (rs := [1]) (by kernel_rfl) (by simp) ?_
    refine AllReadyH.cons (atS at0) (fun K hK => ?_) AllReadyH.nil
    go_simp
    refine (deeds_any (c := c)).mono ?_
    rintro e w3 ⟨b, p1, p2, m, rfl, hcb, ht1, ht2, hmp, hb3⟩
    have HCB := hid hcb; have HT1 := hid ht1; have HT2 := hid ht2; have HB3 := hid hb3
    have hlk : ∀ w', Ext w3 w' → (Instr.lookup 212 (.map (some m)) (.int .i64 c.op) true).run Tryz.prog w' = .ok (.tuple #[(deedF b p1 p2 c.op).getD .nilFunc, .bool (deedF b p1 p2 c.op).isSome]) w' := fun w' h => (hmp.below h hmp.lt).look_ok Tryz.underlying212 (by rfl) HOP64.out
    clear hcb ht1 ht2 hmp hb3
    go_wp2_with fail
    refine hK.out _ _ HB3.out (fun hHeld => ?_)
    clear hK K
    try simp only [Act.put, List.setIfInBounds_toArray, List.set_cons_zero, List.set_cons_succ]
    refine reg_on HB3.out (fun hHeld => ?_)
    refine reg_take 4 (v := ?vb4) (atS (atS (atS (atS at0)))) (by kernel_rfl) (by kernel_rfl) (by kernel_rfl) (by rfl) ?hyb4 hHeld ?restb4
    case hyb4 => (intro w' hSw; go_simp; try with_reducible rfl)
    try simp only [Act.put, List.setIfInBounds_toArray, List.set_cons_zero, List.set_cons_succ]
    refine reg_take 5 (v := ?vb5) (atS5 at0) (by kernel_rfl) (by kernel_rfl) (by kernel_rfl) (by rfl) ?hyb5 hHeld ?restb5
    case hyb5 => (intro w' hSw; go_simp; try with_reducible rfl)
    try simp only [Act.put, List.setIfInBounds_toArray, List.set_cons_zero, List.set_cons_succ]
    refine reg_take 6 (v := ?vb6) (atS5 (atS at0)) (by kernel_rfl) (by kernel_rfl) (by kernel_rfl) (by rfl) ?hyb6 hHeld ?restb6
    case hyb6 => (intro w' hSw; go_simp; try with_reducible rfl)
    try simp only [Act.put, List.setIfInBounds_toArray, List.set_cons_zero, List.set_cons_succ]
    refine reg_take 7 (v := ?vb7) (atS5 (atS (atS at0))) (by kernel_rfl) (by kernel_rfl) (by kernel_rfl) (by rfl) ?hyb7 hHeld ?restb7
    case hyb7 => (intro w' hSw; go_simp; try with_reducible rfl)
    try simp only [Act.put, List.setIfInBounds_toArray, List.set_cons_zero, List.set_cons_succ]
    refine reg_take 8 (v := ?vb8) (atS5 (atS (atS (atS at0)))) (by kernel_rfl) (by kernel_rfl) (by kernel_rfl) (by rfl) ?hyb8 hHeld ?restb8
    case hyb8 => (intro w' hSw; go_simp; try with_reducible rfl)
    try simp only [Act.put, List.setIfInBounds_toArray, List.set_cons_zero, List.set_cons_succ]
    refine reg_take 9 (v := ?vb9) (atS5 (atS (atS (atS (atS at0))))) (by kernel_rfl) (by kernel_rfl) (by kernel_rfl) (by rfl) ?hyb9 hHeld ?restb9
    case hyb9 => (intro w' hSw; go_simp; try with_reducible rfl)
    try simp only [Act.put, List.setIfInBounds_toArray, List.set_cons_zero, List.set_cons_succ]
    refine wpAnyH_done (by kernel_rfl) ?_ _
    refine NoPanic.normal ?_
    clear s0' s1' s2' s3' s4' s5' s6' s7' s8' hlk
    have HB4 : Hid (Below w0.heap.size w0 w3) := hid (HB1.out.trans (Below.mono (show Below w1.heap.size w1 w3 from Ext.trans hx0a HB3.out) HB1.out.size))
    by_cases hop : 1 ≤ c.op ∧ c.op ≤ 5
    · have HMD := hid (made_any HR.out hop.1 hop.2)
      have HMO : Hid (c.op = 5 → (deedR (sameT l) c).2 = 0 → ∀ x ∈ c.od, 0 ≤ x ∧ x < l.length) := hid (fun a b => made_od a b HR.out)
      have ho : c.op = 1 ∨ c.op = 2 ∨ c.op = 3 ∨ c.op = 4 ∨ c.op = 5 := by omega
      clear hop
      rcases ho with e | e | e | e | e
      · have HOP := hid e
        have hF : deedF b p1 p2 c.op = some (.func (.func 171) #[] #[.pointer (some ⟨b, 0, none⟩)]) := by rw [e]; rfl
        rw [hF, Option.getD_some, Option.isSome_some]
        have HDR : Hid (deedR (sameT l) c = addR (sameT l) c) := hid (by unfold deedR; simp [e])
        rw [HDR.out] at HMD HMO
        clear hF e
        go_wp2_with fail
        refine (p7same_any (H.out.on HB4.out) HS.out).mono ?_
        rintro e w5 ⟨v, rfl, ho5, hb5⟩
        have HB5 := hid (Bt HB4.out hb5)
        have HW35 := hid hb5
        go_wp2_with fail
        refine (d3_any ho5 (same_dok HR.out HOK.out) (HCB.out.on hb5) HCB.out.lt).mono ?_
        rintro e w6 ⟨v6, rfl, ho6, hb6⟩
        obtain ⟨T6, hT6⟩ : ∃ T6, T6 = (addR (sameT l) c).1 := ⟨_, rfl⟩
        obtain ⟨E6, hE6⟩ : ∃ E6, E6 = (addR (sameT l) c).2 := ⟨_, rfl⟩
        have HMD2 : Hid (MadeR l c (T6, E6)) := hid (by rw [hT6, hE6]; exact HMD.out)
        have HMO2 : Hid (c.op = 5 → E6 = 0 → ∀ x ∈ c.od, 0 ≤ x ∧ x < l.length) := hid (by rw [hE6]; exact HMO.out)
        rw [← hT6] at ho6
        rw [← hE6]
        have HO6 := hid ho6
        have HB6 : Hid (Below w0.heap.size w0 w6) := hid (HB5.out.trans (hb6.1.mono (Nat.le_trans HB4.out.size (Nat.le_refl _))))
        clear ho5 hb5 hb6 ho6 hT6 hE6
        obtain ⟨u1, u2, u3, B6, rfl, hts6⟩ := HO6.out.ts
        obtain ⟨⟨A4, n4, c4, rfl⟩, ⟨A5, n5, c5, rfl⟩, ⟨A6, n6, c6, rfl⟩⟩ := hts6.shapes
        clear hts6
        obtain ⟨q, hq⟩ : ∃ q, q = w6.heap.size := ⟨_, rfl⟩
        obtain ⟨w7, hw7⟩ : ∃ w7, w7 = w6.alloc (.cells #[.slice A4 n4 c4, .slice A5 n5 c5, .slice A6 n6 c6] 92) := ⟨_, rfl⟩
        have HTB : Hid (TBx w7 q (.slice A4 n4 c4) (.slice A5 n5 c5) (.slice A6 n6 c6) 92) := by rw [hw7, hq]; exact hid (tb_new _ _ _ _ _)
        have HB7 : Hid (Below w0.heap.size w0 w7) := by rw [hw7]; exact hid (Ba HB6.out _)
        have HO7 : Hid (OwT w7 w3.heap.size (.agg #[.slice A4 n4 c4, .slice A5 n5 c5, .slice A6 n6 c6]) T6) := by
          rw [hw7]
          obtain ⟨_, _, _, _, e1, hts⟩ := HO6.out.ts
          cases e1
          exact hid (hts.on (B1 _ _)).owt
        have HW7 := hid hw7; have HQ := hid hq
        have HZ7 := hid (HZ0.out.on HB7.out)
        clear hw7 hq
        go_upto_region 7 with fail
        rw [← HW7.out, ← HQ.out]
        obtain ⟨z0, z1, z2⟩ := HZ7.out.cells
        have y0 := HZ7.out.frozen 0; have y1 := HZ7.out.frozen 1; have y2 := HZ7.out.frozen 2
        by_cases hE : E6 = 0
        · obtain ⟨eT, hm1, hm2⟩ := HMD2.out.1 hE
          dsimp only at eT
          have HOD : Hid (c.op = 5 → ∀ x ∈ c.od, 0 ≤ x ∧ x < l.length) := hid (fun a => HMO2.out a hE)
          have HM1 : Hid (rightT T6 = true → mkE l c = 0) := hid hm1
          have HM2 : Hid (rightT T6 = false → mkE l c = 80) := hid hm2
          have HET := hid eT
          have HNK : Hid (∀ f ∈ T6.nw, I64 f.k ∧ I64 f.g ∧ f.nm.length ≤ 140737488351232) := hid (by rw [eT]; exact newC_ok HOK.out HC.out HS.out)
          have HRD : Hid (RdT w7 w7.heap.size (.agg #[.slice A4 n4 c4, .slice A5 n5 c5, .slice A6 n6 c6]) T6) := hid (HO7.out.rd (by rw [eT]; exact HOK.out) (fun f hf => ⟨(HNK.out f hf).1, (HNK.out f hf).2.1, Nat.le_trans (HNK.out f hf).2.2 (by unfold nmMax; omega)⟩) (by rw [eT]; exact mvC_ok HC.out (right_len HR.out) HOD.out))
          have HSH : Hid (shortT T6) := hid ⟨by rw [eT]; exact HS.out, fun f hf => (HNK.out f hf).2.2⟩
          subst hE
          clear eT hm1 hm2
          obtain ⟨a0, a1, a2⟩ := HTB.out.cells
          go_wp2_with fail
          refine (p7right_any HRD.out HSH.out).mono ?_
          rintro e w8 ⟨rfl, hb8⟩
          have HB8 := hid (Bt HB7.out hb8)
          have HZ8 := hid (HZ7.out.on hb8)
          have HTB8 := hid (HTB.out.on hb8)
          have HRD8 := hid (HRD.out.on hb8)
          clear hb8 a0 a1 a2 z0 z1 z2 y0 y1 y2
          obtain ⟨a0, a1, a2⟩ := HTB8.out.cells
          obtain ⟨z0, z1, z2⟩ := HZ8.out.cells
          have y0 := HZ8.out.frozen 0; have y1 := HZ8.out.frozen 1; have y2 := HZ8.out.frozen 2
          cases hrt : rightT T6 with
          | false =>
            have HE : Hid (mkE l c = 80) := hid (HM2.out hrt)
            clear hrt
            go_wp2_with fail
            exact ret_TBpe (by rfl) (by rfl) (HZ8.out.set3 _ _ _) (by rfl) (by rfl) ⟨_, by rw [HE.out]; rfl, by rw [mkT_no (by rw [HE.out]; decide)]; exact RdT.nil _ _, B3 (Bt HB0.out HB8.out) HRZL.out _ _ _⟩
          | true =>
            have HE : Hid (mkE l c = 0) := hid (HM1.out hrt)
            clear hrt
            go_wp2_with fail
            exact ret_TBpe (by rfl) (by rfl) (HZ8.out.set3 _ _ _) (by rfl) (by rfl) ⟨_, by rw [HE.out]; rfl, by rw [mkT_ok HE.out, ← HET.out]; exact HRD8.out.box3 HZ8.out ⟨_, _, _, rfl⟩ ⟨_, _, _, rfl⟩ ⟨_, _, _, rfl⟩ ⟨_, _, _, rfl⟩ ⟨_, _, _, rfl⟩ ⟨_, _, _, rfl⟩, B3 (Bt HB0.out HB8.out) HRZL.out _ _ _⟩
        · have HE : Hid (mkE l c = E6) := hid (HMD2.out.2 hE)
          have HEN : Hid (E6 ≠ 0) := hid hE
          have t0 : (E6 != 0) = true := by simpa using hE
          clear hE
          go_wp2_with fail
          exact ret_TBpe (by rfl) (by rfl) (HZ7.out.set3 _ _ _) (by rfl) (by rfl) ⟨_, by rw [HE.out]; rfl, by rw [mkT_no (by rw [HE.out]; exact HEN.out)]; exact RdT.nil _ _, B3 (Bt HB0.out HB7.out) HRZL.out _ _ _⟩
      · have HOP := hid e
        have hF : deedF b p1 p2 c.op = some (.func (.func 173) #[] #[.pointer (some ⟨b, 0, none⟩)]) := by rw [e]; rfl
        rw [hF, Option.getD_some, Option.isSome_some]
        have HDR : Hid (deedR (sameT l) c = dropR (sameT l) c.nm) := hid (by unfold deedR; simp [e])
        rw [HDR.out] at HMD HMO
        clear hF e
        go_wp2_with fail
        refine (p7same_any (H.out.on HB4.out) HS.out).mono ?_
        rintro e w5 ⟨v, rfl, ho5, hb5⟩
        have HB5 := hid (Bt HB4.out hb5)
        have HW35 := hid hb5
        go_wp2_with fail
        refine (d4_any ho5 (same_dok HR.out HOK.out) (HCB.out.on hb5) HCB.out.lt).mono ?_
        rintro e w6 ⟨v6, rfl, ho6, hb6⟩
        obtain ⟨T6, hT6⟩ : ∃ T6, T6 = (dropR (sameT l) c.nm).1 := ⟨_, rfl⟩
        obtain ⟨E6, hE6⟩ : ∃ E6, E6 = (dropR (sameT l) c.nm).2 := ⟨_, rfl⟩
        have HMD2 : Hid (MadeR l c (T6, E6)) := hid (by rw [hT6, hE6]; exact HMD.out)
        have HMO2 : Hid (c.op = 5 → E6 = 0 → ∀ x ∈ c.od, 0 ≤ x ∧ x < l.length) := hid (by rw [hE6]; exact HMO.out)
        rw [← hT6] at ho6
        rw [← hE6]
        have HO6 := hid ho6
        have HB6 : Hid (Below w0.heap.size w0 w6) := hid (HB5.out.trans (hb6.1.mono (Nat.le_trans HB4.out.size (Nat.le_refl _))))
        clear ho5 hb5 hb6 ho6 hT6 hE6
        obtain ⟨u1, u2, u3, B6, rfl, hts6⟩ := HO6.out.ts
        obtain ⟨⟨A4, n4, c4, rfl⟩, ⟨A5, n5, c5, rfl⟩, ⟨A6, n6, c6, rfl⟩⟩ := hts6.shapes
        clear hts6
        obtain ⟨q, hq⟩ : ∃ q, q = w6.heap.size := ⟨_, rfl⟩
        obtain ⟨w7, hw7⟩ : ∃ w7, w7 = w6.alloc (.cells #[.slice A4 n4 c4, .slice A5 n5 c5, .slice A6 n6 c6] 92) := ⟨_, rfl⟩
        have HTB : Hid (TBx w7 q (.slice A4 n4 c4) (.slice A5 n5 c5) (.slice A6 n6 c6) 92) := by rw [hw7, hq]; exact hid (tb_new _ _ _ _ _)
        have HB7 : Hid (Below w0.heap.size w0 w7) := by rw [hw7]; exact hid (Ba HB6.out _)
        have HO7 : Hid (OwT w7 w3.heap.size (.agg #[.slice A4 n4 c4, .slice A5 n5 c5, .slice A6 n6 c6]) T6) := by
          rw [hw7]
          obtain ⟨_, _, _, _, e1, hts⟩ := HO6.out.ts
          cases e1
          exact hid (hts.on (B1 _ _)).owt
        have HW7 := hid hw7; have HQ := hid hq
        have HZ7 := hid (HZ0.out.on HB7.out)
        clear hw7 hq
        go_upto_region 7 with fail
        rw [← HW7.out, ← HQ.out]
        obtain ⟨z0, z1, z2⟩ := HZ7.out.cells
        have y0 := HZ7.out.frozen 0; have y1 := HZ7.out.frozen 1; have y2 := HZ7.out.frozen 2
        by_cases hE : E6 = 0
        · obtain ⟨eT, hm1, hm2⟩ := HMD2.out.1 hE
          dsimp only at eT
          have HOD : Hid (c.op = 5 → ∀ x ∈ c.od, 0 ≤ x ∧ x < l.length) := hid (fun a => HMO2.out a hE)
          have HM1 : Hid (rightT T6 = true → mkE l c = 0) := hid hm1
          have HM2 : Hid (rightT T6 = false → mkE l c = 80) := hid hm2
          have HET := hid eT
          have HNK : Hid (∀ f ∈ T6.nw, I64 f.k ∧ I64 f.g ∧ f.nm.length ≤ 140737488351232) := hid (by rw [eT]; exact newC_ok HOK.out HC.out HS.out)
          have HRD : Hid (RdT w7 w7.heap.size (.agg #[.slice A4 n4 c4, .slice A5 n5 c5, .slice A6 n6 c6]) T6) := hid (HO7.out.rd (by rw [eT]; exact HOK.out) (fun f hf => ⟨(HNK.out f hf).1, (HNK.out f hf).2.1, Nat.le_trans (HNK.out f hf).2.2 (by unfold nmMax; omega)⟩) (by rw [eT]; exact mvC_ok HC.out (right_len HR.out) HOD.out))
          have HSH : Hid (shortT T6) := hid ⟨by rw [eT]; exact HS.out, fun f hf => (HNK.out f hf).2.2⟩
          subst hE
          clear eT hm1 hm2
          obtain ⟨a0, a1, a2⟩ := HTB.out.cells
          go_wp2_with fail
          refine (p7right_any HRD.out HSH.out).mono ?_
          rintro e w8 ⟨rfl, hb8⟩
          have HB8 := hid (Bt HB7.out hb8)
          have HZ8 := hid (HZ7.out.on hb8)
          have HTB8 := hid (HTB.out.on hb8)
          have HRD8 := hid (HRD.out.on hb8)
          clear hb8 a0 a1 a2 z0 z1 z2 y0 y1 y2
          obtain ⟨a0, a1, a2⟩ := HTB8.out.cells
          obtain ⟨z0, z1, z2⟩ := HZ8.out.cells
          have y0 := HZ8.out.frozen 0; have y1 := HZ8.out.frozen 1; have y2 := HZ8.out.frozen 2
          cases hrt : rightT T6 with
          | false =>
            have HE : Hid (mkE l c = 80) := hid (HM2.out hrt)
            clear hrt
            go_wp2_with fail
            exact ret_TBpe (by rfl) (by rfl) (HZ8.out.set3 _ _ _) (by rfl) (by rfl) ⟨_, by rw [HE.out]; rfl, by rw [mkT_no (by rw [HE.out]; decide)]; exact RdT.nil _ _, B3 (Bt HB0.out HB8.out) HRZL.out _ _ _⟩
          | true =>
            have HE : Hid (mkE l c = 0) := hid (HM1.out hrt)
            clear hrt
            go_wp2_with fail
            exact ret_TBpe (by rfl) (by rfl) (HZ8.out.set3 _ _ _) (by rfl) (by rfl) ⟨_, by rw [HE.out]; rfl, by rw [mkT_ok HE.out, ← HET.out]; exact HRD8.out.box3 HZ8.out ⟨_, _, _, rfl⟩ ⟨_, _, _, rfl⟩ ⟨_, _, _, rfl⟩ ⟨_, _, _, rfl⟩ ⟨_, _, _, rfl⟩ ⟨_, _, _, rfl⟩, B3 (Bt HB0.out HB8.out) HRZL.out _ _ _⟩
        · have HE : Hid (mkE l c = E6) := hid (HMD2.out.2 hE)
          have HEN : Hid (E6 ≠ 0) := hid hE
          have t0 : (E6 != 0) = true := by simpa using hE
          clear hE
          go_wp2_with fail
          exact ret_TBpe (by rfl) (by rfl) (HZ7.out.set3 _ _ _) (by rfl) (by rfl) ⟨_, by rw [HE.out]; rfl, by rw [mkT_no (by rw [HE.out]; exact HEN.out)]; exact RdT.nil _ _, B3 (Bt HB0.out HB7.out) HRZL.out _ _ _⟩
      · have HOP := hid e
        have hF : deedF b p1 p2 c.op = some (.func (.func 175) #[] #[.pointer (some ⟨b, 0, none⟩), .pointer (some ⟨p1, 0, none⟩)]) := by rw [e]; rfl
        rw [hF, Option.getD_some, Option.isSome_some]
        have HDR : Hid (deedR (sameT l) c = altR (sameT l) c.nm (renF c)) := hid (by unfold deedR; simp [e])
        rw [HDR.out] at HMD HMO
        clear hF e
        go_wp2_with fail
        refine (p7same_any (H.out.on HB4.out) HS.out).mono ?_
        rintro e w5 ⟨v, rfl, ho5, hb5⟩
        have HB5 := hid (Bt HB4.out hb5)
        have HW35 := hid hb5
        go_wp2_with fail
        refine (d5_any ho5 (same_dok HR.out HOK.out) (HCB.out.on hb5) HCB.out.lt (HT1.out.on hb5)).mono ?_
        rintro e w6 ⟨v6, rfl, ho6, hb6⟩
        obtain ⟨T6, hT6⟩ : ∃ T6, T6 = (altR (sameT l) c.nm (renF c)).1 := ⟨_, rfl⟩
        obtain ⟨E6, hE6⟩ : ∃ E6, E6 = (altR (sameT l) c.nm (renF c)).2 := ⟨_, rfl⟩
        have HMD2 : Hid (MadeR l c (T6, E6)) := hid (by rw [hT6, hE6]; exact HMD.out)
        have HMO2 : Hid (c.op = 5 → E6 = 0 → ∀ x ∈ c.od, 0 ≤ x ∧ x < l.length) := hid (by rw [hE6]; exact HMO.out)
        rw [← hT6] at ho6
        rw [← hE6]
        have HO6 := hid ho6
        have HB6 : Hid (Below w0.heap.size w0 w6) := hid (HB5.out.trans (hb6.1.mono (Nat.le_trans HB4.out.size (Nat.le_refl _))))
        clear ho5 hb5 hb6 ho6 hT6 hE6
        obtain ⟨u1, u2, u3, B6, rfl, hts6⟩ := HO6.out.ts
        obtain ⟨⟨A4, n4, c4, rfl⟩, ⟨A5, n5, c5, rfl⟩, ⟨A6, n6, c6, rfl⟩⟩ := hts6.shapes
        clear hts6
        obtain ⟨q, hq⟩ : ∃ q, q = w6.heap.size := ⟨_, rfl⟩
        obtain ⟨w7, hw7⟩ : ∃ w7, w7 = w6.alloc (.cells #[.slice A4 n4 c4, .slice A5 n5 c5, .slice A6 n6 c6] 92) := ⟨_, rfl⟩
        have HTB : Hid (TBx w7 q (.slice A4 n4 c4) (.slice A5 n5 c5) (.slice A6 n6 c6) 92) := by rw [hw7, hq]; exact hid (tb_new _ _ _ _ _)
        have HB7 : Hid (Below w0.heap.size w0 w7) := by rw [hw7]; exact hid (Ba HB6.out _)
        have HO7 : Hid (OwT w7 w3.heap.size (.agg #[.slice A4 n4 c4, .slice A5 n5 c5, .slice A6 n6 c6]) T6) := by
          rw [hw7]
          obtain ⟨_, _, _, _, e1, hts⟩ := HO6.out.ts
          cases e1
          exact hid (hts.on (B1 _ _)).owt
        have HW7 := hid hw7; have HQ := hid hq
        have HZ7 := hid (HZ0.out.on HB7.out)
        clear hw7 hq
        go_upto_region 7 with fail
        rw [← HW7.out, ← HQ.out]
        obtain ⟨z0, z1, z2⟩ := HZ7.out.cells
        have y0 := HZ7.out.frozen 0; have y1 := HZ7.out.frozen 1; have y2 := HZ7.out.frozen 2
        by_cases hE : E6 = 0
        · obtain ⟨eT, hm1, hm2⟩ := HMD2.out.1 hE
          dsimp only at eT
          have HOD : Hid (c.op = 5 → ∀ x ∈ c.od, 0 ≤ x ∧ x < l.length) := hid (fun a => HMO2.out a hE)
          have HM1 : Hid (rightT T6 = true → mkE l c = 0) := hid hm1
          have HM2 : Hid (rightT T6 = false → mkE l c = 80) := hid hm2
          have HET := hid eT
          have HNK : Hid (∀ f ∈ T6.nw, I64 f.k ∧ I64 f.g ∧ f.nm.length ≤ 140737488351232) := hid (by rw [eT]; exact newC_ok HOK.out HC.out HS.out)
          have HRD : Hid (RdT w7 w7.heap.size (.agg #[.slice A4 n4 c4, .slice A5 n5 c5, .slice A6 n6 c6]) T6) := hid (HO7.out.rd (by rw [eT]; exact HOK.out) (fun f hf => ⟨(HNK.out f hf).1, (HNK.out f hf).2.1, Nat.le_trans (HNK.out f hf).2.2 (by unfold nmMax; omega)⟩) (by rw [eT]; exact mvC_ok HC.out (right_len HR.out) HOD.out))
          have HSH : Hid (shortT T6) := hid ⟨by rw [eT]; exact HS.out, fun f hf => (HNK.out f hf).2.2⟩
          subst hE
          clear eT hm1 hm2
          obtain ⟨a0, a1, a2⟩ := HTB.out.cells
          go_wp2_with fail
          refine (p7right_any HRD.out HSH.out).mono ?_
          rintro e w8 ⟨rfl, hb8⟩
          have HB8 := hid (Bt HB7.out hb8)
          have HZ8 := hid (HZ7.out.on hb8)
          have HTB8 := hid (HTB.out.on hb8)
          have HRD8 := hid (HRD.out.on hb8)
          clear hb8 a0 a1 a2 z0 z1 z2 y0 y1 y2
          obtain ⟨a0, a1, a2⟩ := HTB8.out.cells
          obtain ⟨z0, z1, z2⟩ := HZ8.out.cells
          have y0 := HZ8.out.frozen 0; have y1 := HZ8.out.frozen 1; have y2 := HZ8.out.frozen 2
          cases hrt : rightT T6 with
          | false =>
            have HE : Hid (mkE l c = 80) := hid (HM2.out hrt)
            clear hrt
            go_wp2_with fail
            exact ret_TBpe (by rfl) (by rfl) (HZ8.out.set3 _ _ _) (by rfl) (by rfl) ⟨_, by rw [HE.out]; rfl, by rw [mkT_no (by rw [HE.out]; decide)]; exact RdT.nil _ _, B3 (Bt HB0.out HB8.out) HRZL.out _ _ _⟩
          | true =>
            have HE : Hid (mkE l c = 0) := hid (HM1.out hrt)
            clear hrt
            go_wp2_with fail
            exact ret_TBpe (by rfl) (by rfl) (HZ8.out.set3 _ _ _) (by rfl) (by rfl) ⟨_, by rw [HE.out]; rfl, by rw [mkT_ok HE.out, ← HET.out]; exact HRD8.out.box3 HZ8.out ⟨_, _, _, rfl⟩ ⟨_, _, _, rfl⟩ ⟨_, _, _, rfl⟩ ⟨_, _, _, rfl⟩ ⟨_, _, _, rfl⟩ ⟨_, _, _, rfl⟩, B3 (Bt HB0.out HB8.out) HRZL.out _ _ _⟩
        · have HE : Hid (mkE l c = E6) := hid (HMD2.out.2 hE)
          have HEN : Hid (E6 ≠ 0) := hid hE
          have t0 : (E6 != 0) = true := by simpa using hE
          clear hE
          go_wp2_with fail
          exact ret_TBpe (by rfl) (by rfl) (HZ7.out.set3 _ _ _) (by rfl) (by rfl) ⟨_, by rw [HE.out]; rfl, by rw [mkT_no (by rw [HE.out]; exact HEN.out)]; exact RdT.nil _ _, B3 (Bt HB0.out HB7.out) HRZL.out _ _ _⟩
      · have HOP := hid e
        have hF : deedF b p1 p2 c.op = some (.func (.func 177) #[] #[.pointer (some ⟨b, 0, none⟩), .pointer (some ⟨p2, 0, none⟩)]) := by rw [e]; rfl
        rw [hF, Option.getD_some, Option.isSome_some]
        have HDR : Hid (deedR (sameT l) c = altR (sameT l) c.nm (recF c)) := hid (by unfold deedR; simp [e])
        rw [HDR.out] at HMD HMO
        clear hF e
        go_wp2_with fail
        refine (p7same_any (H.out.on HB4.out) HS.out).mono ?_
        rintro e w5 ⟨v, rfl, ho5, hb5⟩
        have HB5 := hid (Bt HB4.out hb5)
        have HW35 := hid hb5
        go_wp2_with fail
        refine (d6_any ho5 (same_dok HR.out HOK.out) (HCB.out.on hb5) HCB.out.lt (HT2.out.on hb5)).mono ?_
        rintro e w6 ⟨v6, rfl, ho6, hb6⟩
        obtain ⟨T6, hT6⟩ : ∃ T6, T6 = (altR (sameT l) c.nm (recF c)).1 := ⟨_, rfl⟩
        obtain ⟨E6, hE6⟩ : ∃ E6, E6 = (altR (sameT l) c.nm (recF c)).2 := ⟨_, rfl⟩
        have HMD2 : Hid (MadeR l c (T6, E6)) := hid (by rw [hT6, hE6]; exact HMD.out)
        have HMO2 : Hid (c.op = 5 → E6 = 0 → ∀ x ∈ c.od, 0 ≤ x ∧ x < l.length) := hid (by rw [hE6]; exact HMO.out)
        rw [← hT6] at ho6
        rw [← hE6]
        have HO6 := hid ho6
        have HB6 : Hid (Below w0.heap.size w0 w6) := hid (HB5.out.trans (hb6.1.mono (Nat.le_trans HB4.out.size (Nat.le_refl _))))
        clear ho5 hb5 hb6 ho6 hT6 hE6
        obtain ⟨u1, u2, u3, B6, rfl, hts6⟩ := HO6.out.ts
        obtain ⟨⟨A4, n4, c4, rfl⟩, ⟨A5, n5, c5, rfl⟩, ⟨A6, n6, c6, rfl⟩⟩ := hts6.shapes
        clear hts6
        obtain ⟨q, hq⟩ : ∃ q, q = w6.heap.size := ⟨_, rfl⟩
        obtain ⟨w7, hw7⟩ : ∃ w7, w7 = w6.alloc (.cells #[.slice A4 n4 c4, .slice A5 n5 c5, .slice A6 n6 c6] 92) := ⟨_, rfl⟩
        have HTB : Hid (TBx w7 q (.slice A4 n4 c4) (.slice A5 n5 c5) (.slice A6 n6 c6) 92) := by rw [hw7, hq]; exact hid (tb_new _ _ _ _ _)
        have HB7 : Hid (Below w0.heap.size w0 w7) := by rw [hw7]; exact hid (Ba HB6.out _)
        have HO7 : Hid (OwT w7 w3.heap.size (.agg #[.slice A4 n4 c4, .slice A5 n5 c5, .slice A6 n6 c6]) T6) := by
          rw [hw7]
          obtain ⟨_, _, _, _, e1, hts⟩ := HO6.out.ts
          cases e1
          exact hid (hts.on (B1 _ _)).owt
        have HW7 := hid hw7; have HQ := hid hq
        have HZ7 := hid (HZ0.out.on HB7.out)
        clear hw7 hq
        go_upto_region 7 with fail
        rw [← HW7.out, ← HQ.out]
        obtain ⟨z0, z1, z2⟩ := HZ7.out.cells
        have y0 := HZ7.out.frozen 0; have y1 := HZ7.out.frozen 1; have y2 := HZ7.out.frozen 2
        by_cases hE : E6 = 0
        · obtain ⟨eT, hm1, hm2⟩ := HMD2.out.1 hE
          dsimp only at eT
          have HOD : Hid (c.op = 5 → ∀ x ∈ c.od, 0 ≤ x ∧ x < l.length) := hid (fun a => HMO2.out a hE)
          have HM1 : Hid (rightT T6 = true → mkE l c = 0) := hid hm1
          have HM2 : Hid (rightT T6 = false → mkE l c = 80) := hid hm2
          have HET := hid eT
          have HNK : Hid (∀ f ∈ T6.nw, I64 f.k ∧ I64 f.g ∧ f.nm.length ≤ 140737488351232) := hid (by rw [eT]; exact newC_ok HOK.out HC.out HS.out)
          have HRD : Hid (RdT w7 w7.heap.size (.agg #[.slice A4 n4 c4, .slice A5 n5 c5, .slice A6 n6 c6]) T6) := hid (HO7.out.rd (by rw [eT]; exact HOK.out) (fun f hf => ⟨(HNK.out f hf).1, (HNK.out f hf).2.1, Nat.le_trans (HNK.out f hf).2.2 (by unfold nmMax; omega)⟩) (by rw [eT]; exact mvC_ok HC.out (right_len HR.out) HOD.out))
          have HSH : Hid (shortT T6) := hid ⟨by rw [eT]; exact HS.out, fun f hf => (HNK.out f hf).2.2⟩
          subst hE
          clear eT hm1 hm2
          obtain ⟨a0, a1, a2⟩ := HTB.out.cells
          go_wp2_with fail
          refine (p7right_any HRD.out HSH.out).mono ?_
          rintro e w8 ⟨rfl, hb8⟩
          have HB8 := hid (Bt HB7.out hb8)
          have HZ8 := hid (HZ7.out.on hb8)
          have HTB8 := hid (HTB.out.on hb8)
          have HRD8 := hid (HRD.out.on hb8)
          clear hb8 a0 a1 a2 z0 z1 z2 y0 y1 y2
          obtain ⟨a0, a1, a2⟩ := HTB8.out.cells
          obtain ⟨z0, z1, z2⟩ := HZ8.out.cells
          have y0 := HZ8.out.frozen 0; have y1 := HZ8.out.frozen 1; have y2 := HZ8.out.frozen 2
          cases hrt : rightT T6 with
          | false =>
            have HE : Hid (mkE l c = 80) := hid (HM2.out hrt)
            clear hrt
            go_wp2_with fail
            exact ret_TBpe (by rfl) (by rfl) (HZ8.out.set3 _ _ _) (by rfl) (by rfl) ⟨_, by rw [HE.out]; rfl, by rw [mkT_no (by rw [HE.out]; decide)]; exact RdT.nil _ _, B3 (Bt HB0.out HB8.out) HRZL.out _ _ _⟩
          | true =>
            have HE : Hid (mkE l c = 0) := hid (HM1.out hrt)
            clear hrt
            go_wp2_with fail
            exact ret_TBpe (by rfl) (by rfl) (HZ8.out.set3 _ _ _) (by rfl) (by rfl) ⟨_, by rw [HE.out]; rfl, by rw [mkT_ok HE.out, ← HET.out]; exact HRD8.out.box3 HZ8.out ⟨_, _, _, rfl⟩ ⟨_, _, _, rfl⟩ ⟨_, _, _, rfl⟩ ⟨_, _, _, rfl⟩ ⟨_, _, _, rfl⟩ ⟨_, _, _, rfl⟩, B3 (Bt HB0.out HB8.out) HRZL.out _ _ _⟩
        · have HE : Hid (mkE l c = E6) := hid (HMD2.out.2 hE)
          have HEN : Hid (E6 ≠ 0) := hid hE
          have t0 : (E6 != 0) = true := by simpa using hE
          clear hE
          go_wp2_with fail
          exact ret_TBpe (by rfl) (by rfl) (HZ7.out.set3 _ _ _) (by rfl) (by rfl) ⟨_, by rw [HE.out]; rfl, by rw [mkT_no (by rw [HE.out]; exact HEN.out)]; exact RdT.nil _ _, B3 (Bt HB0.out HB7.out) HRZL.out _ _ _⟩
      · have HOP := hid e
        have hF : deedF b p1 p2 c.op = some (.func (.func 178) #[] #[.pointer (some ⟨b, 0, none⟩)]) := by rw [e]; rfl
        rw [hF, Option.getD_some, Option.isSome_some]
        have HDR : Hid (deedR (sameT l) c = ordR (sameT l) c.od) := hid (by unfold deedR; simp [e])
        rw [HDR.out] at HMD HMO
        clear hF e
        go_wp2_with fail
        refine (p7same_any (H.out.on HB4.out) HS.out).mono ?_
        rintro e w5 ⟨v, rfl, ho5, hb5⟩
        have HB5 := hid (Bt HB4.out hb5)
        have HW35 := hid hb5
        go_wp2_with fail
        refine (d7_any ho5 (same_dok HR.out HOK.out) (HCB.out.on hb5) HCB.out.lt (HO.out.on HB5.out)).mono ?_
        rintro e w6 ⟨v6, rfl, ho6, hb6⟩
        obtain ⟨T6, hT6⟩ : ∃ T6, T6 = (ordR (sameT l) c.od).1 := ⟨_, rfl⟩
        obtain ⟨E6, hE6⟩ : ∃ E6, E6 = (ordR (sameT l) c.od).2 := ⟨_, rfl⟩
        have HMD2 : Hid (MadeR l c (T6, E6)) := hid (by rw [hT6, hE6]; exact HMD.out)
        have HMO2 : Hid (c.op = 5 → E6 = 0 → ∀ x ∈ c.od, 0 ≤ x ∧ x < l.length) := hid (by rw [hE6]; exact HMO.out)
        rw [← hT6] at ho6
        rw [← hE6]
        have HO6 := hid ho6
        have HB6 : Hid (Below w0.heap.size w0 w6) := hid (HB5.out.trans (hb6.1.mono (Nat.le_trans HB4.out.size (Nat.le_refl _))))
        clear ho5 hb5 hb6 ho6 hT6 hE6
        obtain ⟨u1, u2, u3, B6, rfl, hts6⟩ := HO6.out.ts
        obtain ⟨⟨A4, n4, c4, rfl⟩, ⟨A5, n5, c5, rfl⟩, ⟨A6, n6, c6, rfl⟩⟩ := hts6.shapes
        clear hts6
        obtain ⟨q, hq⟩ : ∃ q, q = w6.heap.size := ⟨_, rfl⟩
        obtain ⟨w7, hw7⟩ : ∃ w7, w7 = w6.alloc (.cells #[.slice A4 n4 c4, .slice A5 n5 c5, .slice A6 n6 c6] 92) := ⟨_, rfl⟩
        have HTB : Hid (TBx w7 q (.slice A4 n4 c4) (.slice A5 n5 c5) (.slice A6 n6 c6) 92) := by rw [hw7, hq]; exact hid (tb_new _ _ _ _ _)
        have HB7 : Hid (Below w0.heap.size w0 w7) := by rw [hw7]; exact hid (Ba HB6.out _)
        have HO7 : Hid (OwT w7 w3.heap.size (.agg #[.slice A4 n4 c4, .slice A5 n5 c5, .slice A6 n6 c6]) T6) := by
          rw [hw7]
          obtain ⟨_, _, _, _, e1, hts⟩ := HO6.out.ts
          cases e1
          exact hid (hts.on (B1 _ _)).owt
        have HW7 := hid hw7; have HQ := hid hq
        have HZ7 := hid (HZ0.out.on HB7.out)
        clear hw7 hq
        go_upto_region 7 with fail
        rw [← HW7.out, ← HQ.out]
        obtain ⟨z0, z1, z2⟩ := HZ7.out.cells
        have y0 := HZ7.out.frozen 0; have y1 := HZ7.out.frozen 1; have y2 := HZ7.out.frozen 2
        by_cases hE : E6 = 0
        · obtain ⟨eT, hm1, hm2⟩ := HMD2.out.1 hE
          dsimp only at eT
          have HOD : Hid (c.op = 5 → ∀ x ∈ c.od, 0 ≤ x ∧ x < l.length) := hid (fun a => HMO2.out a hE)
          have HM1 : Hid (rightT T6 = true → mkE l c = 0) := hid hm1
          have HM2 : Hid (rightT T6 = false → mkE l c = 80) := hid hm2
          have HET := hid eT
          have HNK : Hid (∀ f ∈ T6.nw, I64 f.k ∧ I64 f.g ∧ f.nm.length ≤ 140737488351232) := hid (by rw [eT]; exact newC_ok HOK.out HC.out HS.out)
          have HRD : Hid (RdT w7 w7.heap.size (.agg #[.slice A4 n4 c4, .slice A5 n5 c5, .slice A6 n6 c6]) T6) := hid (HO7.out.rd (by rw [eT]; exact HOK.out) (fun f hf => ⟨(HNK.out f hf).1, (HNK.out f hf).2.1, Nat.le_trans (HNK.out f hf).2.2 (by unfold nmMax; omega)⟩) (by rw [eT]; exact mvC_ok HC.out (right_len HR.out) HOD.out))
          have HSH : Hid (shortT T6) := hid ⟨by rw [eT]; exact HS.out, fun f hf => (HNK.out f hf).2.2⟩
          subst hE
          clear eT hm1 hm2
          obtain ⟨a0, a1, a2⟩ := HTB.out.cells
          go_wp2_with fail
          refine (p7right_any HRD.out HSH.out).mono ?_
          rintro e w8 ⟨rfl, hb8⟩
          have HB8 := hid (Bt HB7.out hb8)
          have HZ8 := hid (HZ7.out.on hb8)
          have HTB8 := hid (HTB.out.on hb8)
          have HRD8 := hid (HRD.out.on hb8)
          clear hb8 a0 a1 a2 z0 z1 z2 y0 y1 y2
          obtain ⟨a0, a1, a2⟩ := HTB8.out.cells
          obtain ⟨z0, z1, z2⟩ := HZ8.out.cells
          have y0 := HZ8.out.frozen 0; have y1 := HZ8.out.frozen 1; have y2 := HZ8.out.frozen 2
          cases hrt : rightT T6 with
          | false =>
            have HE : Hid (mkE l c = 80) := hid (HM2.out hrt)
            clear hrt
            go_wp2_with fail
            exact ret_TBpe (by rfl) (by rfl) (HZ8.out.set3 _ _ _) (by rfl) (by rfl) ⟨_, by rw [HE.out]; rfl, by rw [mkT_no (by rw [HE.out]; decide)]; exact RdT.nil _ _, B3 (Bt HB0.out HB8.out) HRZL.out _ _ _⟩
          | true =>
            have HE : Hid (mkE l c = 0) := hid (HM1.out hrt)
            clear hrt
            go_wp2_with fail
            exact ret_TBpe (by rfl) (by rfl) (HZ8.out.set3 _ _ _) (by rfl) (by rfl) ⟨_, by rw [HE.out]; rfl, by rw [mkT_ok HE.out, ← HET.out]; exact HRD8.out.box3 HZ8.out ⟨_, _, _, rfl⟩ ⟨_, _, _, rfl⟩ ⟨_, _, _, rfl⟩ ⟨_, _, _, rfl⟩ ⟨_, _, _, rfl⟩ ⟨_, _, _, rfl⟩, B3 (Bt HB0.out HB8.out) HRZL.out _ _ _⟩
        · have HE : Hid (mkE l c = E6) := hid (HMD2.out.2 hE)
          have HEN : Hid (E6 ≠ 0) := hid hE
          have t0 : (E6 != 0) = true := by simpa using hE
          clear hE
          go_wp2_with fail
          exact ret_TBpe (by rfl) (by rfl) (HZ7.out.set3 _ _ _) (by rfl) (by rfl) ⟨_, by rw [HE.out]; rfl, by rw [mkT_no (by rw [HE.out]; exact HEN.out)]; exact RdT.nil _ _, B3 (Bt HB0.out HB7.out) HRZL.out _ _ _⟩
    · have HE : Hid (mkE l c = 80) := hid (by unfold mkE; rw [HR.out, if_neg (by simp), if_pos (by omega)])
      have hF : deedF b p1 p2 c.op = none := by unfold deedF; rw [if_neg (by omega), if_neg (by omega), if_neg (by omega), if_neg (by omega), if_neg (by omega)]
      rw [hF]
      have HZ7 := hid (HZ0.out.on HB4.out)
      obtain ⟨z0, z1, z2⟩ := HZ7.out.cells
      have y0 := HZ7.out.frozen 0; have y1 := HZ7.out.frozen 1; have y2 := HZ7.out.frozen 2
      clear hF hop
      go_wp2_with fail
      exact ret_TBpe (by rfl) (by rfl) (HZ7.out.set3 _ _ _) (by rfl) (by rfl) ⟨_, by rw [HE.out]; rfl, by rw [mkT_no (by rw [HE.out]; decide)]; exact RdT.nil _ _, B3 (Bt HB0.out HB4.out) HRZL.out _ _ _⟩
end Go.Proofs.YtaegencmnmjgbaaGreat
