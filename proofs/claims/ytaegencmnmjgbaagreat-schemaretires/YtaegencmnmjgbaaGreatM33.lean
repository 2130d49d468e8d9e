/-
  The document's Make of layer 8, of Op 5.
-/
import Derived.Test.YtaegencmnmjgbaaGreatM28

namespace Go.Proofs.YtaegencmnmjgbaaGreat
open Go.RowKit
set_option linter.unusedVariables false
set_option linter.unusedSimpArgs false
set_option maxRecDepth 20000 in
set_option maxHeartbeats 12000000 in
theorem r8mk5 {w : World} {A : Option Addr} {n cp : Nat} {l : List Fd} (h : RdF w w.heap.size A n cp l) (hs : short l) {c : Ch} (hop : c.op = 5) (hc : chOk c) {A2 : Option Addr} {n2 c2 : Nat} (ho : RdI w w.heap.size A2 n2 c2 c.od) (hno : n2 ≤ 140737488351232) (hr : rightL l = true) :
    Calls Tryz.prog 142 #[.slice A n cp, chV c A2 n2 c2] w (MkQ w l c) := by
  have HR := hid hr
  have hn16 : n ≤ 16 := by have := right_len hr; have := h.1; omega
  have hn16i : (n : Int) ≤ 16 := by omega
  obtain ⟨w0, hw0⟩ : ∃ w0, w0 = ((w.alloc (.cells #[.int .i64 5, .string (bs c.nm), .string (bs c.to.nm), .int .i64 c.to.k, .int .i64 c.to.g, .int .i64 c.dk, .int .u64 c.dn, .string c.dt, .slice A2 n2 c2] 73)).alloc (.cells #[.slice none 0 0, .slice none 0 0, .slice none 0 0] 110)).alloc (.cells #[.slice none 0 0, .slice none 0 0, .slice none 0 0] 110) := ⟨_, rfl⟩
  have HW0 := hid hw0
  have HB0 : Hid (Below w.heap.size w w0) := by rw [hw0]; exact Ba (Ba (B1 _ _) _) _
  obtain ⟨rc, hrc⟩ : ∃ rc, rc = w.heap.size := ⟨_, rfl⟩
  obtain ⟨rz, hrz⟩ : ∃ rz, rz = w.heap.size + 1 := ⟨_, rfl⟩
  obtain ⟨rn, hrn⟩ : ∃ rn, rn = w.heap.size + 1 + 1 := ⟨_, rfl⟩
  have HRC := hid hrc; have HRZE := hid hrz; have HRN := hid hrn
  have HCB : Hid (CB w0 rc c A2 n2 c2 73) := by rw [hw0, hrc, ← hop]; exact ((CB.new w c A2 n2 c2 _).on (B1 _ _)).on (B1 _ _)
  have HTZ : Hid (TBx w0 rz (.slice none 0 0) (.slice none 0 0) (.slice none 0 0) 110) := by
    rw [hw0, hrz, ← World.size_alloc w (.cells #[.int .i64 5, .string (bs c.nm), .string (bs c.to.nm), .int .i64 c.to.k, .int .i64 c.to.g, .int .i64 c.dk, .int .u64 c.dn, .string c.dt, .slice A2 n2 c2] 73)]; exact (tb_new _ _ _ _ _).on (B1 _ _)
  have HTN : Hid (TBx w0 rn (.slice none 0 0) (.slice none 0 0) (.slice none 0 0) 110) := by
    have e : rn = ((w.alloc (.cells #[.int .i64 5, .string (bs c.nm), .string (bs c.to.nm), .int .i64 c.to.k, .int .i64 c.to.g, .int .i64 c.dk, .int .u64 c.dn, .string c.dt, .slice A2 n2 c2] 73)).alloc (.cells #[.slice none 0 0, .slice none 0 0, .slice none 0 0] 110)).heap.size := by rw [hrn]; simp
    rw [hw0, e]; exact tb_new _ _ _ _ _
  have HRZ : Hid (w.heap.size ≤ rz) := hid (by omega)
  have HLT : Hid (rn < w0.heap.size ∧ rz < rn) := ⟨HTN.out.lt, by omega⟩
  have H0 := hid h; have H := hid (h.on HB0.out); have HO := hid (ho.on HB0.out); have HS := hid hs; have HOP := hid hop; have HC := hid hc
  have HL : Hid (l.length = n) := h.1
  clear h hs hc ho hr hw0 hrc hrz hrn hop
  obtain ⟨k0, k1, k2, k3, k4, k5, k6, k7, k8⟩ := (HCB.out.on (B0 w0)).cells
  obtain ⟨z0, z1, z2⟩ := (HTZ.out.on (B0 w0)).cells
  obtain ⟨n0, n1, n2'⟩ := (HTN.out.on (B0 w0)).cells
  have fz0 := (HTZ.out.on (B0 w0)).frozen 0; have fz1 := (HTZ.out.on (B0 w0)).frozen 1; have fz2 := (HTZ.out.on (B0 w0)).frozen 2
  rw [HOP.out] at k0
  unfold chV
  rw [HOP.out]
  go_enter Tryz.func142, Tryz.ntmps142
  go_wp2_with fail
  rw [← HW0.out, ← HRN.out, ← HRZE.out, ← HRC.out]
  refine (r6find_any H.out c.nm).mono ?_
  rintro e w1 ⟨rfl, hb1⟩
  have HB1 := hid hb1
  clear hb1
  clear k0 k1 k2 k3 k4 k5 k6 k7 k8 z0 z1 z2 n0 n1 n2' fz0 fz1 fz2
  obtain ⟨kI, hkI⟩ : ∃ kI, kI = findI l c.nm := ⟨_, rfl⟩
  rw [← hkI]
  have HKI := hid hkI
  clear hkI
  obtain ⟨k0, k1, k2, k3, k4, k5, k6, k7, k8⟩ := (HCB.out.on HB1.out).cells
  obtain ⟨z0, z1, z2⟩ := (HTZ.out.on HB1.out).cells
  obtain ⟨n0, n1, n2'⟩ := (HTN.out.on HB1.out).cells
  have fz0 := (HTZ.out.on HB1.out).frozen 0; have fz1 := (HTZ.out.on HB1.out).frozen 1; have fz2 := (HTZ.out.on HB1.out).frozen 2
  rw [HOP.out] at k0
  go_wp2_with fail
  refine (r6right_any (H.out.on HB1.out) HS.out).mono ?_
  rintro e w2 ⟨rfl, hb2⟩
  rw [HR.out]
  have HB2 := hid (Bt HB1.out hb2)
  clear hb2
  clear k0 k1 k2 k3 k4 k5 k6 k7 k8 z0 z1 z2 n0 n1 n2' fz0 fz1 fz2
  obtain ⟨k0, k1, k2, k3, k4, k5, k6, k7, k8⟩ := (HCB.out.on HB2.out).cells
  obtain ⟨z0, z1, z2⟩ := (HTZ.out.on HB2.out).cells
  obtain ⟨n0, n1, n2'⟩ := (HTN.out.on HB2.out).cells
  have fz0 := (HTZ.out.on HB2.out).frozen 0; have fz1 := (HTZ.out.on HB2.out).frozen 1; have fz2 := (HTZ.out.on HB2.out).frozen 2
  rw [HOP.out] at k0
  obtain ⟨ko, hko⟩ : ∃ ko, ko = findN l c.nm := ⟨_, rfl⟩
  have HKO := hid hko
  clear hko
  obtain ⟨q, hq⟩ : ∃ q, q = w2.heap.size := ⟨_, rfl⟩
  obtain ⟨w4, hw4⟩ : ∃ w4, w4 = w2.alloc (.cells #[.slice A n cp, .slice none 0 0, .slice none 0 0] 110) := ⟨_, rfl⟩
  have HQ := hid hq; have HW4 := hid hw4
  have HMK : Hid (MkC w0 w4 q (.slice A n cp) (.slice none 0 0) (.slice none 0 0) (q + 1) (newF l c ko 0) (mvF c ko 0)) := by
    rw [hw4, hq]
    exact ⟨tb_new w2 _ _ _ _, OwF.nil _ _, OwM.nil _ _ _, Ba HB2.out _, by omega, HB2.out.size, by simp⟩
  clear hq hw4
  go_upto_region 11 with fail
  rw [← HW4.out, ← HQ.out]
  clear k0 k1 k2 k3 k4 k5 k6 k7 k8 z0 z1 z2 n0 n1 n2' fz0 fz1 fz2
  go_loopw [9] (fun i wr => ∃ j : Nat, j ≤ n ∧ i = .int .i64 j ∧ Hid (∃ v1 v2, MkC w0 wr q (.slice A n cp) v1 v2 (q + 1) (newF l c ko j) (mvF c ko j)) ∧ Hid (noCast l c ko j = false)) (fun i _ => n - (intOf i).toNat)
  case atStart => exact ⟨0, by omega, rfl, hid ⟨_, _, HMK.out⟩, hid (by unfold noCast; rw [HOP.out]; rfl)⟩
  case round =>
    obtain ⟨j, hj, rfl, ⟨v1, v2, hm⟩, HN⟩ := hrel
    have HM := hid hm
    obtain ⟨c0, cc1, cc2⟩ := hm.tb.cells
    have HBR := hid hm.bl
    obtain ⟨k0, k1, k2, k3, k4, k5, k6, k7, k8⟩ := (HCB.out.on HBR.out).cells
    obtain ⟨z0, z1, z2⟩ := (HTZ.out.on HBR.out).cells
    obtain ⟨n0, n1, n2'⟩ := (HTN.out.on HBR.out).cells
    have fz0 := (HTZ.out.on HBR.out).frozen 0; have fz1 := (HTZ.out.on HBR.out).frozen 1; have fz2 := (HTZ.out.on HBR.out).frozen 2
    rw [HOP.out] at k0
    by_cases hlt : j < n
    · obtain ⟨f, hf⟩ : ∃ f, l[j]? = some f := ⟨_, List.getElem?_eq_getElem (by have := HL.out; omega)⟩
      obtain ⟨_, hfk, hfg, hfn, fb, off, rfl, hc⟩ := H.out.at hf
      obtain ⟨d0, d1, d2⟩ := hc wr HBR.out
      have HF := hid hf
      have hji : (j : Int) < n := by omega
      have hj0 : (0 : Int) ≤ j := by omega
      obtain ⟨p, hp⟩ : ∃ p, p = wr.heap.size := ⟨_, rfl⟩
      obtain ⟨W1, hW1⟩ : ∃ W1, W1 = wr.alloc (.cells #[.string (bs f.nm), .int .i64 f.k, .int .i64 f.g] 68) := ⟨_, rfl⟩
      have HP := hid hp; have HW1 := hid hW1
      have HFB1 : Hid (FB W1 p (bs f.nm) f.k f.g) := by rw [hW1, hp]; exact hid (fb_new _ _ _ _)
      have HB1W : Hid (Below wr.heap.size wr W1) := by rw [hW1]; exact hid (B1 _ _)
      clear hc hf hp hW1 hm
      go_upto_region 14 with fail
      rw [← HW1.out, ← HP.out]
      clear k0 k1 k2 k3 k4 k5 k6 k7 k8 z0 z1 z2 n0 n1 n2' fz0 fz1 fz2
      clear d0 d1 d2 c0 cc1 cc2
      obtain ⟨k0, k1, k2, k3, k4, k5, k6, k7, k8⟩ := (HCB.out.on (Bt HBR.out HB1W.out)).cells
      obtain ⟨z0, z1, z2⟩ := (HTZ.out.on (Bt HBR.out HB1W.out)).cells
      obtain ⟨n0, n1, n2'⟩ := (HTN.out.on (Bt HBR.out HB1W.out)).cells
      have fz0 := (HTZ.out.on (Bt HBR.out HB1W.out)).frozen 0; have fz1 := (HTZ.out.on (Bt HBR.out HB1W.out)).frozen 1; have fz2 := (HTZ.out.on (Bt HBR.out HB1W.out)).frozen 2
      rw [HOP.out] at k0
      go_upto_region 22 with fail
      clear k0 k1 k2 k3 k4 k5 k6 k7 k8 z0 z1 z2 n0 n1 n2' fz0 fz1 fz2
      have HFB : Hid (FB W1 p (bs (f).nm) (f).k (f).g) := HFB1
      have hmW := HM.out.on HB1W.out
      obtain ⟨v1', w3', hrun, hown, hgr⟩ := run_appFd2 hmW.of (f) (by have := newF_length l c ko j; omega) hmW.az 32
      have hmk := (hmW.on (B1 _ (.cells #[.string (bs (f).nm), .int .i64 (f).k, .int .i64 (f).g] 68))).appF hgr hown
      have htb := (hmW.on (B1 _ (.cells #[.string (bs (f).nm), .int .i64 (f).k, .int .i64 (f).g] 68))).tb.grown hgr (fun e => by have := (hmW.of.blk2 _ e.symm).1; have := hmW.qb; omega)
      have fz := htb.frozen 1
      have ct := htb.cells.2.1
      obtain ⟨c0, cc1, cc2⟩ := hmW.tb.cells
      obtain ⟨g0, g1, g2⟩ := HFB.out.cells
      obtain ⟨A4, n4, c4, rfl⟩ := hown.shape
      try simp only [World.size_alloc] at hrun
      have HRUN := hid hrun; have HMK2 := hid hmk
      clear hrun hown hgr hmk htb hmW
      go_upto_region 23 with (at_builtin; refine wpList_appG rfl _ _ rfl rfl rfl HRUN.out ?_)
      clear fz ct c0 cc1 cc2 g0 g1 g2
      obtain ⟨W5, hW5⟩ : ∃ W5, W5 = w3'.setCell ⟨q, 1, none⟩ (.slice A4 n4 c4) := ⟨_, rfl⟩
      rw [← hW5] at HMK2 ⊢
      clear hW5
      have hmW := HMK2.out
      obtain ⟨v2', w6', hrun, hown, hgr⟩ := run_appMv Tryz.underlying108 infoMd hmW.om (selfM j) (by rw [mvF_length]; have := idxs_length c ko j; omega) hmW.az 108
      have hmk := (hmW.on (B1 _ (.cells #[.int .i64 (selfM j).fr, .int .i64 (selfM j).k, .int .u64 (selfM j).n, .string (selfM j).t] 150))).appM hgr hown
      have htb := (hmW.on (B1 _ (.cells #[.int .i64 (selfM j).fr, .int .i64 (selfM j).k, .int .u64 (selfM j).n, .string (selfM j).t] 150))).tb.grown hgr (fun e => by have := (hmW.om.blk2 _ e.symm).1; have := hmW.qb; omega)
      have fz := htb.frozen 2
      have ct := htb.cells.2.2
      obtain ⟨c0, cc1, cc2⟩ := hmW.tb.cells
      obtain ⟨A5, n5, c5, rfl⟩ := hown.shape
      have HRUN2 := hid hrun; have HMK3 := hid hmk
      clear hrun hown hgr hmk htb hmW
      go_wp2_with (at_builtin; refine wpList_appG rfl _ _ rfl rfl rfl HRUN2.out ?_)
      exact ⟨⟨j + 1, by omega, by go_num, hid ⟨_, _, by rw [newF_keep HF.out (by unfold keepB; rw [HOP.out]; simp), mvF_keep (by unfold keepB; rw [HOP.out]; simp), show ed c ko j f = (f) from by unfold ed; rw [HOP.out]; simp]; exact HMK3.out⟩, hid (by unfold noCast; rw [HOP.out]; rfl)⟩, by simp [intOf]; omega⟩
    · obtain rfl : j = n := by omega
      have HJL : Hid (j = l.length) := HL.out.symm
      have HFD : Hid (∀ f ∈ newF l c ko j, I64 f.k ∧ I64 f.g ∧ f.nm.length ≤ 140737488351232) := hid (newF_I64 _ (fun f hf i => by
        obtain ⟨h1, h2, h3⟩ := H.out.2.2.2.1 f hf
        have h4 := HS.out f hf
        obtain ⟨_, e1, e2, _, _, e3⟩ := HC.out
        unfold ed
        split
        · exact ⟨h1, h2, e3⟩
        · split
          · exact ⟨e1, e2, h4⟩
          · exact ⟨h1, h2, h4⟩))
      have HMI : Hid (∀ m ∈ mvF c ko j, I64 m.fr ∧ I64 m.k ∧ U64 m.n) := hid (fun m hm => by
        unfold mvF at hm
        rw [List.mem_map] at hm
        obtain ⟨i, hi, rfl⟩ := hm
        have := idxs_lt i hi
        refine self_I64 (n := j) (by omega) _ ?_
        unfold selfL; exact List.mem_map.2 ⟨i, List.mem_range.2 this, rfl⟩)
      clear hm
      have HNF : Hid (newF l c ko j = l ∧ mvF c ko j = selfL j) := hid ⟨by rw [newF_id (by rw [HOP.out]; decide) (by rw [HOP.out]; decide) (by rw [HOP.out]; decide) j (by rw [HJL.out]; exact Nat.le_refl _), HJL.out, List.take_length], mvF_id (by rw [HOP.out]; decide) j⟩
      rw [HNF.out.1, HNF.out.2] at HM
      go_upto_region 30 with fail
      go_wp2_with fail
      refine (r8all_any (HO.out.on HBR.out) hno j (by omega)).mono ?_
      rintro e w5 ⟨rfl, hb5⟩
      have HB5 := hid (Bt HBR.out hb5)
      have HM5 := hid (HM.out.on hb5)
      clear hb5 c0 cc1 cc2
      clear k0 k1 k2 k3 k4 k5 k6 k7 k8 z0 z1 z2 n0 n1 n2' fz0 fz1 fz2
      obtain ⟨k0, k1, k2, k3, k4, k5, k6, k7, k8⟩ := (HCB.out.on HB5.out).cells
      obtain ⟨z0, z1, z2⟩ := (HTZ.out.on HB5.out).cells
      obtain ⟨n0, n1, n2'⟩ := (HTN.out.on HB5.out).cells
      have fz0 := (HTZ.out.on HB5.out).frozen 0; have fz1 := (HTZ.out.on HB5.out).frozen 1; have fz2 := (HTZ.out.on HB5.out).frozen 2
      rw [HOP.out] at k0
      obtain ⟨ab, hab⟩ : ∃ ab, ab = allB c.od j := ⟨_, rfl⟩
      rw [← hab]
      have HAB := hid hab
      clear hab
      cases ab
      · have HE : Hid (mkE l c = 80) := hid (by unfold mkE noCast noAdd noOrd; rw [HR.out, HOP.out, ← HJL.out, ← HAB.out]; simp)
        go_wp2_with fail
        exact ret_TB7e (by rfl) (by rfl) ((HTZ.out.on HB5.out).set3 _ _ _) (by rfl) (by rfl) ⟨_, by rw [HE.out]; rfl, by rw [mkT_no (by rw [HE.out]; decide)]; exact RdT.nil _ _, B3 (Bt HB0.out HB5.out) HRZ.out _ _ _⟩
      · have HMEM : Hid (∀ x ∈ c.od, 0 ≤ x ∧ x < (l.length : Int)) := hid (by rw [← HJL.out]; exact allB_mem HAB.out.symm)
        have HOL : Hid (c.od.length = j) := hid ((allB_iff.1 HAB.out.symm).1)
        have hn2 : n2 = j := by rw [← HO.out.1]; exact HOL.out
        have hn2i : (n2 : Int) = j := by omega
        go_upto_region 33 with fail
        clear k0 k1 k2 k3 k4 k5 k6 k7 k8 z0 z1 z2 n0 n1 n2' fz0 fz1 fz2
        go_loopw [11] (fun i wr => ∃ a : Nat, a ≤ j ∧ i = .int .i64 a ∧ Hid (MkC w0 wr q (.slice A j cp) v1 v2 (q + 1) (odP l c.od a) (omP j c.od a))) (fun i _ => j - (intOf i).toNat)
        case atStart => exact ⟨0, by omega, rfl, by rw [show odP l c.od 0 = l by simp [odP], show omP j c.od 0 = selfL j by simp [omP]]; exact HM5⟩
        case round =>
          obtain ⟨a, ha, rfl, HMX⟩ := hrel
          obtain ⟨c0, cc1, cc2⟩ := HMX.out.tb.cells
          obtain ⟨k0, k1, k2, k3, k4, k5, k6, k7, k8⟩ := (HCB.out.on HMX.out.bl).cells
          obtain ⟨z0, z1, z2⟩ := (HTZ.out.on HMX.out.bl).cells
          obtain ⟨n0, n1, n2'⟩ := (HTN.out.on HMX.out.bl).cells
          have fz0 := (HTZ.out.on HMX.out.bl).frozen 0; have fz1 := (HTZ.out.on HMX.out.bl).frozen 1; have fz2 := (HTZ.out.on HMX.out.bl).frozen 2
          rw [HOP.out] at k0
          by_cases hlt2 : a < j
          · obtain ⟨x, hx⟩ : ∃ x, c.od[a]? = some x := ⟨_, List.getElem?_eq_getElem (by have := HOL.out; omega)⟩
            have hxb := HMEM.out x (List.mem_of_getElem? hx)
            obtain ⟨ob, ooff, rfl, hol, hoc⟩ := HO.out.2.2.2.2 (by omega)
            have hal : a < c.od.length := by have := HOL.out; omega
            have hxe : c.od[a] = x := by rw [List.getElem?_eq_getElem hal] at hx; exact Option.some.inj hx
            have hxc : ∀ w', Below w0.heap.size w0 w' → w'.cell? ⟨ob, ooff + a, none⟩ = some (.int .i64 x) := fun w' hb => by rw [← hxe]; exact (hb.cell (p := ⟨ob, ooff + a, none⟩) hol).trans (hoc a hal)
            obtain ⟨f, hf⟩ : ∃ f, l[x.toNat]? = some f := ⟨_, List.getElem?_eq_getElem (by omega)⟩
            obtain ⟨hfx, _, _, _, fb, off, rfl, hfc⟩ := H.out.at hf
            have hxn : (x.toNat : Int) = x := Int.toNat_of_nonneg hxb.1
            have hxi : x < (j : Int) := by have := HJL.out; omega
            have hx0 : 0 ≤ x := hxb.1
            have hai : (a : Int) < j := by omega
            have ha0 : (0 : Int) ≤ a := by omega
            have hain : (a : Int) < n2 := by omega
            have hlo : (odP l c.od a).length = j := by
              unfold odP; have := odF_length HMEM.out; have := HJL.out; have := HOL.out
              rw [List.length_append, List.length_take, List.length_drop]; omega
            have hnx : (odP l c.od a).set a f = odP l c.od (a + 1) := step_set (by rw [odF_at HMEM.out a x hx]; exact hf) (by have := HJL.out; omega)
            obtain ⟨g1, cap1, hv1, hg1, ⟨cs1, hc1, hcs1⟩, hput⟩ := HMX.out.of.put (i := a) (by rw [hlo]; exact hlt2) f
            rw [hlo] at hv1 hcs1
            rw [hnx] at hput
            subst hv1
            obtain ⟨b0', hb0'⟩ : ∃ u, cs1[a * 3]? = some u := ⟨_, Array.getElem?_eq_getElem (by omega)⟩
            obtain ⟨b1', hb1'⟩ : ∃ u, cs1[a * 3 + 1]? = some u := ⟨_, Array.getElem?_eq_getElem (by omega)⟩
            obtain ⟨b2', hb2'⟩ : ∃ u, cs1[a * 3 + 2]? = some u := ⟨_, Array.getElem?_eq_getElem (by omega)⟩
            have HPUT := hid hput; have HC1 := hid hc1
            have HB01 := hid hb0'; have HB11 := hid hb1'; have HB21 := hid hb2'
            have HX := hid hx; have HHF := hid hf
            clear hx hoc hal hxe hf hlo hnx hput hb0' hb1' hb2' hc1 c0 cc1 cc2
            clear k0 k1 k2 k3 k4 k5 k6 k7 k8 z0 z1 z2 n0 n1 n2' fz0 fz1 fz2
            go_upto_region 35 with fail
            refine reg_beginB ((q + 1)) (by kernel_rfl) (fun w0a hh0a hx0a hHeld => ?_)
            have HBQ : ∀ w', ExB (q + 1) w0a w' → Below w0.heap.size w0 w' := fun w' h => HMX.out.bl.trans ((hx0a.trans h).mono (by have := HMX.out.wq; omega))
            have s0 : ∀ w', ExB (q + 1) w0a w' → TBx w' q (.slice (some ⟨fb, off, none⟩) j cp) (.slice (some ⟨g1, 0, none⟩) j cap1) v2 110 := fun w' h => HMX.out.tb.below (hx0a.trans h) HMX.out.qb
            have s1 := fun w' h => (s0 w' h).cells.2.1
            have s2 := fun w' h => (s0 w' h).cells.2.2
            have r8 := fun w' h => (HCB.out.on (HBQ w' h)).cells.2.2.2.2.2.2.2.2
            have o0 := fun w' h => hxc w' (HBQ w' h)
            have y1 := fun w' h => (hfc w' (HBQ w' h)).1
            have y2 := fun w' h => (hfc w' (HBQ w' h)).2.1
            have y3 := fun w' h => (hfc w' (HBQ w' h)).2.2
            have z0 : w0a.cell? ⟨g1, a * 3, none⟩ = some b0' := (row_cell (by rw [hh0a.out]; exact HC1.out) (a * 3)).trans HB01.out
            have z1 : w0a.cell? ⟨g1, a * 3 + 1, none⟩ = some b1' := (row_cell (by rw [hh0a.out]; exact HC1.out) (a * 3 + 1)).trans HB11.out
            have z2 : w0a.cell? ⟨g1, a * 3 + 2, none⟩ = some b2' := (row_cell (by rw [hh0a.out]; exact HC1.out) (a * 3 + 2)).trans HB21.out
            have zf : ∀ i, w0a.frozen? ⟨g1, i, none⟩ = false := fun i => row_frozen (by rw [hh0a.out]; exact HC1.out) i
            clear s0
            refine reg_takeB 0 (v := ?vb0) at0 (by kernel_rfl) (by kernel_rfl) (by kernel_rfl) (by rfl) ?hyb0 hHeld ?restb0
            case hyb0 => (intro w' hSw; go_simp; try with_reducible rfl)
            try simp only [Act.put, List.setIfInBounds_toArray, List.set_cons_zero, List.set_cons_succ]
            refine reg_takeB 1 (v := ?vb1) (atS at0) (by kernel_rfl) (by kernel_rfl) (by kernel_rfl) (by rfl) ?hyb1 hHeld ?restb1
            case hyb1 => (intro w' hSw; go_simp; try with_reducible rfl)
            try simp only [Act.put, List.setIfInBounds_toArray, List.set_cons_zero, List.set_cons_succ]
            refine reg_takeB 2 (v := ?vb2) (atS (atS at0)) (by kernel_rfl) (by kernel_rfl) (by kernel_rfl) (by rfl) ?hyb2 hHeld ?restb2
            case hyb2 => (intro w' hSw; go_simp; try with_reducible rfl)
            try simp only [Act.put, List.setIfInBounds_toArray, List.set_cons_zero, List.set_cons_succ]
            refine reg_takeB 3 (v := ?vb3) (atS (atS (atS at0))) (by kernel_rfl) (by kernel_rfl) (by kernel_rfl) (by rfl) ?hyb3 hHeld ?restb3
            case hyb3 => (intro w' hSw; go_simp; try with_reducible rfl)
            try simp only [Act.put, List.setIfInBounds_toArray, List.set_cons_zero, List.set_cons_succ]
            refine reg_takeB 4 (v := ?vb4) (atS (atS (atS (atS at0)))) (by kernel_rfl) (by kernel_rfl) (by kernel_rfl) (by rfl) ?hyb4 hHeld ?restb4
            case hyb4 => (intro w' hSw; go_simp; try with_reducible rfl)
            try simp only [Act.put, List.setIfInBounds_toArray, List.set_cons_zero, List.set_cons_succ]
            refine reg_takeB 5 (v := ?vb5) (atS5 at0) (by kernel_rfl) (by kernel_rfl) (by kernel_rfl) (by rfl) ?hyb5 hHeld ?restb5
            case hyb5 => (intro w' hSw; go_simp; try with_reducible rfl)
            try simp only [Act.put, List.setIfInBounds_toArray, List.set_cons_zero, List.set_cons_succ]
            refine reg_takeB 6 (v := ?vb6) (atS5 (atS at0)) (by kernel_rfl) (by kernel_rfl) (by kernel_rfl) (by rfl) ?hyb6 hHeld ?restb6
            case hyb6 => (intro w' hSw; go_simp; try with_reducible rfl)
            try simp only [Act.put, List.setIfInBounds_toArray, List.set_cons_zero, List.set_cons_succ]
            refine reg_takeB 7 (v := ?vb7) (atS5 (atS (atS at0))) (by kernel_rfl) (by kernel_rfl) (by kernel_rfl) (by rfl) ?hyb7 hHeld ?restb7
            case hyb7 => (intro w' hSw; go_simp; try with_reducible rfl)
            try simp only [Act.put, List.setIfInBounds_toArray, List.set_cons_zero, List.set_cons_succ]
            refine reg_takeB 8 (v := ?vb8) (atS5 (atS (atS (atS at0)))) (by kernel_rfl) (by kernel_rfl) (by kernel_rfl) (by rfl) ?hyb8 hHeld ?restb8
            case hyb8 => (intro w' hSw; go_simp; try with_reducible rfl)
            try simp only [Act.put, List.setIfInBounds_toArray, List.set_cons_zero, List.set_cons_succ]
            refine reg_takeB 9 (v := ?vb9) (atS5 (atS (atS (atS (atS at0))))) (by kernel_rfl) (by kernel_rfl) (by kernel_rfl) (by rfl) ?hyb9 hHeld ?restb9
            case hyb9 => (intro w' hSw; go_simp; try with_reducible rfl)
            try simp only [Act.put, List.setIfInBounds_toArray, List.set_cons_zero, List.set_cons_succ]
            refine reg_takeB 10 (v := ?vb10) (atS5 (atS5 at0)) (by kernel_rfl) (by kernel_rfl) (by kernel_rfl) (by rfl) ?hyb10 hHeld ?restb10
            case hyb10 => (intro w' hSw; go_simp; try with_reducible rfl)
            try simp only [Act.put, List.setIfInBounds_toArray, List.set_cons_zero, List.set_cons_succ]
            refine reg_takeB 11 (v := ?vb11) (atS5 (atS5 (atS at0))) (by kernel_rfl) (by kernel_rfl) (by kernel_rfl) (by rfl) ?hyb11 hHeld ?restb11
            case hyb11 => (intro w' hSw; go_simp; try with_reducible rfl)
            try simp only [Act.put, List.setIfInBounds_toArray, List.set_cons_zero, List.set_cons_succ]
            refine wpAnyH_ready (rs := [12]) (by kernel_rfl) (by simp) ?_
            refine AllReadyH.cons (atS5 (atS5 (atS (atS at0)))) (fun K hK => ?_) AllReadyH.nil
            go_simp
            skip
            refine hK.out _ _ ((((Below.refl _ _).setCell (p := ⟨g1, _, none⟩) hg1 _).setCell (p := ⟨g1, _, none⟩) hg1 _).setCell (p := ⟨g1, _, none⟩) hg1 _) (fun hHeld => ?_)
            clear hK K
            try simp only [Act.put, List.setIfInBounds_toArray, List.set_cons_zero, List.set_cons_succ]
            refine reg_onB ((((Below.refl _ _).setCell (p := ⟨g1, _, none⟩) hg1 _).setCell (p := ⟨g1, _, none⟩) hg1 _).setCell (p := ⟨g1, _, none⟩) hg1 _) (fun hHeld => ?_)
            refine wpAnyH_done (by kernel_rfl) ?_ _
            refine NoPanic.normal ?_
            clear s1 s2 r8 o0 y1 y2 y3 z0 z1 z2 zf HBQ
            obtain ⟨W7, hW7⟩ : ∃ W7, W7 = ((w0a.setCell ⟨g1, a * 3, none⟩ (.string (bs f.nm))).setCell ⟨g1, a * 3 + 1, none⟩ (.int .i64 f.k)).setCell ⟨g1, a * 3 + 2, none⟩ (.int .i64 f.g) := ⟨_, rfl⟩
            rw [← hW7]
            have hB7 : Below (q + 1) wr W7 := by rw [hW7]; exact ((hx0a.setCell (p := ⟨g1, _, none⟩) hg1 _).setCell (p := ⟨g1, _, none⟩) hg1 _).setCell (p := ⟨g1, _, none⟩) hg1 _
            have hh7 : W7.heap = (((wr.setCell ⟨g1, a * 3, none⟩ (.string (bs f.nm))).setCell ⟨g1, a * 3 + 1, none⟩ (.int .i64 f.k)).setCell ⟨g1, a * 3 + 2, none⟩ (.int .i64 f.g)).heap := by rw [hW7]; simp only [World.setCell, hh0a.out]
            have HMY : Hid (MkC w0 W7 q (.slice (some ⟨fb, off, none⟩) j cp) (.slice (some ⟨g1, 0, none⟩) j cap1) v2 (q + 1) (odP l c.od (a + 1)) (omP j c.od a)) := hid
              ⟨HMX.out.tb.below hB7 HMX.out.qb, HPUT.out.heapEq hh7, (((HMX.out.om.setF HC1.out (a * 3) _).setF (row_set HC1.out (a * 3) _) (a * 3 + 1) _).setF (row_set (row_set HC1.out (a * 3) _) (a * 3 + 1) _) (a * 3 + 2) _).heapEq hh7,
                HMX.out.bl.trans (hB7.mono (by have := HMX.out.wq; omega)), HMX.out.qb, HMX.out.wq, Nat.le_trans HMX.out.az hB7.size⟩
            clear hW7 hB7 hh7
            obtain ⟨g2, cap2, hv2, hg2, ⟨cs2, hc2, hcs2⟩, hput⟩ := HMY.out.om.put (i := a) (m := selfM a) (omP_at hlt2 HOL.out) x
            have hlo : (omP j c.od a).length = j := by
              unfold omP odM; have := HOL.out
              rw [List.length_append, List.length_take, List.length_drop, selfL_length, List.length_map]; omega
            have hnx : (omP j c.od a).set a ⟨x, (selfM a).k, (selfM a).n, (selfM a).t⟩ = omP j c.od (a + 1) := step_set (odM_at HX.out) (by rw [selfL_length]; exact hlt2)
            rw [hlo] at hv2 hcs2
            rw [hnx] at hput
            subst hv2
            obtain ⟨b3', hb3'⟩ : ∃ u, cs2[a * 4]? = some u := ⟨_, Array.getElem?_eq_getElem (by omega)⟩
            have HPUT2 := hid hput; have HC22 := hid hc2; have HB31 := hid hb3'
            clear hlo hnx hput hb3' hc2
            go_upto_region 36 with fail
            refine reg_beginB ((q + 1)) (by kernel_rfl) (fun w0b hh0b hx0b hHeld => ?_)
            have HBQ : ∀ w', ExB (q + 1) w0b w' → Below w0.heap.size w0 w' := fun w' h => HMY.out.bl.trans ((hx0b.trans h).mono (by have := HMY.out.wq; omega))
            have s0 : ∀ w', ExB (q + 1) w0b w' → TBx w' q (.slice (some ⟨fb, off, none⟩) j cp) (.slice (some ⟨g1, 0, none⟩) j cap1) (.slice (some ⟨g2, 0, none⟩) j cap2) 110 := fun w' h => HMY.out.tb.below (hx0b.trans h) HMY.out.qb
            have s1 := fun w' h => (s0 w' h).cells.2.1
            have s2 := fun w' h => (s0 w' h).cells.2.2
            have r8 := fun w' h => (HCB.out.on (HBQ w' h)).cells.2.2.2.2.2.2.2.2
            have o0 := fun w' h => hxc w' (HBQ w' h)
            have y1 := fun w' h => (hfc w' (HBQ w' h)).1
            have y2 := fun w' h => (hfc w' (HBQ w' h)).2.1
            have y3 := fun w' h => (hfc w' (HBQ w' h)).2.2
            have z0 : w0b.cell? ⟨g2, a * 4, none⟩ = some b3' := (row_cell (by rw [hh0b.out]; exact HC22.out) (a * 4)).trans HB31.out
            have zf : ∀ i, w0b.frozen? ⟨g2, i, none⟩ = false := fun i => row_frozen (by rw [hh0b.out]; exact HC22.out) i
            clear s0
            refine reg_takeB 0 (v := ?vc0) at0 (by kernel_rfl) (by kernel_rfl) (by kernel_rfl) (by rfl) ?hyc0 hHeld ?restc0
            case hyc0 => (intro w' hSw; go_simp; try with_reducible rfl)
            try simp only [Act.put, List.setIfInBounds_toArray, List.set_cons_zero, List.set_cons_succ]
            refine reg_takeB 1 (v := ?vc1) (atS at0) (by kernel_rfl) (by kernel_rfl) (by kernel_rfl) (by rfl) ?hyc1 hHeld ?restc1
            case hyc1 => (intro w' hSw; go_simp; try with_reducible rfl)
            try simp only [Act.put, List.setIfInBounds_toArray, List.set_cons_zero, List.set_cons_succ]
            refine reg_takeB 2 (v := ?vc2) (atS (atS at0)) (by kernel_rfl) (by kernel_rfl) (by kernel_rfl) (by rfl) ?hyc2 hHeld ?restc2
            case hyc2 => (intro w' hSw; go_simp; try with_reducible rfl)
            try simp only [Act.put, List.setIfInBounds_toArray, List.set_cons_zero, List.set_cons_succ]
            refine reg_takeB 3 (v := ?vc3) (atS (atS (atS at0))) (by kernel_rfl) (by kernel_rfl) (by kernel_rfl) (by rfl) ?hyc3 hHeld ?restc3
            case hyc3 => (intro w' hSw; go_simp; try with_reducible rfl)
            try simp only [Act.put, List.setIfInBounds_toArray, List.set_cons_zero, List.set_cons_succ]
            refine reg_takeB 4 (v := ?vc4) (atS (atS (atS (atS at0)))) (by kernel_rfl) (by kernel_rfl) (by kernel_rfl) (by rfl) ?hyc4 hHeld ?restc4
            case hyc4 => (intro w' hSw; go_simp; try with_reducible rfl)
            try simp only [Act.put, List.setIfInBounds_toArray, List.set_cons_zero, List.set_cons_succ]
            refine reg_takeB 5 (v := ?vc5) (atS5 at0) (by kernel_rfl) (by kernel_rfl) (by kernel_rfl) (by rfl) ?hyc5 hHeld ?restc5
            case hyc5 => (intro w' hSw; go_simp; try with_reducible rfl)
            try simp only [Act.put, List.setIfInBounds_toArray, List.set_cons_zero, List.set_cons_succ]
            refine reg_takeB 6 (v := ?vc6) (atS5 (atS at0)) (by kernel_rfl) (by kernel_rfl) (by kernel_rfl) (by rfl) ?hyc6 hHeld ?restc6
            case hyc6 => (intro w' hSw; go_simp; try with_reducible rfl)
            try simp only [Act.put, List.setIfInBounds_toArray, List.set_cons_zero, List.set_cons_succ]
            refine reg_takeB 7 (v := ?vc7) (atS5 (atS (atS at0))) (by kernel_rfl) (by kernel_rfl) (by kernel_rfl) (by rfl) ?hyc7 hHeld ?restc7
            case hyc7 => (intro w' hSw; go_simp; try with_reducible rfl)
            try simp only [Act.put, List.setIfInBounds_toArray, List.set_cons_zero, List.set_cons_succ]
            refine reg_takeB 8 (v := ?vc8) (atS5 (atS (atS (atS at0)))) (by kernel_rfl) (by kernel_rfl) (by kernel_rfl) (by rfl) ?hyc8 hHeld ?restc8
            case hyc8 => (intro w' hSw; go_simp; try with_reducible rfl)
            try simp only [Act.put, List.setIfInBounds_toArray, List.set_cons_zero, List.set_cons_succ]
            refine reg_takeB 9 (v := ?vc9) (atS5 (atS (atS (atS (atS at0))))) (by kernel_rfl) (by kernel_rfl) (by kernel_rfl) (by rfl) ?hyc9 hHeld ?restc9
            case hyc9 => (intro w' hSw; go_simp; try with_reducible rfl)
            try simp only [Act.put, List.setIfInBounds_toArray, List.set_cons_zero, List.set_cons_succ]
            refine wpAnyH_ready (rs := [10]) (by kernel_rfl) (by simp) ?_
            refine AllReadyH.cons (atS5 (atS5 at0)) (fun K hK => ?_) AllReadyH.nil
            go_simp
            skip
            refine hK.out _ _ ((Below.refl _ _).setCell (p := ⟨g2, _, none⟩) hg2 _) (fun hHeld => ?_)
            clear hK K
            try simp only [Act.put, List.setIfInBounds_toArray, List.set_cons_zero, List.set_cons_succ]
            refine reg_onB ((Below.refl _ _).setCell (p := ⟨g2, _, none⟩) hg2 _) (fun hHeld => ?_)
            refine wpAnyH_done (by kernel_rfl) ?_ _
            refine NoPanic.normal ?_
            clear s1 s2 r8 o0 y1 y2 y3 z0 zf HBQ
            obtain ⟨W9, hW9⟩ : ∃ W9, W9 = w0b.setCell ⟨g2, a * 4, none⟩ (.int .i64 x) := ⟨_, rfl⟩
            rw [← hW9]
            have hB9 : Below (q + 1) W7 W9 := by rw [hW9]; exact hx0b.setCell (p := ⟨g2, _, none⟩) hg2 _
            have hh9 : W9.heap = (W7.setCell ⟨g2, a * 4, none⟩ (.int .i64 x)).heap := by rw [hW9]; simp only [World.setCell, hh0b.out]
            have HMZ : Hid (MkC w0 W9 q (.slice (some ⟨fb, off, none⟩) j cp) (.slice (some ⟨g1, 0, none⟩) j cap1) (.slice (some ⟨g2, 0, none⟩) j cap2) (q + 1) (odP l c.od (a + 1)) (omP j c.od (a + 1))) := hid
              ⟨HMY.out.tb.below hB9 HMY.out.qb, (HMY.out.of.setM HC22.out (a * 4) _).heapEq hh9, HPUT2.out.heapEq hh9,
                HMY.out.bl.trans (hB9.mono (by have := HMY.out.wq; omega)), HMY.out.qb, HMY.out.wq, Nat.le_trans HMY.out.az hB9.size⟩
            clear hW9 hB9 hh9
            go_wp2_with fail
            exact ⟨⟨a + 1, by omega, by go_num, HMZ⟩, by simp [intOf]; omega⟩
          · have haj : a = j := by omega
            have HB8 := hid HMX.out.bl
            have hl1 : odP l c.od a = odF l c.od := by
              unfold odP; rw [haj, List.take_of_length_le (by rw [odF_length HMEM.out]; exact Nat.le_of_eq HOL.out), List.drop_eq_nil_of_le (Nat.le_of_eq HJL.out.symm), List.append_nil]
            have hl2 : omP j c.od a = odM c.od := by
              unfold omP; rw [haj, List.take_of_length_le (by unfold odM; rw [List.length_map]; exact Nat.le_of_eq HOL.out), List.drop_eq_nil_of_le (by rw [selfL_length]; exact Nat.le_refl _), List.append_nil]
            rw [hl1, hl2] at HMX
            have hai : ¬ ((a : Int) < j) := by omega
            have HFD5 : Hid (∀ f ∈ odF l c.od, I64 f.k ∧ I64 f.g ∧ f.nm.length ≤ 140737488351232) := hid (fun f hf => by
              unfold odF at hf
              rw [List.mem_filterMap] at hf
              obtain ⟨x, _, hx⟩ := hf
              unfold fdAt at hx
              split at hx
              · have hm := List.mem_of_getElem? hx
                obtain ⟨h1, h2, _⟩ := H.out.2.2.2.1 f hm
                exact ⟨h1, h2, HS.out f hm⟩
              · cases hx)
            have HMI5 : Hid (∀ m ∈ odM c.od, I64 m.fr ∧ I64 m.k ∧ U64 m.n) := hid (fun m hm => by
              unfold odM at hm
              rw [List.mem_map] at hm
              obtain ⟨x, hx, rfl⟩ := hm
              have := HMEM.out x hx; have := HJL.out
              exact ⟨i64_iff.2 ⟨by show (-9223372036854775808 : Int) ≤ x; omega, by show x ≤ 9223372036854775807; omega⟩, i64_iff.2 ⟨by show (-9223372036854775808 : Int) ≤ 0; omega, by show (0 : Int) ≤ 9223372036854775807; omega⟩, ⟨Int.le_refl _, by show (0 : Int) < pw 8; decide⟩⟩)
            clear hl1 hl2 haj
            obtain ⟨A4, n4, hv1, hrf⟩ := HMX.out.of.rd (fun f hf => ⟨(HFD5.out f hf).1, (HFD5.out f hf).2.1, by have := (HFD5.out f hf).2.2; unfold nmMax; omega⟩)
            subst hv1
            have HRF := hid hrf
            have HSN : Hid (short (odF l c.od)) := hid (fun f hf => (HFD5.out f hf).2.2)
            have HNC : Hid (newC l c = (odF l c.od)) := hid (by unfold newC; rw [HOP.out]; simp)
            have HMC : Hid (mvC l c = (odM c.od)) := hid (by unfold mvC; rw [HOP.out]; simp)
            have HME : Hid (mkE l c = if rightL (newC l c) then 0 else 80) := hid (by unfold mkE noCast noAdd noOrd; rw [HR.out, HOP.out, ← HJL.out, ← HAB.out]; simp)
            clear hrf
            go_upto_region 37 with fail
            go_wp2_with fail
            refine (r6right_any HRF.out HSN.out).mono ?_
            rintro e w7 ⟨rfl, hb7⟩
            have HB7 := hid (Bt HB8.out hb7)
            have HM7 := hid (HMX.out.on hb7)
            clear hb7 c0 cc1 cc2
            clear k0 k1 k2 k3 k4 k5 k6 k7 k8 z0 z1 z2 n0 n1 n2' fz0 fz1 fz2
            obtain ⟨c0, cc1, cc2⟩ := HM7.out.tb.cells
            obtain ⟨k0, k1, k2, k3, k4, k5, k6, k7, k8⟩ := (HCB.out.on HB7.out).cells
            obtain ⟨z0, z1, z2⟩ := (HTZ.out.on HB7.out).cells
            obtain ⟨n0, n1, n2'⟩ := (HTN.out.on HB7.out).cells
            have fz0 := (HTZ.out.on HB7.out).frozen 0; have fz1 := (HTZ.out.on HB7.out).frozen 1; have fz2 := (HTZ.out.on HB7.out).frozen 2
            rw [HOP.out] at k0
            rw [← HNC.out]
            cases hrn : rightL (newC l c)
            · have HE : Hid (mkE l c = 80) := hid (by rw [HME.out, hrn]; rfl)
              clear hrn
              go_wp2_with fail
              exact ret_TB7e (by rfl) (by rfl) ((HTZ.out.on HB7.out).set3 _ _ _) (by rfl) (by rfl) ⟨_, by rw [HE.out]; rfl, by rw [mkT_no (by rw [HE.out]; decide)]; exact RdT.nil _ _, B3 (Bt HB0.out HB7.out) HRZ.out _ _ _⟩
            · have HE : Hid (mkE l c = 0) := hid (by rw [HME.out, hrn]; rfl)
              clear hrn
              obtain ⟨A5, n5, hv2, hrm⟩ := HM7.out.om.rd HMI5.out
              subst hv2
              clear hrm
              go_wp2_with fail
              have hzq : rz < q + 1 := by have := HLT.out; have := HM7.out.wq; omega
              obtain ⟨s2, hs2⟩ : ∃ s2, s2 = (odF l c.od).length := ⟨_, rfl⟩
              obtain ⟨s3, hs3⟩ : ∃ s3, s3 = (odM c.od).length := ⟨_, rfl⟩
              rw [← hs2, ← hs3] at HM7 ⊢
              have hB := B3 (Bt HB0.out HB7.out) HRZ.out (.slice A j cp) (.slice A4 s2 n4) (.slice A5 s3 n5)
              have hof := ((HM7.out.of.set (g := rz) hzq 0 (.slice A j cp)).set (g := rz) hzq 1 (.slice A4 s2 n4)).set (g := rz) hzq 2 (.slice A5 s3 n5)
              have hom := ((HM7.out.om.set (g := rz) hzq 0 (.slice A j cp)).set (g := rz) hzq 1 (.slice A4 s2 n4)).set (g := rz) hzq 2 (.slice A5 s3 n5)
              refine ret_TB7e (by rfl) (by rfl) ((HTZ.out.on HB7.out).set3 _ _ _) (by rfl) (by rfl) ⟨_, by rw [HE.out]; rfl, ?_, hB⟩
              rw [mkT_ok HE.out, HNC.out, HMC.out]
              obtain ⟨A6, n6, hv1, hrf⟩ := hof.rd (fun f hf => ⟨(HFD5.out f hf).1, (HFD5.out f hf).2.1, by have := (HFD5.out f hf).2.2; unfold nmMax; omega⟩)
              obtain ⟨A7, n7, hv2, hrm⟩ := hom.rd HMI5.out
              rw [← hs2] at hv1 hrf
              rw [← hs3] at hv2 hrm
              cases hv1; cases hv2
              exact ⟨A, j, cp, A4, s2, n4, A5, s3, n5, rfl, H0.out.on hB, hrf, hrm⟩
end Go.Proofs.YtaegencmnmjgbaaGreat
