/-
  The document's Make of layer 8, of Op 1.
-/
import Derived.Test.YtaegencmnmjgbaaGreatM28

namespace Go.Proofs.YtaegencmnmjgbaaGreat
open Go.RowKit
set_option linter.unusedVariables false
set_option linter.unusedSimpArgs false
set_option maxRecDepth 20000 in
set_option maxHeartbeats 12000000 in
theorem r8mk1 {w : World} {A : Option Addr} {n cp : Nat} {l : List Fd} (h : RdF w w.heap.size A n cp l) (hs : short l) {c : Ch} (hop : c.op = 1) (hc : chOk c) {A2 : Option Addr} {n2 c2 : Nat} (ho : RdI w w.heap.size A2 n2 c2 c.od) (hno : n2 ≤ 140737488351232) (hr : rightL l = true) :
    Calls Tryz.prog 142 #[.slice A n cp, chV c A2 n2 c2] w (MkQ w l c) := by
  have HR := hid hr
  have hn16 : n ≤ 16 := by have := right_len hr; have := h.1; omega
  have hn16i : (n : Int) ≤ 16 := by omega
  obtain ⟨w0, hw0⟩ : ∃ w0, w0 = ((w.alloc (.cells #[.int .i64 1, .string (bs c.nm), .string (bs c.to.nm), .int .i64 c.to.k, .int .i64 c.to.g, .int .i64 c.dk, .int .u64 c.dn, .string c.dt, .slice A2 n2 c2] 73)).alloc (.cells #[.slice none 0 0, .slice none 0 0, .slice none 0 0] 110)).alloc (.cells #[.slice none 0 0, .slice none 0 0, .slice none 0 0] 110) := ⟨_, rfl⟩
  have HW0 := hid hw0
  have HB0 : Hid (Below w.heap.size w w0) := by rw [hw0]; exact Ba (Ba (B1 _ _) _) _
  obtain ⟨rc, hrc⟩ : ∃ rc, rc = w.heap.size := ⟨_, rfl⟩
  obtain ⟨rz, hrz⟩ : ∃ rz, rz = w.heap.size + 1 := ⟨_, rfl⟩
  obtain ⟨rn, hrn⟩ : ∃ rn, rn = w.heap.size + 1 + 1 := ⟨_, rfl⟩
  have HRC := hid hrc; have HRZE := hid hrz; have HRN := hid hrn
  have HCB : Hid (CB w0 rc c A2 n2 c2 73) := by rw [hw0, hrc, ← hop]; exact ((CB.new w c A2 n2 c2 _).on (B1 _ _)).on (B1 _ _)
  have HTZ : Hid (TBx w0 rz (.slice none 0 0) (.slice none 0 0) (.slice none 0 0) 110) := by
    rw [hw0, hrz, ← World.size_alloc w (.cells #[.int .i64 1, .string (bs c.nm), .string (bs c.to.nm), .int .i64 c.to.k, .int .i64 c.to.g, .int .i64 c.dk, .int .u64 c.dn, .string c.dt, .slice A2 n2 c2] 73)]; exact (tb_new _ _ _ _ _).on (B1 _ _)
  have HTN : Hid (TBx w0 rn (.slice none 0 0) (.slice none 0 0) (.slice none 0 0) 110) := by
    have e : rn = ((w.alloc (.cells #[.int .i64 1, .string (bs c.nm), .string (bs c.to.nm), .int .i64 c.to.k, .int .i64 c.to.g, .int .i64 c.dk, .int .u64 c.dn, .string c.dt, .slice A2 n2 c2] 73)).alloc (.cells #[.slice none 0 0, .slice none 0 0, .slice none 0 0] 110)).heap.size := by rw [hrn]; simp
    rw [hw0, e]; exact tb_new _ _ _ _ _
  have HRZ : Hid (w.heap.size ≤ rz) := hid (by omega)
  have HLT : Hid (rn < w0.heap.size ∧ rz < rn) := ⟨HTN.out.lt, by omega⟩
  have H0 := hid h; have H := hid (h.on HB0.out); have HO := hid (ho.on HB0.out); have HS := hid hs; have HOP := hid hop; have HC := hid hc
  have HL : Hid (l.length = n) := h.1
  clear h hs hc ho hr hw0 hrc hrz hrn hop
  obtain ⟨k0, k1, k2, k3, k4, k5, k6, k7, k8⟩ := (HCB.out.on (B0 w0)).cells
  obtain ⟨z0, z1, z2⟩ := (HTZ.out.on (B0 w0)).cells
  obtain ⟨n0, n1, n2'⟩ := (HTN.out.on (B0 w0)).cells
  have fz0 := (HTZ.out.on (B0 w0)).frozen 0; have fz1 := (HTZ.out.on (B0 w0)).frozen 1; have fz2 := (HTZ.out.on (B0 w0)).frozen 2
  rw [HOP.out] at k0
  unfold chV
  rw [HOP.out]
  go_enter Tryz.func142, Tryz.ntmps142
  go_wp2_with fail
  rw [← HW0.out, ← HRN.out, ← HRZE.out, ← HRC.out]
  refine (r6find_any H.out c.nm).mono ?_
  rintro e w1 ⟨rfl, hb1⟩
  have HB1 := hid hb1
  clear hb1
  clear k0 k1 k2 k3 k4 k5 k6 k7 k8 z0 z1 z2 n0 n1 n2' fz0 fz1 fz2
  obtain ⟨kI, hkI⟩ : ∃ kI, kI = findI l c.nm := ⟨_, rfl⟩
  rw [← hkI]
  have HKI := hid hkI
  clear hkI
  obtain ⟨k0, k1, k2, k3, k4, k5, k6, k7, k8⟩ := (HCB.out.on HB1.out).cells
  obtain ⟨z0, z1, z2⟩ := (HTZ.out.on HB1.out).cells
  obtain ⟨n0, n1, n2'⟩ := (HTN.out.on HB1.out).cells
  have fz0 := (HTZ.out.on HB1.out).frozen 0; have fz1 := (HTZ.out.on HB1.out).frozen 1; have fz2 := (HTZ.out.on HB1.out).frozen 2
  rw [HOP.out] at k0
  go_wp2_with fail
  refine (r6right_any (H.out.on HB1.out) HS.out).mono ?_
  rintro e w2 ⟨rfl, hb2⟩
  rw [HR.out]
  have HB2 := hid (Bt HB1.out hb2)
  clear hb2
  clear k0 k1 k2 k3 k4 k5 k6 k7 k8 z0 z1 z2 n0 n1 n2' fz0 fz1 fz2
  obtain ⟨k0, k1, k2, k3, k4, k5, k6, k7, k8⟩ := (HCB.out.on HB2.out).cells
  obtain ⟨z0, z1, z2⟩ := (HTZ.out.on HB2.out).cells
  obtain ⟨n0, n1, n2'⟩ := (HTN.out.on HB2.out).cells
  have fz0 := (HTZ.out.on HB2.out).frozen 0; have fz1 := (HTZ.out.on HB2.out).frozen 1; have fz2 := (HTZ.out.on HB2.out).frozen 2
  rw [HOP.out] at k0
  obtain ⟨ko, hko⟩ : ∃ ko, ko = findN l c.nm := ⟨_, rfl⟩
  have HKO := hid hko
  clear hko
  obtain ⟨q, hq⟩ : ∃ q, q = w2.heap.size := ⟨_, rfl⟩
  obtain ⟨w4, hw4⟩ : ∃ w4, w4 = w2.alloc (.cells #[.slice A n cp, .slice none 0 0, .slice none 0 0] 110) := ⟨_, rfl⟩
  have HQ := hid hq; have HW4 := hid hw4
  have HMK : Hid (MkC w0 w4 q (.slice A n cp) (.slice none 0 0) (.slice none 0 0) (q + 1) (newF l c ko 0) (mvF c ko 0)) := by
    rw [hw4, hq]
    exact ⟨tb_new w2 _ _ _ _, OwF.nil _ _, OwM.nil _ _ _, Ba HB2.out _, by omega, HB2.out.size, by simp⟩
  clear hq hw4
  go_upto_region 11 with fail
  rw [← HW4.out, ← HQ.out]
  clear k0 k1 k2 k3 k4 k5 k6 k7 k8 z0 z1 z2 n0 n1 n2' fz0 fz1 fz2
  go_loopw [9] (fun i wr => ∃ j : Nat, j ≤ n ∧ i = .int .i64 j ∧ Hid (∃ v1 v2, MkC w0 wr q (.slice A n cp) v1 v2 (q + 1) (newF l c ko j) (mvF c ko j)) ∧ Hid (noCast l c ko j = false)) (fun i _ => n - (intOf i).toNat)
  case atStart => exact ⟨0, by omega, rfl, hid ⟨_, _, HMK.out⟩, hid (by unfold noCast; rw [HOP.out]; rfl)⟩
  case round =>
    obtain ⟨j, hj, rfl, ⟨v1, v2, hm⟩, HN⟩ := hrel
    have HM := hid hm
    obtain ⟨c0, cc1, cc2⟩ := hm.tb.cells
    have HBR := hid hm.bl
    obtain ⟨k0, k1, k2, k3, k4, k5, k6, k7, k8⟩ := (HCB.out.on HBR.out).cells
    obtain ⟨z0, z1, z2⟩ := (HTZ.out.on HBR.out).cells
    obtain ⟨n0, n1, n2'⟩ := (HTN.out.on HBR.out).cells
    have fz0 := (HTZ.out.on HBR.out).frozen 0; have fz1 := (HTZ.out.on HBR.out).frozen 1; have fz2 := (HTZ.out.on HBR.out).frozen 2
    rw [HOP.out] at k0
    by_cases hlt : j < n
    · obtain ⟨f, hf⟩ : ∃ f, l[j]? = some f := ⟨_, List.getElem?_eq_getElem (by have := HL.out; omega)⟩
      obtain ⟨_, hfk, hfg, hfn, fb, off, rfl, hc⟩ := H.out.at hf
      obtain ⟨d0, d1, d2⟩ := hc wr HBR.out
      have HF := hid hf
      have hji : (j : Int) < n := by omega
      have hj0 : (0 : Int) ≤ j := by omega
      obtain ⟨p, hp⟩ : ∃ p, p = wr.heap.size := ⟨_, rfl⟩
      obtain ⟨W1, hW1⟩ : ∃ W1, W1 = wr.alloc (.cells #[.string (bs f.nm), .int .i64 f.k, .int .i64 f.g] 68) := ⟨_, rfl⟩
      have HP := hid hp; have HW1 := hid hW1
      have HFB1 : Hid (FB W1 p (bs f.nm) f.k f.g) := by rw [hW1, hp]; exact hid (fb_new _ _ _ _)
      have HB1W : Hid (Below wr.heap.size wr W1) := by rw [hW1]; exact hid (B1 _ _)
      clear hc hf hp hW1 hm
      go_upto_region 14 with fail
      rw [← HW1.out, ← HP.out]
      clear k0 k1 k2 k3 k4 k5 k6 k7 k8 z0 z1 z2 n0 n1 n2' fz0 fz1 fz2
      clear d0 d1 d2 c0 cc1 cc2
      obtain ⟨k0, k1, k2, k3, k4, k5, k6, k7, k8⟩ := (HCB.out.on (Bt HBR.out HB1W.out)).cells
      obtain ⟨z0, z1, z2⟩ := (HTZ.out.on (Bt HBR.out HB1W.out)).cells
      obtain ⟨n0, n1, n2'⟩ := (HTN.out.on (Bt HBR.out HB1W.out)).cells
      have fz0 := (HTZ.out.on (Bt HBR.out HB1W.out)).frozen 0; have fz1 := (HTZ.out.on (Bt HBR.out HB1W.out)).frozen 1; have fz2 := (HTZ.out.on (Bt HBR.out HB1W.out)).frozen 2
      rw [HOP.out] at k0
      go_upto_region 22 with fail
      clear k0 k1 k2 k3 k4 k5 k6 k7 k8 z0 z1 z2 n0 n1 n2' fz0 fz1 fz2
      have HFB : Hid (FB W1 p (bs (f).nm) (f).k (f).g) := HFB1
      have hmW := HM.out.on HB1W.out
      obtain ⟨v1', w3', hrun, hown, hgr⟩ := run_appFd2 hmW.of (f) (by have := newF_length l c ko j; omega) hmW.az 32
      have hmk := (hmW.on (B1 _ (.cells #[.string (bs (f).nm), .int .i64 (f).k, .int .i64 (f).g] 68))).appF hgr hown
      have htb := (hmW.on (B1 _ (.cells #[.string (bs (f).nm), .int .i64 (f).k, .int .i64 (f).g] 68))).tb.grown hgr (fun e => by have := (hmW.of.blk2 _ e.symm).1; have := hmW.qb; omega)
      have fz := htb.frozen 1
      have ct := htb.cells.2.1
      obtain ⟨c0, cc1, cc2⟩ := hmW.tb.cells
      obtain ⟨g0, g1, g2⟩ := HFB.out.cells
      obtain ⟨A4, n4, c4, rfl⟩ := hown.shape
      try simp only [World.size_alloc] at hrun
      have HRUN := hid hrun; have HMK2 := hid hmk
      clear hrun hown hgr hmk htb hmW
      go_upto_region 23 with (at_builtin; refine wpList_appG rfl _ _ rfl rfl rfl HRUN.out ?_)
      clear fz ct c0 cc1 cc2 g0 g1 g2
      obtain ⟨W5, hW5⟩ : ∃ W5, W5 = w3'.setCell ⟨q, 1, none⟩ (.slice A4 n4 c4) := ⟨_, rfl⟩
      rw [← hW5] at HMK2 ⊢
      clear hW5
      have hmW := HMK2.out
      obtain ⟨v2', w6', hrun, hown, hgr⟩ := run_appMv Tryz.underlying108 infoMd hmW.om (selfM j) (by rw [mvF_length]; have := idxs_length c ko j; omega) hmW.az 108
      have hmk := (hmW.on (B1 _ (.cells #[.int .i64 (selfM j).fr, .int .i64 (selfM j).k, .int .u64 (selfM j).n, .string (selfM j).t] 150))).appM hgr hown
      have htb := (hmW.on (B1 _ (.cells #[.int .i64 (selfM j).fr, .int .i64 (selfM j).k, .int .u64 (selfM j).n, .string (selfM j).t] 150))).tb.grown hgr (fun e => by have := (hmW.om.blk2 _ e.symm).1; have := hmW.qb; omega)
      have fz := htb.frozen 2
      have ct := htb.cells.2.2
      obtain ⟨c0, cc1, cc2⟩ := hmW.tb.cells
      obtain ⟨A5, n5, c5, rfl⟩ := hown.shape
      have HRUN2 := hid hrun; have HMK3 := hid hmk
      clear hrun hown hgr hmk htb hmW
      go_wp2_with (at_builtin; refine wpList_appG rfl _ _ rfl rfl rfl HRUN2.out ?_)
      exact ⟨⟨j + 1, by omega, by go_num, hid ⟨_, _, by rw [newF_keep HF.out (by unfold keepB; rw [HOP.out]; simp), mvF_keep (by unfold keepB; rw [HOP.out]; simp), show ed c ko j f = (f) from by unfold ed; rw [HOP.out]; simp]; exact HMK3.out⟩, hid (by unfold noCast; rw [HOP.out]; rfl)⟩, by simp [intOf]; omega⟩
    · obtain rfl : j = n := by omega
      have HJL : Hid (j = l.length) := HL.out.symm
      have HFD : Hid (∀ f ∈ newF l c ko j, I64 f.k ∧ I64 f.g ∧ f.nm.length ≤ 140737488351232) := hid (newF_I64 _ (fun f hf i => by
        obtain ⟨h1, h2, h3⟩ := H.out.2.2.2.1 f hf
        have h4 := HS.out f hf
        obtain ⟨_, e1, e2, _, _, e3⟩ := HC.out
        unfold ed
        split
        · exact ⟨h1, h2, e3⟩
        · split
          · exact ⟨e1, e2, h4⟩
          · exact ⟨h1, h2, h4⟩))
      have HMI : Hid (∀ m ∈ mvF c ko j, I64 m.fr ∧ I64 m.k ∧ U64 m.n) := hid (fun m hm => by
        unfold mvF at hm
        rw [List.mem_map] at hm
        obtain ⟨i, hi, rfl⟩ := hm
        have := idxs_lt i hi
        refine self_I64 (n := j) (by omega) _ ?_
        unfold selfL; exact List.mem_map.2 ⟨i, List.mem_range.2 this, rfl⟩)
      clear hm
      go_upto_region 25 with fail
      go_wp2_with fail
      refine (rright_any c.dk c.dn c.dt (bs c.to.nm) c.to.k c.to.g wr HC.out.2.2.2.2.1).mono ?_
      rintro e w5 ⟨rfl, hb5⟩
      have HB5 := hid (Bt HBR.out hb5)
      have HBW : Hid (Below wr.heap.size wr w5) := hid hb5
      clear hb5 c0 cc1 cc2
      clear k0 k1 k2 k3 k4 k5 k6 k7 k8 z0 z1 z2 n0 n1 n2' fz0 fz1 fz2
      obtain ⟨k0, k1, k2, k3, k4, k5, k6, k7, k8⟩ := (HCB.out.on HB5.out).cells
      obtain ⟨z0, z1, z2⟩ := (HTZ.out.on HB5.out).cells
      obtain ⟨n0, n1, n2'⟩ := (HTN.out.on HB5.out).cells
      have fz0 := (HTZ.out.on HB5.out).frozen 0; have fz1 := (HTZ.out.on HB5.out).frozen 1; have fz2 := (HTZ.out.on HB5.out).frozen 2
      rw [HOP.out] at k0
      obtain ⟨rb, hrb⟩ : ∃ rb, rb = rightF c.dk c.dn c.dt.size c.to.k c.to.g := ⟨_, rfl⟩
      rw [← hrb]
      have HRB := hid hrb
      clear hrb
      cases rb
      · have HE : Hid (mkE l c = 80) := hid (by unfold mkE noCast noAdd; rw [HR.out, HOP.out, ← HRB.out]; simp)
        go_wp2_with fail
        exact ret_TB7e (by rfl) (by rfl) ((HTZ.out.on HB5.out).set3 _ _ _) (by rfl) (by rfl) ⟨_, by rw [HE.out]; rfl, by rw [mkT_no (by rw [HE.out]; decide)]; exact RdT.nil _ _, B3 (Bt HB0.out HB5.out) HRZ.out _ _ _⟩
      · by_cases g1 : c.to.k = 11
        · have t1 : (c.to.k == 11) = true := by simpa using g1
          by_cases g2 : c.dn = 0
          · have t2 : (c.dn != 0) = false := by simpa using g2
            have HNA : Hid (noAdd c = false) := hid (by unfold noAdd; rw [HOP.out, ← HRB.out]; simp [g2])
            clear g1 g2
            go_upto_region 27 with fail
            have hmW := HM.out.on HBW.out
            obtain ⟨v1', w3', hrun, hown, hgr⟩ := run_appFd2 hmW.of (c.to) (by have := newF_length l c ko j; omega) hmW.az 32
            have hmk := (hmW.on (B1 _ (.cells #[.string (bs (c.to).nm), .int .i64 (c.to).k, .int .i64 (c.to).g] 68))).appF hgr hown
            have htb := (hmW.on (B1 _ (.cells #[.string (bs (c.to).nm), .int .i64 (c.to).k, .int .i64 (c.to).g] 68))).tb.grown hgr (fun e => by have := (hmW.of.blk2 _ e.symm).1; have := hmW.qb; omega)
            have fz := htb.frozen 1
            have ct := htb.cells.2.1
            obtain ⟨c0, cc1, cc2⟩ := hmW.tb.cells
            obtain ⟨A4, n4, c4, rfl⟩ := hown.shape
            try simp only [World.size_alloc] at hrun
            have HRUN := hid hrun; have HMK2 := hid hmk
            clear hrun hown hgr hmk htb hmW
            go_upto_region 28 with (at_builtin; refine wpList_appG rfl _ _ rfl rfl rfl HRUN.out ?_)
            clear fz ct c0 cc1 cc2
            obtain ⟨W5, hW5⟩ : ∃ W5, W5 = w3'.setCell ⟨q, 1, none⟩ (.slice A4 n4 c4) := ⟨_, rfl⟩
            rw [← hW5] at HMK2 ⊢
            clear hW5
            clear k0 k1 k2 k3 k4 k5 k6 k7 k8 z0 z1 z2 n0 n1 n2' fz0 fz1 fz2
            have HB6 := hid HMK2.out.bl
            obtain ⟨k0, k1, k2, k3, k4, k5, k6, k7, k8⟩ := (HCB.out.on HB6.out).cells
            obtain ⟨z0, z1, z2⟩ := (HTZ.out.on HB6.out).cells
            obtain ⟨n0, n1, n2'⟩ := (HTN.out.on HB6.out).cells
            have fz0 := (HTZ.out.on HB6.out).frozen 0; have fz1 := (HTZ.out.on HB6.out).frozen 1; have fz2 := (HTZ.out.on HB6.out).frozen 2
            rw [HOP.out] at k0
            have hmW := HMK2.out
            obtain ⟨v2', w6', hrun, hown, hgr⟩ := run_appMv Tryz.underlying108 infoMd hmW.om (⟨-1, c.dk, c.dn, c.dt⟩ : Mv) (by rw [mvF_length]; have := idxs_length c ko j; omega) hmW.az 108
            have hmk := (hmW.on (B1 _ (.cells #[.int .i64 (⟨-1, c.dk, c.dn, c.dt⟩ : Mv).fr, .int .i64 (⟨-1, c.dk, c.dn, c.dt⟩ : Mv).k, .int .u64 (⟨-1, c.dk, c.dn, c.dt⟩ : Mv).n, .string (⟨-1, c.dk, c.dn, c.dt⟩ : Mv).t] 150))).appM hgr hown
            have htb := (hmW.on (B1 _ (.cells #[.int .i64 (⟨-1, c.dk, c.dn, c.dt⟩ : Mv).fr, .int .i64 (⟨-1, c.dk, c.dn, c.dt⟩ : Mv).k, .int .u64 (⟨-1, c.dk, c.dn, c.dt⟩ : Mv).n, .string (⟨-1, c.dk, c.dn, c.dt⟩ : Mv).t] 150))).tb.grown hgr (fun e => by have := (hmW.om.blk2 _ e.symm).1; have := hmW.qb; omega)
            have fz := htb.frozen 2
            have ct := htb.cells.2.2
            obtain ⟨c0, cc1, cc2⟩ := hmW.tb.cells
            obtain ⟨A5, n5, c5, rfl⟩ := hown.shape
            have HRUN2 := hid hrun; have HMK3 := hid hmk
            clear hrun hown hgr hmk htb hmW
            go_upto_region 29 with (at_builtin; refine wpList_appG rfl _ _ rfl rfl rfl HRUN2.out ?_)
            clear fz ct c0 cc1 cc2
            obtain ⟨W8, hW8⟩ : ∃ W8, W8 = w6'.setCell ⟨q, 2, none⟩ (.slice A5 n5 c5) := ⟨_, rfl⟩
            rw [← hW8] at HMK3 ⊢
            clear hW8
            clear k0 k1 k2 k3 k4 k5 k6 k7 k8 z0 z1 z2 n0 n1 n2' fz0 fz1 fz2
            have HB8 := hid HMK3.out.bl
            obtain ⟨k0, k1, k2, k3, k4, k5, k6, k7, k8⟩ := (HCB.out.on HB8.out).cells
            obtain ⟨z0, z1, z2⟩ := (HTZ.out.on HB8.out).cells
            obtain ⟨n0, n1, n2'⟩ := (HTN.out.on HB8.out).cells
            have fz0 := (HTZ.out.on HB8.out).frozen 0; have fz1 := (HTZ.out.on HB8.out).frozen 1; have fz2 := (HTZ.out.on HB8.out).frozen 2
            rw [HOP.out] at k0
            obtain ⟨lf1, hlf1⟩ : ∃ lf1, lf1 = newF l c ko j ++ [c.to] := ⟨_, rfl⟩
            obtain ⟨lm1, hlm1⟩ : ∃ lm1, lm1 = mvF c ko j ++ [(⟨-1, c.dk, c.dn, c.dt⟩ : Mv)] := ⟨_, rfl⟩
            rw [← hlf1, ← hlm1] at HMK3
            have HFD1 : Hid (∀ f ∈ lf1, I64 f.k ∧ I64 f.g ∧ f.nm.length ≤ 140737488351232) := hid (fun f hf => by
              rw [hlf1] at hf
              rcases List.mem_append.1 hf with h | h
              · exact HFD.out f h
              · rw [List.mem_singleton] at h; subst h
                obtain ⟨_, e1, e2, _, _, e3⟩ := HC.out
                exact ⟨e1, e2, e3⟩)
            have HMI1 : Hid (∀ m ∈ lm1, I64 m.fr ∧ I64 m.k ∧ U64 m.n) := hid (fun m hm => by
              rw [hlm1] at hm
              rcases List.mem_append.1 hm with h | h
              · exact HMI.out m h
              · rw [List.mem_singleton] at h; subst h
                obtain ⟨_, _, _, e4, e5, _⟩ := HC.out
                exact ⟨i64_iff.2 ⟨by show (-9223372036854775808 : Int) ≤ -1; omega, by show (-1 : Int) ≤ 9223372036854775807; omega⟩, e4, e5⟩)
            have HLF1 := hid hlf1; have HLM1 := hid hlm1
            clear hlf1 hlm1
            generalize hv1x : Value.slice A4 n4 c4 = v1x at HMK3
            generalize hv2x : Value.slice A5 n5 c5 = v2x at HMK3
            clear hv1x hv2x
            obtain ⟨c0, cc1, cc2⟩ := HMK3.out.tb.cells
            obtain ⟨A4, n4, hv1, hrf⟩ := HMK3.out.of.rd (fun f hf => ⟨(HFD1.out f hf).1, (HFD1.out f hf).2.1, by have := (HFD1.out f hf).2.2; unfold nmMax; omega⟩)
            subst hv1
            have HRF := hid hrf
            have HSN : Hid (short lf1) := hid (fun f hf => (HFD1.out f hf).2.2)
            have HNC : Hid (newC l c = lf1) := hid (by unfold newC; rw [HOP.out, ← HJL.out, ← HKO.out, HLF1.out]; simp)
            have HMC : Hid (mvC l c = lm1) := hid (by unfold mvC; rw [HOP.out, ← HJL.out, ← HKO.out, HLM1.out]; simp)
            have HME : Hid (mkE l c = if rightL (newC l c) then 0 else 80) := hid (by unfold mkE noCast noOrd; rw [HR.out, HOP.out, HNA.out]; simp)
            clear hrf
            go_upto_region 37 with fail
            go_wp2_with fail
            refine (r6right_any HRF.out HSN.out).mono ?_
            rintro e w7 ⟨rfl, hb7⟩
            have HB7 := hid (Bt HB8.out hb7)
            have HM7 := hid (HMK3.out.on hb7)
            clear hb7 c0 cc1 cc2
            clear k0 k1 k2 k3 k4 k5 k6 k7 k8 z0 z1 z2 n0 n1 n2' fz0 fz1 fz2
            obtain ⟨c0, cc1, cc2⟩ := HM7.out.tb.cells
            obtain ⟨k0, k1, k2, k3, k4, k5, k6, k7, k8⟩ := (HCB.out.on HB7.out).cells
            obtain ⟨z0, z1, z2⟩ := (HTZ.out.on HB7.out).cells
            obtain ⟨n0, n1, n2'⟩ := (HTN.out.on HB7.out).cells
            have fz0 := (HTZ.out.on HB7.out).frozen 0; have fz1 := (HTZ.out.on HB7.out).frozen 1; have fz2 := (HTZ.out.on HB7.out).frozen 2
            rw [HOP.out] at k0
            rw [← HNC.out]
            cases hrn : rightL (newC l c)
            · have HE : Hid (mkE l c = 80) := hid (by rw [HME.out, hrn]; rfl)
              clear hrn
              go_wp2_with fail
              exact ret_TB7e (by rfl) (by rfl) ((HTZ.out.on HB7.out).set3 _ _ _) (by rfl) (by rfl) ⟨_, by rw [HE.out]; rfl, by rw [mkT_no (by rw [HE.out]; decide)]; exact RdT.nil _ _, B3 (Bt HB0.out HB7.out) HRZ.out _ _ _⟩
            · have HE : Hid (mkE l c = 0) := hid (by rw [HME.out, hrn]; rfl)
              clear hrn
              obtain ⟨A5, n5, hv2, hrm⟩ := HM7.out.om.rd HMI1.out
              subst hv2
              clear hrm
              go_wp2_with fail
              have hzq : rz < q + 1 := by have := HLT.out; have := HM7.out.wq; omega
              obtain ⟨s2, hs2⟩ : ∃ s2, s2 = lf1.length := ⟨_, rfl⟩
              obtain ⟨s3, hs3⟩ : ∃ s3, s3 = lm1.length := ⟨_, rfl⟩
              rw [← hs2, ← hs3] at HM7 ⊢
              have hB := B3 (Bt HB0.out HB7.out) HRZ.out (.slice A j cp) (.slice A4 s2 n4) (.slice A5 s3 n5)
              have hof := ((HM7.out.of.set (g := rz) hzq 0 (.slice A j cp)).set (g := rz) hzq 1 (.slice A4 s2 n4)).set (g := rz) hzq 2 (.slice A5 s3 n5)
              have hom := ((HM7.out.om.set (g := rz) hzq 0 (.slice A j cp)).set (g := rz) hzq 1 (.slice A4 s2 n4)).set (g := rz) hzq 2 (.slice A5 s3 n5)
              refine ret_TB7e (by rfl) (by rfl) ((HTZ.out.on HB7.out).set3 _ _ _) (by rfl) (by rfl) ⟨_, by rw [HE.out]; rfl, ?_, hB⟩
              rw [mkT_ok HE.out, HNC.out, HMC.out]
              obtain ⟨A6, n6, hv1, hrf⟩ := hof.rd (fun f hf => ⟨(HFD1.out f hf).1, (HFD1.out f hf).2.1, by have := (HFD1.out f hf).2.2; unfold nmMax; omega⟩)
              obtain ⟨A7, n7, hv2, hrm⟩ := hom.rd HMI1.out
              rw [← hs2] at hv1 hrf
              rw [← hs3] at hv2 hrm
              cases hv1; cases hv2
              exact ⟨A, j, cp, A4, s2, n4, A5, s3, n5, rfl, H0.out.on hB, hrf, hrm⟩
          · have t2 : (c.dn != 0) = true := by simpa using g2
            have HE : Hid (mkE l c = 80) := hid (by unfold mkE noCast noAdd; rw [HR.out, HOP.out, ← HRB.out]; simp [g1, g2])
            clear g1 g2
            go_wp2_with fail
            exact ret_TB7e (by rfl) (by rfl) ((HTZ.out.on HB5.out).set3 _ _ _) (by rfl) (by rfl) ⟨_, by rw [HE.out]; rfl, by rw [mkT_no (by rw [HE.out]; decide)]; exact RdT.nil _ _, B3 (Bt HB0.out HB5.out) HRZ.out _ _ _⟩
        · have t1 : (c.to.k == 11) = false := by simpa using g1
          have HNA : Hid (noAdd c = false) := hid (by unfold noAdd; rw [HOP.out, ← HRB.out]; simp [g1])
          clear g1
          go_upto_region 27 with fail
          have hmW := HM.out.on HBW.out
          obtain ⟨v1', w3', hrun, hown, hgr⟩ := run_appFd2 hmW.of (c.to) (by have := newF_length l c ko j; omega) hmW.az 32
          have hmk := (hmW.on (B1 _ (.cells #[.string (bs (c.to).nm), .int .i64 (c.to).k, .int .i64 (c.to).g] 68))).appF hgr hown
          have htb := (hmW.on (B1 _ (.cells #[.string (bs (c.to).nm), .int .i64 (c.to).k, .int .i64 (c.to).g] 68))).tb.grown hgr (fun e => by have := (hmW.of.blk2 _ e.symm).1; have := hmW.qb; omega)
          have fz := htb.frozen 1
          have ct := htb.cells.2.1
          obtain ⟨c0, cc1, cc2⟩ := hmW.tb.cells
          obtain ⟨A4, n4, c4, rfl⟩ := hown.shape
          try simp only [World.size_alloc] at hrun
          have HRUN := hid hrun; have HMK2 := hid hmk
          clear hrun hown hgr hmk htb hmW
          go_upto_region 28 with (at_builtin; refine wpList_appG rfl _ _ rfl rfl rfl HRUN.out ?_)
          clear fz ct c0 cc1 cc2
          obtain ⟨W5, hW5⟩ : ∃ W5, W5 = w3'.setCell ⟨q, 1, none⟩ (.slice A4 n4 c4) := ⟨_, rfl⟩
          rw [← hW5] at HMK2 ⊢
          clear hW5
          clear k0 k1 k2 k3 k4 k5 k6 k7 k8 z0 z1 z2 n0 n1 n2' fz0 fz1 fz2
          have HB6 := hid HMK2.out.bl
          obtain ⟨k0, k1, k2, k3, k4, k5, k6, k7, k8⟩ := (HCB.out.on HB6.out).cells
          obtain ⟨z0, z1, z2⟩ := (HTZ.out.on HB6.out).cells
          obtain ⟨n0, n1, n2'⟩ := (HTN.out.on HB6.out).cells
          have fz0 := (HTZ.out.on HB6.out).frozen 0; have fz1 := (HTZ.out.on HB6.out).frozen 1; have fz2 := (HTZ.out.on HB6.out).frozen 2
          rw [HOP.out] at k0
          have hmW := HMK2.out
          obtain ⟨v2', w6', hrun, hown, hgr⟩ := run_appMv Tryz.underlying108 infoMd hmW.om (⟨-1, c.dk, c.dn, c.dt⟩ : Mv) (by rw [mvF_length]; have := idxs_length c ko j; omega) hmW.az 108
          have hmk := (hmW.on (B1 _ (.cells #[.int .i64 (⟨-1, c.dk, c.dn, c.dt⟩ : Mv).fr, .int .i64 (⟨-1, c.dk, c.dn, c.dt⟩ : Mv).k, .int .u64 (⟨-1, c.dk, c.dn, c.dt⟩ : Mv).n, .string (⟨-1, c.dk, c.dn, c.dt⟩ : Mv).t] 150))).appM hgr hown
          have htb := (hmW.on (B1 _ (.cells #[.int .i64 (⟨-1, c.dk, c.dn, c.dt⟩ : Mv).fr, .int .i64 (⟨-1, c.dk, c.dn, c.dt⟩ : Mv).k, .int .u64 (⟨-1, c.dk, c.dn, c.dt⟩ : Mv).n, .string (⟨-1, c.dk, c.dn, c.dt⟩ : Mv).t] 150))).tb.grown hgr (fun e => by have := (hmW.om.blk2 _ e.symm).1; have := hmW.qb; omega)
          have fz := htb.frozen 2
          have ct := htb.cells.2.2
          obtain ⟨c0, cc1, cc2⟩ := hmW.tb.cells
          obtain ⟨A5, n5, c5, rfl⟩ := hown.shape
          have HRUN2 := hid hrun; have HMK3 := hid hmk
          clear hrun hown hgr hmk htb hmW
          go_upto_region 29 with (at_builtin; refine wpList_appG rfl _ _ rfl rfl rfl HRUN2.out ?_)
          clear fz ct c0 cc1 cc2
          obtain ⟨W8, hW8⟩ : ∃ W8, W8 = w6'.setCell ⟨q, 2, none⟩ (.slice A5 n5 c5) := ⟨_, rfl⟩
          rw [← hW8] at HMK3 ⊢
          clear hW8
          clear k0 k1 k2 k3 k4 k5 k6 k7 k8 z0 z1 z2 n0 n1 n2' fz0 fz1 fz2
          have HB8 := hid HMK3.out.bl
          obtain ⟨k0, k1, k2, k3, k4, k5, k6, k7, k8⟩ := (HCB.out.on HB8.out).cells
          obtain ⟨z0, z1, z2⟩ := (HTZ.out.on HB8.out).cells
          obtain ⟨n0, n1, n2'⟩ := (HTN.out.on HB8.out).cells
          have fz0 := (HTZ.out.on HB8.out).frozen 0; have fz1 := (HTZ.out.on HB8.out).frozen 1; have fz2 := (HTZ.out.on HB8.out).frozen 2
          rw [HOP.out] at k0
          obtain ⟨lf1, hlf1⟩ : ∃ lf1, lf1 = newF l c ko j ++ [c.to] := ⟨_, rfl⟩
          obtain ⟨lm1, hlm1⟩ : ∃ lm1, lm1 = mvF c ko j ++ [(⟨-1, c.dk, c.dn, c.dt⟩ : Mv)] := ⟨_, rfl⟩
          rw [← hlf1, ← hlm1] at HMK3
          have HFD1 : Hid (∀ f ∈ lf1, I64 f.k ∧ I64 f.g ∧ f.nm.length ≤ 140737488351232) := hid (fun f hf => by
            rw [hlf1] at hf
            rcases List.mem_append.1 hf with h | h
            · exact HFD.out f h
            · rw [List.mem_singleton] at h; subst h
              obtain ⟨_, e1, e2, _, _, e3⟩ := HC.out
              exact ⟨e1, e2, e3⟩)
          have HMI1 : Hid (∀ m ∈ lm1, I64 m.fr ∧ I64 m.k ∧ U64 m.n) := hid (fun m hm => by
            rw [hlm1] at hm
            rcases List.mem_append.1 hm with h | h
            · exact HMI.out m h
            · rw [List.mem_singleton] at h; subst h
              obtain ⟨_, _, _, e4, e5, _⟩ := HC.out
              exact ⟨i64_iff.2 ⟨by show (-9223372036854775808 : Int) ≤ -1; omega, by show (-1 : Int) ≤ 9223372036854775807; omega⟩, e4, e5⟩)
          have HLF1 := hid hlf1; have HLM1 := hid hlm1
          clear hlf1 hlm1
          generalize hv1x : Value.slice A4 n4 c4 = v1x at HMK3
          generalize hv2x : Value.slice A5 n5 c5 = v2x at HMK3
          clear hv1x hv2x
          obtain ⟨c0, cc1, cc2⟩ := HMK3.out.tb.cells
          obtain ⟨A4, n4, hv1, hrf⟩ := HMK3.out.of.rd (fun f hf => ⟨(HFD1.out f hf).1, (HFD1.out f hf).2.1, by have := (HFD1.out f hf).2.2; unfold nmMax; omega⟩)
          subst hv1
          have HRF := hid hrf
          have HSN : Hid (short lf1) := hid (fun f hf => (HFD1.out f hf).2.2)
          have HNC : Hid (newC l c = lf1) := hid (by unfold newC; rw [HOP.out, ← HJL.out, ← HKO.out, HLF1.out]; simp)
          have HMC : Hid (mvC l c = lm1) := hid (by unfold mvC; rw [HOP.out, ← HJL.out, ← HKO.out, HLM1.out]; simp)
          have HME : Hid (mkE l c = if rightL (newC l c) then 0 else 80) := hid (by unfold mkE noCast noOrd; rw [HR.out, HOP.out, HNA.out]; simp)
          clear hrf
          go_upto_region 37 with fail
          go_wp2_with fail
          refine (r6right_any HRF.out HSN.out).mono ?_
          rintro e w7 ⟨rfl, hb7⟩
          have HB7 := hid (Bt HB8.out hb7)
          have HM7 := hid (HMK3.out.on hb7)
          clear hb7 c0 cc1 cc2
          clear k0 k1 k2 k3 k4 k5 k6 k7 k8 z0 z1 z2 n0 n1 n2' fz0 fz1 fz2
          obtain ⟨c0, cc1, cc2⟩ := HM7.out.tb.cells
          obtain ⟨k0, k1, k2, k3, k4, k5, k6, k7, k8⟩ := (HCB.out.on HB7.out).cells
          obtain ⟨z0, z1, z2⟩ := (HTZ.out.on HB7.out).cells
          obtain ⟨n0, n1, n2'⟩ := (HTN.out.on HB7.out).cells
          have fz0 := (HTZ.out.on HB7.out).frozen 0; have fz1 := (HTZ.out.on HB7.out).frozen 1; have fz2 := (HTZ.out.on HB7.out).frozen 2
          rw [HOP.out] at k0
          rw [← HNC.out]
          cases hrn : rightL (newC l c)
          · have HE : Hid (mkE l c = 80) := hid (by rw [HME.out, hrn]; rfl)
            clear hrn
            go_wp2_with fail
            exact ret_TB7e (by rfl) (by rfl) ((HTZ.out.on HB7.out).set3 _ _ _) (by rfl) (by rfl) ⟨_, by rw [HE.out]; rfl, by rw [mkT_no (by rw [HE.out]; decide)]; exact RdT.nil _ _, B3 (Bt HB0.out HB7.out) HRZ.out _ _ _⟩
          · have HE : Hid (mkE l c = 0) := hid (by rw [HME.out, hrn]; rfl)
            clear hrn
            obtain ⟨A5, n5, hv2, hrm⟩ := HM7.out.om.rd HMI1.out
            subst hv2
            clear hrm
            go_wp2_with fail
            have hzq : rz < q + 1 := by have := HLT.out; have := HM7.out.wq; omega
            obtain ⟨s2, hs2⟩ : ∃ s2, s2 = lf1.length := ⟨_, rfl⟩
            obtain ⟨s3, hs3⟩ : ∃ s3, s3 = lm1.length := ⟨_, rfl⟩
            rw [← hs2, ← hs3] at HM7 ⊢
            have hB := B3 (Bt HB0.out HB7.out) HRZ.out (.slice A j cp) (.slice A4 s2 n4) (.slice A5 s3 n5)
            have hof := ((HM7.out.of.set (g := rz) hzq 0 (.slice A j cp)).set (g := rz) hzq 1 (.slice A4 s2 n4)).set (g := rz) hzq 2 (.slice A5 s3 n5)
            have hom := ((HM7.out.om.set (g := rz) hzq 0 (.slice A j cp)).set (g := rz) hzq 1 (.slice A4 s2 n4)).set (g := rz) hzq 2 (.slice A5 s3 n5)
            refine ret_TB7e (by rfl) (by rfl) ((HTZ.out.on HB7.out).set3 _ _ _) (by rfl) (by rfl) ⟨_, by rw [HE.out]; rfl, ?_, hB⟩
            rw [mkT_ok HE.out, HNC.out, HMC.out]
            obtain ⟨A6, n6, hv1, hrf⟩ := hof.rd (fun f hf => ⟨(HFD1.out f hf).1, (HFD1.out f hf).2.1, by have := (HFD1.out f hf).2.2; unfold nmMax; omega⟩)
            obtain ⟨A7, n7, hv2, hrm⟩ := hom.rd HMI1.out
            rw [← hs2] at hv1 hrf
            rw [← hs3] at hv2 hrm
            cases hv1; cases hv2
            exact ⟨A, j, cp, A4, s2, n4, A5, s3, n5, rfl, H0.out.on hB, hrf, hrm⟩
end Go.Proofs.YtaegencmnmjgbaaGreat
