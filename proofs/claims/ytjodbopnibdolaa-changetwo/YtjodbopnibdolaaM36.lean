/-
  The walk of ChangeTwo.
-/
import Derived.Test.YtjodbopnibdolaaM35

namespace Go.Proofs.Ytjodbopnibdolaa
open Go.RowKit
set_option linter.unusedVariables false
set_option linter.unusedSimpArgs false

theorem comp_same {l : List Fd} {c : Ch} (h : mkE l c = 0) : compB (sameT l) (mkT l c) = true := by
  have hr := (mkE_facts h).1
  have hm := mkT_right h
  rw [compB_iff]
  refine ⟨same_rightT hr, hm, by rw [sameT_right hr, mkT_ok h], fun i m f hm1 hf1 => ?_⟩
  have hb := (rightT_iff.1 hm).2.2.2 i m f hm1 hf1
  have ho : (mkT l c).o = l := by rw [mkT_ok h]
  rw [ho] at hb
  rw [sameT_right hr]
  unfold thrB
  by_cases h0 : 0 ≤ m.fr
  · rw [if_pos h0]
    rcases mvB_from hb with e | ⟨g, _, hg, _, hc⟩
    · omega
    · have hlt := (List.getElem?_eq_some_iff.1 hg).1
      rw [selfL_get hlt]
      dsimp only
      have hfa : fdAt l (selfM m.fr.toNat).fr = some g := by
        have e : (selfM m.fr.toNat).fr = m.fr := Int.toNat_of_nonneg h0
        rw [e]; unfold fdAt; rw [if_pos h0]; exact hg
      rw [hfa]; exact hc
  · rw [if_neg h0]
theorem all_two {l : List Fd} {a b : Ch} (h : mkE l a = 0) : (mkE (mkT l a).nw b ≠ 0 → (all8 l [a, b]).2 = mkE (mkT l a).nw b) ∧ (mkE (mkT l a).nw b = 0 → ((all8 l [a, b]).2 = 0 ∧ (all8 l [a, b]).1.nw = (mkT (mkT l a).nw b).nw) ∨ (all8 l [a, b]).2 = 70) := by
  have hr := (mkE_facts h).1
  have hs : (sameT l).nw = l := by rw [sameT_right hr]
  have h1 : all8 l [a, b] = allF (compT (sameT l) (mkT l a)) [b] := by
    unfold all8
    rw [hr, if_pos rfl]
    have := allF_at (T := sameT l) (cs := [a, b]) (j := 0) (c := a) rfl
    rw [List.drop_zero, hs, if_neg (by simp [h]), if_pos (comp_same h)] at this
    exact this
  have hn : (compT (sameT l) (mkT l a)).nw = (mkT l a).nw := mkT_nw (comp_same h)
  have h2 := allF_at (T := compT (sameT l) (mkT l a)) (cs := [b]) (j := 0) (c := b) rfl
  rw [List.drop_zero, hn] at h2
  rw [h1, h2]
  refine ⟨fun he => by rw [if_pos he], fun he => ?_⟩
  rw [if_neg (by simp [he])]
  cases hc : compB (compT (sameT l) (mkT l a)) (mkT (mkT l a).nw b) with
  | true =>
    left
    rw [if_pos rfl]
    exact ⟨rfl, mkT_nw hc⟩
  | false => right; rfl

set_option maxRecDepth 20000 in
set_option maxHeartbeats 16000000 in
theorem walk_ChangeTwo (A : Option Addr) (n cp : Nat) (l : List Fd) (a : Ch) (Ao : Option Addr) (no co : Nat) (b : Ch) (Bo : Option Addr) (mo do_ : Nat) (w : World) (h : RdF w w.heap.size A n cp l) (ha : ChA w a Ao no co) (hb : ChA w b Bo mo do_) :
    Calls Try.prog 6 #[.slice A n cp, chV a Ao no co, chV b Bo mo do_] w fun e w' => e = .returned (.bool true) ∧ Below w.heap.size w w' := by
  obtain ⟨w0, hw0⟩ : ∃ w0, w0 = (w.alloc (.cells #[.int .i64 a.op, .string (bs a.nm), .string (bs a.to.nm), .int .i64 a.to.k, .int .i64 a.to.g, .int .i64 a.dk, .int .u64 a.dn, .string a.dt, .slice Ao no co] 30)).alloc (.cells #[.int .i64 b.op, .string (bs b.nm), .string (bs b.to.nm), .int .i64 b.to.k, .int .i64 b.to.g, .int .i64 b.dk, .int .u64 b.dn, .string b.dt, .slice Bo mo do_] 30) := ⟨_, rfl⟩
  obtain ⟨ra, hra⟩ : ∃ ra, ra = w.heap.size := ⟨_, rfl⟩
  obtain ⟨rb, hrb⟩ : ∃ rb, rb = w.heap.size + 1 := ⟨_, rfl⟩
  have HW0 := hid hw0; have HRA := hid hra; have HRB := hid hrb
  have HCA : Hid (CB w0 ra a Ao no co 30) := by rw [hw0, hra]; exact hid ((CB.new w a Ao no co _).on (B1 _ _))
  have HCB : Hid (CB w0 rb b Bo mo do_ 30) := by rw [hw0, hrb, ← World.size_alloc w (.cells #[.int .i64 a.op, .string (bs a.nm), .string (bs a.to.nm), .int .i64 a.to.k, .int .i64 a.to.g, .int .i64 a.dk, .int .u64 a.dn, .string a.dt, .slice Ao no co] 30)]; exact hid (CB.new _ b Bo mo do_ _)
  have HB0 : Hid (Below w.heap.size w w0) := by rw [hw0]; exact hid (Ba (B1 _ _) _)
  have H := hid (h.on HB0.out); have HA := hid (ha.on HB0.out); have HB := hid (hb.on HB0.out)
  obtain ⟨g, hg⟩ : ∃ g, g = w0.heap.size := ⟨_, rfl⟩
  obtain ⟨w1, hw1⟩ : ∃ w1, w1 = w0.alloc (.cells #[.int .i64 a.op, .string (bs a.nm), .string (bs a.to.nm), .int .i64 a.to.k, .int .i64 a.to.g, .int .i64 a.dk, .int .u64 a.dn, .string a.dt, .slice Ao no co, .int .i64 b.op, .string (bs b.nm), .string (bs b.to.nm), .int .i64 b.to.k, .int .i64 b.to.g, .int .i64 b.dk, .int .u64 b.dn, .string b.dt, .slice Bo mo do_] 30) := ⟨_, rfl⟩
  have HG := hid hg; have HW1 := hid hw1
  have HB1 : Hid (Below w0.heap.size w0 w1) := by rw [hw1]; exact hid (B1 _ _)
  have HR1 : Hid (RdC w1 w1.heap.size (some ⟨g, 0, none⟩) 2 2 [a, b]) := hid (rdC_two (HA.out.on HB1.out) (HB.out.on HB1.out) (by rw [hw1, hg]; exact heap_alloc_new _ _))
  clear h ha hb hw0 hra hrb hg hw1
  obtain ⟨k0, k1, k2, k3, k4, k5, k6, k7, k8⟩ := HCA.out.cells
  obtain ⟨y0, y1, y2, y3, y4, y5, y6, y7, y8⟩ := HCB.out.cells
  unfold chV
  go_enter Try.func6, Try.ntmps6
  go_upto_region 1 with fail
  rw [← HW0.out, ← HRB.out, ← HRA.out]
  go_wp2_with fail
  rw [← HW1.out, ← HG.out]
  refine (few8_any (H.out.on HB1.out) HR1.out (fun x hx => by simp at hx; rcases hx with rfl | rfl; exact HA.out.2.1; exact HB.out.2.1)).mono ?_
  rintro e w2 ⟨fb, rfl, hfew, hb2⟩
  have HFEW := hid hfew
  have HB2 := hid (Bt HB1.out hb2)
  clear hfew hb2 k0 k1 k2 k3 k4 k5 k6 k7 k8 y0 y1 y2 y3 y4 y5 y6 y7 y8
  cases fb with
  | false =>
    go_wp2_with fail
    refine (alive8_any _).mono ?_
    rintro e w3 ⟨rfl, hb3⟩
    go_wp2_with fail
    go_ret
    exact ⟨rfl, Bt HB0.out (Bt HB2.out hb3)⟩
  | true =>
    have HF := hid (HFEW.out rfl)
    have HCK : Hid (chOk a) := hid (few_chOk HF.out (by simp) HA.out.1)
    have HCK2 : Hid (chOk b) := hid (few_chOk HF.out (by simp) HB.out.1)
    obtain ⟨k0, k1, k2, k3, k4, k5, k6, k7, k8⟩ := (HCA.out.on HB2.out).cells
    go_wp2_with fail
    refine (p8apply_any (c := a) (H.out.on HB2.out) (few_short HF.out) HCK.out (HA.out.on HB2.out).2.2).mono ?_
    rintro e w3 ⟨A3, n3, c3, rfl, h3, hb3⟩
    have HB3 := hid (Bt HB2.out hb3)
    have H3 := hid h3
    clear hb3 h3 k0 k1 k2 k3 k4 k5 k6 k7 k8
    obtain ⟨me, hme⟩ : ∃ me, me = mkE l a := ⟨_, rfl⟩
    rw [← hme]
    by_cases hm0 : me = 0
    · have HM0 : Hid (mkE l a = 0) := hid (by rw [← hme]; exact hm0)
      clear hme
      subst hm0
      have HR := hid (newC_right HM0.out)
      have HSN : Hid (short (mkT l a).nw) := hid (mkT_short HM0.out).2
      obtain ⟨y0, y1, y2, y3, y4, y5, y6, y7, y8⟩ := (HCB.out.on HB3.out).cells
      go_wp2_with fail
      refine (p8apply_any (c := b) H3.out HSN.out HCK2.out (HB.out.on HB3.out).2.2).mono ?_
      rintro e w4 ⟨A4, n4, c4, rfl, h4, hb4⟩
      have HB4 := hid (Bt HB3.out hb4)
      have H4 := hid h4
      clear hb4 h4 y0 y1 y2 y3 y4 y5 y6 y7 y8
      obtain ⟨mf, hmf⟩ : ∃ mf, mf = mkE (mkT l a).nw b := ⟨_, rfl⟩
      rw [← hmf]
      have HMF := hid hmf
      clear hmf
      obtain ⟨k0, k1, k2, k3, k4, k5, k6, k7, k8⟩ := (HCA.out.on HB4.out).cells
      obtain ⟨y0, y1, y2, y3, y4, y5, y6, y7, y8⟩ := (HCB.out.on HB4.out).cells
      obtain ⟨g5, hg5⟩ : ∃ g5, g5 = w4.heap.size := ⟨_, rfl⟩
      obtain ⟨w5, hw5⟩ : ∃ w5, w5 = w4.alloc (.cells #[.int .i64 a.op, .string (bs a.nm), .string (bs a.to.nm), .int .i64 a.to.k, .int .i64 a.to.g, .int .i64 a.dk, .int .u64 a.dn, .string a.dt, .slice Ao no co, .int .i64 b.op, .string (bs b.nm), .string (bs b.to.nm), .int .i64 b.to.k, .int .i64 b.to.g, .int .i64 b.dk, .int .u64 b.dn, .string b.dt, .slice Bo mo do_] 30) := ⟨_, rfl⟩
      have HG5 := hid hg5; have HW5 := hid hw5
      have HB45 : Hid (Below w4.heap.size w4 w5) := by rw [hw5]; exact hid (B1 _ _)
      have HR5 : Hid (RdC w5 w5.heap.size (some ⟨g5, 0, none⟩) 2 2 [a, b]) := hid (rdC_two (HA.out.on (Bt HB4.out HB45.out)) (HB.out.on (Bt HB4.out HB45.out)) (by rw [hw5, hg5]; exact heap_alloc_new _ _))
      have HB5 := hid (Bt HB4.out HB45.out)
      clear hg5 hw5
      go_wp2_with fail
      rw [← HW5.out, ← HG5.out]
      refine (own_any HR5.out (by omega)).mono ?_
      rintro e w6 ⟨A6, n6, c6, rfl, h6, hb6⟩
      have HB56 := hid hb6
      have HB6 := hid (Bt HB5.out hb6)
      have H6 := hid h6
      clear k0 k1 k2 k3 k4 k5 k6 k7 k8 y0 y1 y2 y3 y4 y5 y6 y7 y8 h6 hb6
      go_wp2_with fail
      refine (p8all_any (H.out.on HB6.out) HR.out.1 H6.out (fun x hx => by simp at hx; rcases hx with rfl | rfl; exact HCK.out.2.2.2.2.2; exact HCK2.out.2.2.2.2.2)).mono ?_
      rintro e w7 ⟨v7, rfl, ⟨B1', m1, d1, B2', m2, d2, B3', m3, d3, rfl, h1, h2, h3⟩, hb7⟩
      have HAT := hid (all_two (b := b) HM0.out)
      obtain ⟨r2, hr2⟩ : ∃ r2, r2 = (all8 l [a, b]).2 := ⟨_, rfl⟩
      obtain ⟨r1, hr1⟩ : ∃ r1, r1 = (all8 l [a, b]).1 := ⟨_, rfl⟩
      rw [← hr1] at h2
      rw [← hr2]
      rw [← hr1, ← hr2, ← HMF.out] at HAT
      obtain ⟨q, hq⟩ : ∃ q, q = w7.heap.size := ⟨_, rfl⟩
      obtain ⟨w8, hw8⟩ : ∃ w8, w8 = w7.alloc (.cells #[.slice B1' m1 d1, .slice B2' m2 d2, .slice B3' m3 d3] 36) := ⟨_, rfl⟩
      have HQ := hid hq; have HW8 := hid hw8
      have HT : Hid (TBx w8 q (.slice B1' m1 d1) (.slice B2' m2 d2) (.slice B3' m3 d3) 36) := by rw [hw8, hq]; exact hid (tb_new _ _ _ _ _)
      have HN8 : Hid (RdF w8 w8.heap.size B2' m2 d2 r1.nw) := by rw [hw8]; exact hid (h2.on (B1 _ _))
      have HB48 : Hid (Below w4.heap.size w4 w8) := by rw [hw8]; exact hid (Ba (Bt HB45.out (Bt HB56.out hb7)) _)
      have H48 := hid (H4.out.on HB48.out)
      have HB8 := hid (Bt HB4.out HB48.out)
      clear h1 h2 h3 hb7 hq hw8 hr1 hr2
      go_upto_region 8 with fail
      rw [← HW8.out, ← HQ.out]
      by_cases hf0 : mf = 0
      · subst hf0
        have HAF := hid (HAT.out.2 rfl)
        go_wp2_with fail
        refine (alive8_any _).mono ?_
        rintro e w9 ⟨rfl, hb9⟩
        have HB9 := hid (Bt HB8.out hb9)
        obtain ⟨q0, q1, q2⟩ := (HT.out.on hb9).cells
        have HN9 := hid (HN8.out.on hb9)
        have H49 := hid (H48.out.on hb9)
        clear hb9
        by_cases hz : r2 = 0
        · subst hz
          have HEQ : Hid (r1.nw = (mkT (mkT l a).nw b).nw) := hid (by
            rcases HAF.out with h | h
            · exact h.2
            · cases h)
          go_wp2_with fail
          rw [← HEQ.out] at H49
          refine (r6same_any HN9.out H49.out).mono ?_
          rintro e w10 ⟨rfl, hb10⟩
          rw [decide_eq_true rfl]
          go_wp2_with fail
          go_ret
          exact ⟨rfl, Bt HB0.out (Bt HB9.out hb10)⟩
        · have hz7 : r2 = 70 := by
            rcases HAF.out with h | h
            · exact absurd h.1 hz
            · exact h
          subst hz7
          go_wp2_with fail
          go_ret
          exact ⟨rfl, Bt HB0.out HB9.out⟩
      · have HAF := hid (HAT.out.1 hf0)
        have t0 : (mf != 0) = true := by simpa using hf0
        have t1 : (r2 == mf) = true := by simpa using HAF.out
        clear hf0
        go_wp2_with fail
        refine (alive8_any _).mono ?_
        rintro e w9 ⟨rfl, hb9⟩
        go_wp2_with fail
        go_ret
        exact ⟨rfl, Bt HB0.out (Bt HB8.out hb9)⟩
    · have t0 : (me != 0) = true := by simpa using hm0
      clear hme hm0
      go_wp2_with fail
      refine (alive8_any _).mono ?_
      rintro e w4 ⟨rfl, hb4⟩
      go_wp2_with fail
      go_ret
      exact ⟨rfl, Bt HB0.out (Bt HB3.out hb4)⟩
end Go.Proofs.Ytjodbopnibdolaa
