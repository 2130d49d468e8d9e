/-
  The laws FieldNew, FieldApart, FieldRefs: walks.
  The laws FieldRefs, FieldBytes: walks.
-/
import Derived.Test.YtggfcbncjkpkgaaM21

namespace Go.Proofs.Ytggfcbncjkpkgaa
open Go.RowKit
set_option linter.unusedVariables false

set_option maxRecDepth 20000 in
set_option maxHeartbeats 4000000 in
theorem walk_FieldNew (A : Option Addr) (n c : Nat) (l : List Fd) (w : World) (h : RdF w w.heap.size A n c l) :
    Calls Try.prog 10 #[.slice A n c] w fun e w' => e = .returned (.bool true) ∧ Below w.heap.size w w' := by
  have H := hid h; have HL := hid h.1
  clear h
  go_enter Try.func10, Try.ntmps10
  go_wp2_with fail
  refine (few6_any H.out).mono ?_
  rintro e w1 ⟨b, rfl, hfew, hb1⟩
  have HB1 := hid hb1; clear hb1
  cases b with
  | false =>
    clear hfew
    go_wp2_with fail
    refine (alive_any _).mono ?_
    rintro e w2 ⟨rfl, hb2⟩
    have HB2 := hid (Bt HB1.out hb2); clear hb2
    go_wp2_with fail
    go_ret
    exact ⟨rfl, HB2.out⟩
  | true =>
    have hn40 : (n : Int) ≤ 40 := by have := (hfew rfl).1; omega
    have HS := hid (hfew rfl).short
    clear hfew
    go_wp2_with fail
    refine (p6right_any (H.out.on HB1.out) HS.out).mono ?_
    rintro e w2 ⟨rfl, hb2⟩
    have HB2 := hid (Bt HB1.out hb2); clear hb2
    cases hr : rightL l with
    | false =>
      clear hr
      go_wp2_with fail
      refine (alive_any _).mono ?_
      rintro e w3 ⟨rfl, hb3⟩
      have HB3 := hid (Bt HB2.out hb3); clear hb3
      go_wp2_with fail
      go_ret
      exact ⟨rfl, HB3.out⟩
    | true =>
      have HR := hid hr
      have hTN := layN_bounds hr
      have HTT : Hid (layT l = layN l) := layT_right hr
      clear hr
      go_wp2_with fail
      refine (p6new_any (H.out.on HB2.out) HS.out).mono ?_
      rintro e w3 ⟨v3, rfl, ho3, hb3⟩
      rw [HTT.out] at ho3
      obtain ⟨A3, c3, rfl, hr3⟩ := ho3.rd
      obtain ⟨Z, hZ⟩ : ∃ Z, Z = List.replicate (layN l).toNat (0 : UInt8) := ⟨_, rfl⟩
      rw [← hZ] at hr3 ⊢
      have hZl : Z.length ≤ 100000 := by rw [hZ, List.length_replicate]; omega
      obtain ⟨zn, hzn⟩ : ∃ zn, zn = Z.length := ⟨_, rfl⟩
      rw [← hzn] at hr3 hZl ⊢
      have HR3 := hid hr3; have HZ := hid hZ; have HZL := hid hZl
      have HB3 := hid (Bt HB2.out hb3)
      clear ho3 hr3 hb3 hZ hZl hzn
      go_wp2_with fail
      go_loopw [21] (fun i wr => ∃ j : Nat, j ≤ n ∧ i = .int .i64 j ∧ Hid (Below w3.heap.size w3 wr)) (fun i _ => n - (intOf i).toNat)
      case atStart => exact ⟨0, by omega, rfl, B0 _⟩
      case round =>
        obtain ⟨j, hj, rfl, HBr⟩ := hrel
        have HB := hid (Bt HB3.out HBr.out)
        by_cases hlt : j < n
        · have hjl : j < l.length := by have := HL.out; omega
          obtain ⟨f, hf⟩ : ∃ f, l[j]? = some f := ⟨_, List.getElem?_eq_getElem hjl⟩
          obtain ⟨_, hk64, hg64, hnl, b, off, rfl, hc⟩ := H.out.at hf
          obtain ⟨c0, cc1, cc2⟩ := hc wr HB.out
          obtain ⟨zk, hzk⟩ : ∃ zk, zk = zeroK f.k f.g := ⟨_, rfl⟩
          obtain ⟨zt, hzt⟩ : ∃ zt, zt = zeroT f.k f.g := ⟨_, rfl⟩
          have HG : Hid (getR Z l f.nm = .tuple #[.agg #[.int .i64 zk, .int .u64 0, .string zt], .int .i64 0]) := by rw [HZ.out, hzk, hzt]; exact get_zero HR.out hf
          have HZK := hid hzk; have HZT := hid hzt
          obtain ⟨wa, hwa⟩ : ∃ wa, wa = wr.alloc (.cells #[.string (bs f.nm), .int .i64 f.k, .int .i64 f.g] 40) := ⟨_, rfl⟩
          have HWA := hid hwa
          obtain ⟨fb, hfb⟩ : ∃ fb, fb = wr.heap.size := ⟨_, rfl⟩
          have HFB := hid hfb
          have HFBK : Hid (FB wa fb (bs f.nm) f.k f.g) := by rw [hwa, hfb]; exact fb_new wr _ _ _
          have HBA : Hid (Below w3.heap.size w3 wa) := by rw [hwa]; exact Ba HBr.out _
          have hji : (j : Int) < n := by omega
          have hj0 : (0 : Int) ≤ j := by omega
          clear hc hjl hf hk64 hg64 hnl hzk hzt hwa hfb
          go_wp2_with fail
          rw [← HWA.out, ← HFB.out]
          refine (p6get_any (H.out.on (Bt HB3.out HBA.out)) HS.out (HR3.out.on HBA.out) HZL.out f.nm).mono ?_
          rintro e w4 ⟨rfl, hb4⟩
          rw [HG.out]
          have HB4 := hid (Bt HBA.out hb4); have HFB4 := hid (HFBK.out.on hb4)
          clear hb4 c0 cc1 cc2
          obtain ⟨w5, hw5⟩ : ∃ w5, w5 = w4.alloc (.cells #[.int .i64 zk, .int .u64 0, .string zt] 37) := ⟨_, rfl⟩
          obtain ⟨vb, hvb⟩ : ∃ vb, vb = w4.heap.size := ⟨_, rfl⟩
          have HW5 := hid hw5; have HVB := hid hvb
          have HV5 : Hid (VB w5 vb zk 0 zt) := by rw [hw5, hvb]; exact vb_new w4 _ _ _
          have hb5 : Below w4.heap.size w4 w5 := by rw [hw5]; exact B1 _ _
          have HB5 := hid (Bt HB4.out hb5); have HFB5 := hid (HFB4.out.on hb5)
          clear hw5 hvb hb5
          go_wp2_with fail
          rw [← HW5.out, ← HVB.out]
          refine reg_begin (by kernel_rfl) (fun w0a hx0a hHeld => ?_)
          have pf0 : ∀ w', Ext w0a w' → w'.cell? ⟨fb, 0, none⟩ = some (.string (bs f.nm)) := fun w' h => ((HFB5.out.on (hx0a.trans h)).cells).1
          have pf1 : ∀ w', Ext w0a w' → w'.cell? ⟨fb, 1, none⟩ = some (.int .i64 f.k) := fun w' h => ((HFB5.out.on (hx0a.trans h)).cells).2.1
          have pf2 : ∀ w', Ext w0a w' → w'.cell? ⟨fb, 2, none⟩ = some (.int .i64 f.g) := fun w' h => ((HFB5.out.on (hx0a.trans h)).cells).2.2
          have pv0 : ∀ w', Ext w0a w' → w'.cell? ⟨vb, 0, none⟩ = some (.int .i64 zk) := fun w' h => ((HV5.out.on (hx0a.trans h)).cells).1
          have pv1 : ∀ w', Ext w0a w' → w'.cell? ⟨vb, 1, none⟩ = some (.int .u64 0) := fun w' h => ((HV5.out.on (hx0a.trans h)).cells).2.1
          have pv2 : ∀ w', Ext w0a w' → w'.cell? ⟨vb, 2, none⟩ = some (.string zt) := fun w' h => ((HV5.out.on (hx0a.trans h)).cells).2.2
          refine reg_take 0 (v := ?vb0) at0 (by kernel_rfl) (by kernel_rfl) (by kernel_rfl) (by rfl) ?hyb0 hHeld ?restb0
          case hyb0 => (intro w' hSw; go_simp; try with_reducible rfl)
          try simp only [Act.put, List.setIfInBounds_toArray, List.set_cons_zero, List.set_cons_succ]
          refine reg_take 1 (v := ?vb1) (atS at0) (by kernel_rfl) (by kernel_rfl) (by kernel_rfl) (by rfl) ?hyb1 hHeld ?restb1
          case hyb1 => (intro w' hSw; go_simp; try with_reducible rfl)
          try simp only [Act.put, List.setIfInBounds_toArray, List.set_cons_zero, List.set_cons_succ]
          refine reg_take 2 (v := ?vb2) (atS (atS at0)) (by kernel_rfl) (by kernel_rfl) (by kernel_rfl) (by rfl) ?hyb2 hHeld ?restb2
          case hyb2 => (intro w' hSw; go_simp; try with_reducible rfl)
          try simp only [Act.put, List.setIfInBounds_toArray, List.set_cons_zero, List.set_cons_succ]
          refine reg_take 3 (v := ?vb3) (atS (atS (atS at0))) (by kernel_rfl) (by kernel_rfl) (by kernel_rfl) (by rfl) ?hyb3 hHeld ?restb3
          case hyb3 => (intro w' hSw; go_simp; try with_reducible rfl)
          try simp only [Act.put, List.setIfInBounds_toArray, List.set_cons_zero, List.set_cons_succ]
          refine reg_take 4 (v := ?vb4) (atS (atS (atS (atS at0)))) (by kernel_rfl) (by kernel_rfl) (by kernel_rfl) (by rfl) ?hyb4 hHeld ?restb4
          case hyb4 => (intro w' hSw; go_simp; try with_reducible rfl)
          try simp only [Act.put, List.setIfInBounds_toArray, List.set_cons_zero, List.set_cons_succ]
          refine wpAnyH_ready (rs := [5]) (by kernel_rfl) (by simp) ?_
          refine AllReadyH.cons (atS5 at0) (fun K hK => ?_) AllReadyH.nil
          go_simp
          refine (rzero_any (bs f.nm) f.k f.g _).mono ?_
          rintro e w6 ⟨rfl, hb6⟩
          rw [← HZK.out, ← HZT.out]
          have HB6 := hid hb6
          go_wp2_with fail
          refine hK.out _ _ HB6.out (fun hHeld => ?_)
          clear hK K
          try simp only [Act.put, List.setIfInBounds_toArray, List.set_cons_zero, List.set_cons_succ]
          refine reg_on HB6.out (fun hHeld => ?_)
          refine reg_take 6 (v := ?vb6) (atS5 (atS at0)) (by kernel_rfl) (by kernel_rfl) (by kernel_rfl) (by rfl) ?hyb6 hHeld ?restb6
          case hyb6 => (intro w' hSw; go_simp; try with_reducible rfl)
          try simp only [Act.put, List.setIfInBounds_toArray, List.set_cons_zero, List.set_cons_succ]
          refine reg_take 7 (v := ?vb7) (atS5 (atS (atS at0))) (by kernel_rfl) (by kernel_rfl) (by kernel_rfl) (by rfl) ?hyb7 hHeld ?restb7
          case hyb7 => (intro w' hSw; go_simp; try with_reducible rfl)
          try simp only [Act.put, List.setIfInBounds_toArray, List.set_cons_zero, List.set_cons_succ]
          refine wpAnyH_done (by kernel_rfl) ?_ _
          refine NoPanic.normal ?_
          clear pf0 pf1 pf2 pv0 pv1 pv2
          have HB7 := hid (Bt HB5.out (Bt hx0a HB6.out))
          go_wp2_with fail
          go_roundw
          case rel => exact ⟨j + 1, by omega, by simp, HB7⟩
          case measure => simp [intOf]; omega
        · obtain rfl : j = n := by omega
          go_wp2_with fail
          refine (alive_any _).mono ?_
          rintro e w4 ⟨rfl, hb4⟩
          have HB4 := hid (Bt HB.out hb4); clear hb4
          go_wp2_with fail
          go_ret
          exact ⟨rfl, HB4.out⟩

set_option maxRecDepth 20000 in
set_option maxHeartbeats 4000000 in
theorem walk_FieldApart (A : Option Addr) (n c : Nat) (l : List Fd) (w : World) (h : RdF w w.heap.size A n c l) :
    Calls Try.prog 6 #[.slice A n c] w fun e w' => e = .returned (.bool true) ∧ Below w.heap.size w w' := by
  have H := hid h; have HL := hid h.1
  clear h
  go_enter Try.func6, Try.ntmps6
  go_wp2_with fail
  refine (few6_any H.out).mono ?_
  rintro e w1 ⟨b, rfl, hfew, hb1⟩
  have HB1 := hid hb1; clear hb1
  cases b with
  | false =>
    clear hfew
    go_wp2_with fail
    refine (alive_any _).mono ?_
    rintro e w2 ⟨rfl, hb2⟩
    have HB2 := hid (Bt HB1.out hb2); clear hb2
    go_wp2_with fail
    go_ret
    exact ⟨rfl, HB2.out⟩
  | true =>
    have hn40 : (n : Int) ≤ 40 := by have := (hfew rfl).1; omega
    have HS := hid (hfew rfl).short
    clear hfew
    go_wp2_with fail
    refine (p6layout_any (H.out.on HB1.out) HS.out).mono ?_
    rintro e w2 ⟨v2, rfl, ho2, hb2⟩
    have HB2 := hid (Bt HB1.out hb2)
    obtain ⟨A2, c2, rfl, hr2⟩ := ho2.rd lay_I64
    cases hr : rightL l with
    | false =>
      rw [layL_wrong hr, layT_wrong hr]
      by_cases hn0 : n = 0
      · subst hn0
        exfalso
        have : l = [] := List.eq_nil_of_length_eq_zero HL.out
        rw [this] at hr; revert hr; decide
      · have t1 : ((0 : Int) != (n : Int)) = true := by simp; omega
        have t2 : ((0 : Int) == (n : Int)) = false := by simp; omega
        have t3 : ((n : Int) == 0) = false := by simp; omega
        clear hr ho2 hr2 hb2
        simp only [List.length_nil]
        go_wp2_with fail
        refine (alive_any _).mono ?_
        rintro e w3 ⟨rfl, hb3⟩
        have HB3 := hid (Bt HB2.out hb3); clear hb3
        go_wp2_with fail
        go_ret
        exact ⟨rfl, HB3.out⟩
    | true =>
      rw [layL_right hr] at hr2 ⊢
      rw [layT_right hr]
      rw [layP_length, HL.out] at hr2 ⊢
      have hTN := layN_bounds hr
      obtain ⟨T, hT⟩ : ∃ T, T = layN l := ⟨_, rfl⟩
      rw [← hT] at hTN ⊢
      have HT := hid hT; have HR := hid hr; have HR2 := hid hr2
      clear ho2 hr2 hb2 hr hT
      go_wp2_with fail
      go_loopw [5, 35] (fun a i wr => ∃ (j : Nat) (z : Int), j ≤ n ∧ i = .int .i64 j ∧ a = .int .i64 z ∧ Hid (z = layE 0 (l.take j)) ∧ Hid (Below w2.heap.size w2 wr)) (fun _ i _ => n - (intOf i).toNat)
      case atStart => exact ⟨0, 0, by omega, rfl, rfl, hid rfl, B0 _⟩
      case round =>
        obtain ⟨j, z, hj, rfl, rfl, HZ, HBr⟩ := hrel
        have HB := hid (Bt HB2.out HBr.out)
        by_cases hlt : j < n
        · have hjl : j < l.length := by have := HL.out; omega
          obtain ⟨f, hf⟩ : ∃ f, l[j]? = some f := ⟨_, List.getElem?_eq_getElem hjl⟩
          obtain ⟨_, hk64, hg64, hnl, b, off, rfl, hc⟩ := H.out.at hf
          obtain ⟨c0, cc1, cc2⟩ := hc wr HB.out
          have hfm := right_may HR.out f (List.mem_of_getElem? hf)
          have hpg := layP_get hf 0
          rw [← HZ.out] at hpg
          obtain ⟨p, hp⟩ : ∃ p, p = placeF z f := ⟨_, rfl⟩
          rw [← hp] at hpg
          have hin := lay_in HR.out hf hpg
          have hz0 : 0 ≤ z := by rw [HZ.out]; exact (layE_bounds _ _ (fun g hg => right_may HR.out g (List.mem_of_mem_take hg)) (Int.le_refl _)).1
          have hge := place_ge hfm hz0
          rw [← hp] at hge
          have hlp := long_pos hfm
          obtain ⟨b2, off2, rfl, hbl2, hc2⟩ := HR2.out.2.2.2.2 (by omega)
          have hpl : j < (layP 0 l).length := by rw [layP_length]; exact hjl
          have hpe : (layP 0 l)[j] = p := by rw [List.getElem?_eq_getElem hpl] at hpg; cases hpg; rfl
          have hcp := hc2 j hpl
          rw [hpe] at hcp
          obtain ⟨L, hLL⟩ : ∃ L, L = longF f.k f.g := ⟨_, rfl⟩
          have hfl : f.long = L := hLL.symm
          rw [hfl] at hin hge hlp
          have HLL := hid hLL
          have HCP : Hid (∀ w', Below w2.heap.size w2 w' → w'.cell? ⟨b2, off2 + j, none⟩ = some (.int .i64 p)) := fun w' hb => (hb.cell (p := ⟨b2, off2 + j, none⟩) hbl2).trans hcp
          have HEND : Hid (p + L = layE 0 (l.take (j + 1))) := hin.2.2.2
          obtain ⟨wa, hwa⟩ : ∃ wa, wa = wr.alloc (.cells #[.string (bs f.nm), .int .i64 f.k, .int .i64 f.g] 40) := ⟨_, rfl⟩
          have HWA := hid hwa
          obtain ⟨fb, hfb⟩ : ∃ fb, fb = wr.heap.size := ⟨_, rfl⟩
          have HFB := hid hfb
          have HFBK : Hid (FB wa fb (bs f.nm) f.k f.g) := by rw [hwa, hfb]; exact fb_new wr _ _ _
          have HBA : Hid (Below w2.heap.size w2 wa) := by rw [hwa]; exact Ba HBr.out _
          have hji : (j : Int) < n := by omega
          have hj0 : (0 : Int) ≤ j := by omega
          have hp0 : 0 ≤ p := hin.1
          have hp1 : p + L ≤ 1160 := by have := HT.out; omega
          have hL1 : 1 ≤ L := hlp.1
          have d1 : decide (p < z) = false := decide_eq_false (by omega)
          have d2 : decide (L < 1) = false := decide_eq_false (by omega)
          have q1 : IntKind.i64.wrap (p + L) = p + L := by rw [IntKind.wrap_i64]; omega
          have tmod : p.tmod L = p % L := Int.tmod_eq_emod_of_nonneg hp0
          have hL0 : (L == 0) = false := by rw [beq_eq_false_iff_ne]; omega
          have hLn : L ≠ 0 := by omega
          have HMOD : Hid (f.k ≠ 12 → p % L = 0) := fun h => (hge.2.2 h).1
          clear hc hc2 hjl hf hk64 hg64 hnl hpg hin hge hlp hpe hcp hLL hfl hwa hfb hfm hp hpl
          go_wp2_with fail
          rw [← HWA.out, ← HFB.out]
          refine (rlong_any (bs f.nm) f.k f.g _).mono ?_
          rintro e w4 ⟨rfl, hb4⟩
          rw [← HLL.out]
          have HB4 := hid (Bt HBA.out hb4); have HFB4 := hid (HFBK.out.on hb4)
          obtain ⟨k0, k1, k2⟩ := HFB4.out.cells
          have pp := HCP.out w4 HB4.out
          clear hb4 c0 cc1 cc2
          by_cases h12 : f.k = 12
          · have t12 : (f.k != 12) = false := by rw [h12]; rfl
            have t12' : (f.k == 12) = true := by rw [h12]; rfl
            clear h12
            go_wp2_with fail
            go_roundw
            case rel => exact ⟨j + 1, p + L, by omega, by simp, rfl, HEND, HB4⟩
            case measure => simp [intOf]; omega
          · have hm0 := HMOD.out h12
            have t12 : (f.k != 12) = true := by simpa using h12
            have t12' : (f.k == 12) = false := by simpa using h12
            have tne : (p % L != 0) = false := by rw [hm0]; rfl
            clear h12 hm0
            go_wp2_with fail
            go_roundw
            case rel => exact ⟨j + 1, p + L, by omega, by simp, rfl, HEND, HB4⟩
            case measure => simp [intOf]; omega
        · obtain rfl : j = n := by omega
          have et : l.take j = l := by rw [← HL.out]; exact List.take_length
          rw [et] at HZ
          have hup := up8_ge z
          have hTz : T = up8 z := by rw [HT.out, layN, HZ.out]
          rw [← hTz] at hup
          obtain ⟨u1, u2, u3⟩ := hup
          have hz0 : 0 ≤ z := by rw [HZ.out]; exact (layE_bounds _ _ (fun g hg => right_may HR.out g hg) (Int.le_refl _)).1
          have d1 : decide (z ≤ T) = true := decide_eq_true u1
          have q8 : IntKind.i64.wrap (z + 8) = z + 8 := by rw [IntKind.wrap_i64]; omega
          have d2 : decide (T < z + 8) = true := decide_eq_true u2
          have tmod : T.tmod 8 = 0 := by rw [Int.tmod_eq_emod_of_nonneg (by omega)]; exact u3
          clear et hTz
          go_wp2_with fail
          refine (alive_any _).mono ?_
          rintro e w4 ⟨rfl, hb4⟩
          have HB4 := hid (Bt HB.out hb4); clear hb4
          go_wp2_with fail
          go_ret
          exact ⟨rfl, HB4.out⟩
end Go.Proofs.Ytggfcbncjkpkgaa

namespace Go.Proofs.Ytggfcbncjkpkgaa
open Go.RowKit
set_option linter.unusedVariables false

theorem ref_get {l : List Fd} {j : Nat} {f : Fd} (h : l[j]? = some f) (h11 : f.k = 11) (a : Int) : (refP a l)[(refP a (l.take j)).length]? = some (placeF (layE a (l.take j)) f) := by
  have e : refP a l = refP a (l.take (j + 1)) ++ refP (layE a (l.take (j + 1))) (l.drop (j + 1)) := by rw [← refP_append, List.take_append_drop]
  rw [e, refP_take h, if_pos h11, List.append_assoc, List.getElem?_append_right (Nat.le_refl _), Nat.sub_self]
  rfl
theorem refL_right {l : List Fd} (h : rightL l = true) : refL l = refP 0 l := by unfold refL; rw [h]; rfl

set_option maxRecDepth 20000 in
set_option maxHeartbeats 4000000 in
theorem walk_FieldRefs (A : Option Addr) (n c : Nat) (l : List Fd) (w : World) (h : RdF w w.heap.size A n c l) :
    Calls Try.prog 8 #[.slice A n c] w fun e w' => e = .returned (.bool true) ∧ Below w.heap.size w w' := by
  have H := hid h; have HL := hid h.1
  clear h
  go_enter Try.func8, Try.ntmps8
  go_wp2_with fail
  refine (few6_any H.out).mono ?_
  rintro e w1 ⟨b, rfl, hfew, hb1⟩
  have HB1 := hid hb1; clear hb1
  cases b with
  | false =>
    clear hfew
    go_wp2_with fail
    refine (alive_any _).mono ?_
    rintro e w2 ⟨rfl, hb2⟩
    have HB2 := hid (Bt HB1.out hb2); clear hb2
    go_wp2_with fail
    go_ret
    exact ⟨rfl, HB2.out⟩
  | true =>
    have hn40 : (n : Int) ≤ 40 := by have := (hfew rfl).1; omega
    have HS := hid (hfew rfl).short
    clear hfew
    go_wp2_with fail
    refine (p6right_any (H.out.on HB1.out) HS.out).mono ?_
    rintro e w2 ⟨rfl, hb2⟩
    have HB2 := hid (Bt HB1.out hb2); clear hb2
    cases hr : rightL l with
    | false =>
      clear hr
      go_wp2_with fail
      refine (alive_any _).mono ?_
      rintro e w3 ⟨rfl, hb3⟩
      have HB3 := hid (Bt HB2.out hb3); clear hb3
      go_wp2_with fail
      go_ret
      exact ⟨rfl, HB3.out⟩
    | true =>
      have HR := hid hr
      go_wp2_with fail
      refine (p6layout_any (H.out.on HB2.out) HS.out).mono ?_
      rintro e w3 ⟨v3, rfl, ho3, hb3⟩
      have HB3 := hid (Bt HB2.out hb3)
      obtain ⟨A3, c3, rfl, hr3⟩ := ho3.rd lay_I64
      rw [layL_right hr] at hr3 ⊢
      rw [layP_length, HL.out] at hr3 ⊢
      have HR3 := hid hr3
      clear ho3 hr3 hb3 hr
      go_wp2_with fail
      refine (p6refs_any (H.out.on HB3.out) HS.out).mono ?_
      rintro e w4 ⟨v4, rfl, ho4, hb4⟩
      have hrI : ∀ x ∈ refL l, I64 x := fun x hx => by
        have := ref_bd hx
        exact i64_iff.2 (by omega)
      obtain ⟨A4, c4, rfl, hr4⟩ := ho4.rd hrI
      rw [refL_right HR.out] at hr4 ⊢
      obtain ⟨K, hK⟩ : ∃ K, K = (refP 0 l).length := ⟨_, rfl⟩
      rw [← hK] at hr4 ⊢
      have hK40 : (K : Int) ≤ 40 := by have := refP_le l 0; have := HL.out; omega
      have HB4 := hid (Bt HB3.out hb4); have HR4 := hid hr4; have HK := hid hK; have HR34 := hid (HR3.out.on hb4)
      clear ho4 hr4 hb4 hrI hK
      go_wp2_with fail
      go_loopw [6, 27] (fun m i wr => ∃ (j N : Nat), j ≤ n ∧ i = .int .i64 j ∧ m = .int .i64 N ∧ N ≤ 40 ∧ Hid (N = (refP 0 (l.take j)).length) ∧ Hid (Below w4.heap.size w4 wr)) (fun _ i _ => n - (intOf i).toNat)
      case atStart => exact ⟨0, 0, by omega, rfl, rfl, by omega, hid (by simp [refP]), B0 _⟩
      case round =>
        obtain ⟨j, N, hj, rfl, rfl, hN40, HN, HBr⟩ := hrel
        have HB := hid (Bt HB4.out HBr.out)
        by_cases hlt : j < n
        · have hjl : j < l.length := by have := HL.out; omega
          obtain ⟨f, hf⟩ : ∃ f, l[j]? = some f := ⟨_, List.getElem?_eq_getElem hjl⟩
          obtain ⟨_, hk64, hg64, hnl, b, off, rfl, hc⟩ := H.out.at hf
          obtain ⟨c0, cc1, cc2⟩ := hc wr HB.out
          have HF := hid hf
          obtain ⟨wa, hwa⟩ : ∃ wa, wa = wr.alloc (.cells #[.string (bs f.nm), .int .i64 f.k, .int .i64 f.g] 40) := ⟨_, rfl⟩
          have HWA := hid hwa
          have HBA : Hid (Below w4.heap.size w4 wa) := by rw [hwa]; exact Ba HBr.out _
          have hji : (j : Int) < n := by omega
          have hj0 : (0 : Int) ≤ j := by omega
          clear hc hjl hk64 hg64 hnl hwa
          by_cases h11 : f.k = 11
          · have t1 : (f.k != 11) = false := by rw [h11]; rfl
            have t1' : (f.k == 11) = true := by rw [h11]; rfl
            have hg := ref_get hf h11 0
            rw [← HN.out] at hg
            have hNK : N < K := by
              by_cases cc : N < (refP 0 l).length
              · rw [HK.out]; exact cc
              · rw [List.getElem?_eq_none (by omega)] at hg; cases hg
            obtain ⟨p, hp⟩ : ∃ p, p = placeF (layE 0 (l.take j)) f := ⟨_, rfl⟩
            rw [← hp] at hg
            have hpl := layP_get hf 0
            rw [← hp] at hpl
            obtain ⟨b3, off3, hA3, hbl3, hc3⟩ := HR34.out.2.2.2.2 (by omega)
            obtain ⟨b4, off4, hA4, hbl4, hc4⟩ := HR4.out.2.2.2.2 (by omega)
            subst hA3; subst hA4
            have hl3 : j < (layP 0 l).length := by rw [layP_length]; have := HL.out; omega
            have hl4 : N < (refP 0 l).length := by rw [← HK.out]; exact hNK
            have e3 : (layP 0 l)[j] = p := by rw [List.getElem?_eq_getElem hl3] at hpl; cases hpl; rfl
            have e4 : (refP 0 l)[N] = p := by rw [List.getElem?_eq_getElem hl4] at hg; cases hg; rfl
            have p3 : wa.cell? ⟨b3, off3 + j, none⟩ = some (.int .i64 p) := by rw [← e3]; exact (HBA.out.cell (p := ⟨b3, off3 + j, none⟩) hbl3).trans (hc3 j hl3)
            have p4 : wa.cell? ⟨b4, off4 + N, none⟩ = some (.int .i64 p) := by rw [← e4]; exact (HBA.out.cell (p := ⟨b4, off4 + N, none⟩) hbl4).trans (hc4 N hl4)
            rw [HWA.out] at p3 p4
            have d1 : decide ((K : Int) ≤ (N : Int)) = false := decide_eq_false (by omega)
            have d2 : decide ((n : Int) ≤ (j : Int)) = false := decide_eq_false (by omega)
            have d1n : decide (K ≤ N) = false := decide_eq_false (by omega)
            have d2n : decide (n ≤ j) = false := decide_eq_false (by omega)
            have hNi : (N : Int) < K := by omega
            have HN2 : Hid (N + 1 = (refP 0 (l.take (j + 1))).length) := by
              show _ = _; rw [refP_take HF.out, if_pos h11, List.length_append, ← HN.out]; rfl
            clear h11 hf hg hp hpl hc3 hc4 e3 e4
            go_wp2_with fail
            refine reg_begin (by kernel_rfl) (fun w0a hx0a hHeld => ?_)
            have pp3 : ∀ w', Ext w0a w' → w'.cell? ⟨b3, off3 + j, none⟩ = some (.int .i64 p) := fun w' h => ((hx0a.trans h).cell (p := ⟨b3, off3 + j, none⟩) (Nat.lt_of_lt_of_le hbl3 (Nat.le_trans HBr.out.size (B1 wr _).size))).trans p3
            have pp4 : ∀ w', Ext w0a w' → w'.cell? ⟨b4, off4 + N, none⟩ = some (.int .i64 p) := fun w' h => ((hx0a.trans h).cell (p := ⟨b4, off4 + N, none⟩) (Nat.lt_of_lt_of_le hbl4 (Nat.le_trans HBr.out.size (B1 wr _).size))).trans p4
            refine reg_take 0 (v := ?vb0) at0 (by kernel_rfl) (by kernel_rfl) (by kernel_rfl) (by rfl) ?hyb0 hHeld ?restb0
            case hyb0 => (intro w' hSw; go_simp; try with_reducible rfl)
            try simp only [Act.put, List.setIfInBounds_toArray, List.set_cons_zero, List.set_cons_succ]
            refine reg_take 1 (v := ?vb1) (atS at0) (by kernel_rfl) (by kernel_rfl) (by kernel_rfl) (by rfl) ?hyb1 hHeld ?restb1
            case hyb1 => (intro w' hSw; go_simp; try with_reducible rfl)
            try simp only [Act.put, List.setIfInBounds_toArray, List.set_cons_zero, List.set_cons_succ]
            refine reg_take 2 (v := ?vb2) (atS (atS at0)) (by kernel_rfl) (by kernel_rfl) (by kernel_rfl) (by rfl) ?hyb2 hHeld ?restb2
            case hyb2 => (intro w' hSw; go_simp; try with_reducible rfl)
            try simp only [Act.put, List.setIfInBounds_toArray, List.set_cons_zero, List.set_cons_succ]
            refine reg_take 3 (v := ?vb3) (atS (atS (atS at0))) (by kernel_rfl) (by kernel_rfl) (by kernel_rfl) (by rfl) ?hyb3 hHeld ?restb3
            case hyb3 => (intro w' hSw; go_simp; try with_reducible rfl)
            try simp only [Act.put, List.setIfInBounds_toArray, List.set_cons_zero, List.set_cons_succ]
            refine reg_take 4 (v := ?vb4) (atS (atS (atS (atS at0)))) (by kernel_rfl) (by kernel_rfl) (by kernel_rfl) (by rfl) ?hyb4 hHeld ?restb4
            case hyb4 => (intro w' hSw; go_simp; try with_reducible rfl)
            try simp only [Act.put, List.setIfInBounds_toArray, List.set_cons_zero, List.set_cons_succ]
            refine reg_take 5 (v := ?vb5) (atS5 at0) (by kernel_rfl) (by kernel_rfl) (by kernel_rfl) (by rfl) ?hyb5 hHeld ?restb5
            case hyb5 => (intro w' hSw; go_simp; try with_reducible rfl)
            try simp only [Act.put, List.setIfInBounds_toArray, List.set_cons_zero, List.set_cons_succ]
            refine reg_take 6 (v := ?vb6) (atS5 (atS at0)) (by kernel_rfl) (by kernel_rfl) (by kernel_rfl) (by rfl) ?hyb6 hHeld ?restb6
            case hyb6 => (intro w' hSw; go_simp; try with_reducible rfl)
            try simp only [Act.put, List.setIfInBounds_toArray, List.set_cons_zero, List.set_cons_succ]
            refine reg_take 7 (v := ?vb7) (atS5 (atS (atS at0))) (by kernel_rfl) (by kernel_rfl) (by kernel_rfl) (by rfl) ?hyb7 hHeld ?restb7
            case hyb7 => (intro w' hSw; go_simp; try with_reducible rfl)
            try simp only [Act.put, List.setIfInBounds_toArray, List.set_cons_zero, List.set_cons_succ]
            refine reg_take 8 (v := ?vb8) (atS5 (atS (atS (atS at0)))) (by kernel_rfl) (by kernel_rfl) (by kernel_rfl) (by rfl) ?hyb8 hHeld ?restb8
            case hyb8 => (intro w' hSw; go_simp; try with_reducible rfl)
            try simp only [Act.put, List.setIfInBounds_toArray, List.set_cons_zero, List.set_cons_succ]
            refine reg_take 9 (v := ?vb9) (atS5 (atS (atS (atS (atS at0))))) (by kernel_rfl) (by kernel_rfl) (by kernel_rfl) (by rfl) ?hyb9 hHeld ?restb9
            case hyb9 => (intro w' hSw; go_simp; try with_reducible rfl)
            try simp only [Act.put, List.setIfInBounds_toArray, List.set_cons_zero, List.set_cons_succ]
            refine reg_take 10 (v := ?vb10) (atS5 (atS5 at0)) (by kernel_rfl) (by kernel_rfl) (by kernel_rfl) (by rfl) ?hyb10 hHeld ?restb10
            case hyb10 => (intro w' hSw; go_simp; try with_reducible rfl)
            try simp only [Act.put, List.setIfInBounds_toArray, List.set_cons_zero, List.set_cons_succ]
            refine reg_take 11 (v := ?vb11) (atS5 (atS5 (atS at0))) (by kernel_rfl) (by kernel_rfl) (by kernel_rfl) (by rfl) ?hyb11 hHeld ?restb11
            case hyb11 => (intro w' hSw; go_simp; try with_reducible rfl)
            try simp only [Act.put, List.setIfInBounds_toArray, List.set_cons_zero, List.set_cons_succ]
            refine reg_take 12 (v := ?vb12) (atS5 (atS5 (atS (atS at0)))) (by kernel_rfl) (by kernel_rfl) (by kernel_rfl) (by rfl) ?hyb12 hHeld ?restb12
            case hyb12 => (intro w' hSw; go_simp; try with_reducible rfl)
            try simp only [Act.put, List.setIfInBounds_toArray, List.set_cons_zero, List.set_cons_succ]
            refine reg_take 13 (v := ?vb13) (atS5 (atS5 (atS (atS (atS at0))))) (by kernel_rfl) (by kernel_rfl) (by kernel_rfl) (by rfl) ?hyb13 hHeld ?restb13
            case hyb13 => (intro w' hSw; go_simp; try with_reducible rfl)
            try simp only [Act.put, List.setIfInBounds_toArray, List.set_cons_zero, List.set_cons_succ]
            refine reg_take 14 (v := ?vb14) (atS5 (atS5 (atS (atS (atS (atS at0)))))) (by kernel_rfl) (by kernel_rfl) (by kernel_rfl) (by rfl) ?hyb14 hHeld ?restb14
            case hyb14 => (intro w' hSw; go_simp; try with_reducible rfl)
            try simp only [Act.put, List.setIfInBounds_toArray, List.set_cons_zero, List.set_cons_succ]
            refine reg_take 15 (v := ?vb15) (atS5 (atS5 (atS5 at0))) (by kernel_rfl) (by kernel_rfl) (by kernel_rfl) (by rfl) ?hyb15 hHeld ?restb15
            case hyb15 => (intro w' hSw; go_simp; try with_reducible rfl)
            try simp only [Act.put, List.setIfInBounds_toArray, List.set_cons_zero, List.set_cons_succ]
            refine reg_take 16 (v := ?vb16) (atS5 (atS5 (atS5 (atS at0)))) (by kernel_rfl) (by kernel_rfl) (by kernel_rfl) (by rfl) ?hyb16 hHeld ?restb16
            case hyb16 => (intro w' hSw; go_simp; try with_reducible rfl)
            try simp only [Act.put, List.setIfInBounds_toArray, List.set_cons_zero, List.set_cons_succ]
            refine reg_take 17 (v := ?vb17) (atS5 (atS5 (atS5 (atS (atS at0))))) (by kernel_rfl) (by kernel_rfl) (by kernel_rfl) (by rfl) ?hyb17 hHeld ?restb17
            case hyb17 => (intro w' hSw; go_simp; try with_reducible rfl)
            try simp only [Act.put, List.setIfInBounds_toArray, List.set_cons_zero, List.set_cons_succ]
            refine reg_take 18 (v := ?vb18) (atS5 (atS5 (atS5 (atS (atS (atS at0)))))) (by kernel_rfl) (by kernel_rfl) (by kernel_rfl) (by rfl) ?hyb18 hHeld ?restb18
            case hyb18 => (intro w' hSw; go_simp; try with_reducible rfl)
            try simp only [Act.put, List.setIfInBounds_toArray, List.set_cons_zero, List.set_cons_succ]
            refine reg_take 19 (v := ?vb19) (atS5 (atS5 (atS5 (atS (atS (atS (atS at0))))))) (by kernel_rfl) (by kernel_rfl) (by kernel_rfl) (by rfl) ?hyb19 hHeld ?restb19
            case hyb19 => (intro w' hSw; go_simp; try with_reducible rfl)
            try simp only [Act.put, List.setIfInBounds_toArray, List.set_cons_zero, List.set_cons_succ]
            refine reg_take 20 (v := ?vb20) (atS5 (atS5 (atS5 (atS5 at0)))) (by kernel_rfl) (by kernel_rfl) (by kernel_rfl) (by rfl) ?hyb20 hHeld ?restb20
            case hyb20 => (intro w' hSw; go_simp; try with_reducible rfl)
            try simp only [Act.put, List.setIfInBounds_toArray, List.set_cons_zero, List.set_cons_succ]
            refine wpAnyH_done (by kernel_rfl) ?_ _
            refine NoPanic.normal ?_
            clear pp3 pp4
            have HBn : Hid (Below w4.heap.size w4 w0a) := Bt (Ba HBr.out _) hx0a
            go_wp2_with fail
            go_roundw
            case rel => exact ⟨j + 1, N + 1, by omega, by simp, by simp, by omega, HN2, HBn⟩
            case measure => simp [intOf]; omega
          · have t1 : (f.k != 11) = true := by simpa using h11
            have t1' : (f.k == 11) = false := by simpa using h11
            have HN2 : Hid (N = (refP 0 (l.take (j + 1))).length) := by
              show _ = _; rw [refP_take HF.out, if_neg h11, List.append_nil]; exact HN.out
            clear h11 hf
            go_wp2_with fail
            exact ⟨⟨j + 1, N, by omega, by go_num, rfl, by omega, HN2, Ba HBr.out _⟩, by simp [intOf]; omega⟩
        · obtain rfl : j = n := by omega
          have et : l.take j = l := by rw [← HL.out]; exact List.take_length
          rw [et] at HN
          have hNK : N = K := by rw [HN.out, HK.out]
          subst hNK
          clear et
          go_wp2_with fail
          refine (alive_any _).mono ?_
          rintro e w5 ⟨rfl, hb5⟩
          have HB5 := hid (Bt HB.out hb5); clear hb5
          go_wp2_with fail
          go_ret
          exact ⟨rfl, HB5.out⟩
end Go.Proofs.Ytggfcbncjkpkgaa
