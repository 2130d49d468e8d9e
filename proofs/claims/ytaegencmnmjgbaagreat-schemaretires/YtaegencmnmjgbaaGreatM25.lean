/-
  The program's Get of layer 6.
  The program's Set of layer 6.
-/
import Derived.Test.YtaegencmnmjgbaaGreatM24
import Derived.Test.YtaegencmnmjgbaaGreatM19
import Derived.Test.YtaegencmnmjgbaaGreatM14
import Derived.Test.YtaegencmnmjgbaaGreatM12

namespace Go.Proofs.YtaegencmnmjgbaaGreat
open Go.RowKit
set_option linter.unusedVariables false
theorem Rd.sub {w : World} {B b off n c p m : Nat} {s : List UInt8} (h : Rd w B (some ⟨b, off, none⟩) n c s) (hp : p + m ≤ n) (hc : p < c) : Rd w B (some ⟨b, off + p, none⟩) m (c - p) ((s.drop p).take m) := by
  have h1 := h.drop (k := p) (by omega)
  rw [if_neg (by omega)] at h1
  have h2 := h1.take (m := m) (by omega)
  simpa [add_plain] using h2
theorem seek_get {s : List UInt8} {n : Nat} (hn : s.length = n) (l : List Fd) (nm : List UInt8) :
    (∃ x : Int, x ≠ 0 ∧ seekO n l nm = (⟨[], 0, 0⟩, 0, x) ∧ getR s l nm = .tuple #[.agg #[.int .i64 0, .int .u64 0, .string ⟨#[]⟩], .int .i64 x] ∧ (x = 60 ∨ x = 61) ∧ ∀ vk k t, setS6 s l nm vk k t = ([], x)) ∨
    (∃ (f : Fd) (p m : Nat), seekO n l nm = (f, (p : Int), 0) ∧ (m : Int) = longF f.k f.g ∧ 1 ≤ m ∧ m ≤ 64 ∧ p + m ≤ n ∧ n ≤ 1160 ∧ f.may = true ∧ f ∈ l ∧ getR s l nm = decR ((s.drop p).take m) f.k f.g ∧
      ∀ vk k t, setS6 s l nm vk k t = if rightF vk k t.size f.k f.g then (setL s p (encB vk k t f.k f.g), 0) else ([], 50)) := by
  subst hn
  by_cases hc : rightL l = true ∧ (s.length : Int) = layN l
  · cases hf : findN l nm with
    | none => exact .inl ⟨61, by decide, seek_none hc hf, getR_none hc hf, .inr rfl, fun vk k t => set_none hc hf⟩
    | some i =>
      obtain ⟨f, hi, _, _⟩ := findN_get hf
      obtain ⟨p, hp⟩ : ∃ p, (layP 0 l)[i]? = some p := ⟨_, layP_get hi 0⟩
      have hbd := lay_in hc.1 hi hp
      have hmm := right_may hc.1 f (List.mem_of_getElem? hi)
      have hlp := long_pos hmm
      have hlb := layN_bounds hc.1
      have hfl : f.long = longF f.k f.g := rfl
      refine .inr ⟨f, p.toNat, f.long.toNat, ?_, by omega, by omega, by omega, by omega, by omega, hmm, List.mem_of_getElem? hi, getR_some hc hf hi hp, fun vk k t => set_some hc hf hi hp⟩
      rw [seek_some hc hf hi hp]
      congr 2
      omega
  · exact .inl ⟨60, by decide, seek_form hc, getR_form hc, .inl rfl, fun vk k t => set_form hc⟩
set_option maxRecDepth 20000 in
set_option maxHeartbeats 4000000 in
theorem p6get_any {w : World} {A : Option Addr} {n c : Nat} {l : List Fd} (h : RdF w w.heap.size A n c l) (hs : short l) {A2 : Option Addr} {n2 c2 : Nat} {s : List UInt8} (h2 : Rd w w.heap.size A2 n2 c2 s) (hsl : n2 ≤ 100000) (nm : List UInt8) :
    Calls Tryz.prog 89 #[.slice A2 n2 c2, .slice A n c, .string (bs nm)] w fun e w' => e = .returned (getR s l nm) ∧ Below w.heap.size w w' := by
  have H := hid h; have HS := hid hs; have H2 := hid h2; clear h hs
  obtain ⟨w0, hw0⟩ : ∃ w0, w0 = w.alloc (.cells #[.int .i64 0, .int .u64 0, .string ⟨#[]⟩] 71) := ⟨_, rfl⟩
  have HW0 := hid hw0
  have HB0 : Hid (Below w.heap.size w w0) := by rw [hw0]; exact B1 _ _
  obtain ⟨bx, hbx⟩ : ∃ bx, bx = w.heap.size := ⟨_, rfl⟩
  have HBX := hid hbx
  have HV0 : Hid (VB w0 bx 0 0 ⟨#[]⟩) := by rw [hw0, hbx]; exact vb_new w 0 0 ⟨#[]⟩
  have HBl : Hid (w.heap.size ≤ bx) := by rw [hbx]; exact Nat.le_refl _
  have HSG := hid (seek_get h2.1 l nm)
  clear hw0 hbx h2
  go_enter Tryz.func89, Tryz.ntmps89
  go_wp2_with fail
  rw [← HW0.out, ← HBX.out]
  refine (seek_any (H.out.on HB0.out) HS.out A2 n2 c2 nm).mono ?_
  rintro e w1 ⟨rfl, hb1⟩
  have HBW1 := hid (Bt HB0.out hb1)
  have HV1 := hid (HV0.out.on hb1)
  clear hb1
  rcases HSG.out with ⟨x, hx0, hsk, hgt, hx1, -⟩ | ⟨f, p, m, hsk, hm, hm1, hm64, hpm, hn1160, hmay, hfl, hgt, -⟩
  · rw [hsk]
    have HE := hid hgt
    have t1 : (x != 0) = true := by simpa using hx0
    have HVa := hid (HV1.out.alloc (.cells #[.string (bs []), .int .i64 0, .int .i64 0] 68))
    obtain ⟨v0, vv1, vv2⟩ := HVa.out.cells
    have g0 := HVa.out.frozen 0; have g1 := HVa.out.frozen 1; have g2 := HVa.out.frozen 2
    clear hsk hgt hx0 hx1
    dsimp only [fv]
    go_wp2_with fail
    exact ret_VBe (by rfl) (by rfl) (HVa.out.set3 0 0 ⟨#[]⟩) (by rfl) (by rfl) ⟨by rw [HE.out]; rfl, B3 (Ba HBW1.out _) HBl.out _ _ _⟩
  · rw [hsk]
    have HE := hid hgt
    obtain ⟨w3, hw3⟩ : ∃ w3, w3 = w1.alloc (.cells #[.string (bs f.nm), .int .i64 f.k, .int .i64 f.g] 68) := ⟨_, rfl⟩
    obtain ⟨q, hq⟩ : ∃ q, q = w1.heap.size := ⟨_, rfl⟩
    have HW3 := hid hw3; have HQ := hid hq
    have HF3 : Hid (FB w3 q (bs f.nm) f.k f.g) := by rw [hw3, hq]; exact fb_new w1 _ _ _
    have HV3 : Hid (VB w3 bx 0 0 ⟨#[]⟩) := by rw [hw3]; exact HV1.out.alloc _
    have HBW3 : Hid (Below w.heap.size w w3) := by rw [hw3]; exact Ba HBW1.out _
    obtain ⟨b2, off2, rfl, hbl2, hc2⟩ := H2.out.2.2.2.2 (by omega)
    have hc2n := H2.out.2.1
    obtain ⟨x, hx⟩ : ∃ x, x = (s.drop p).take m := ⟨_, rfl⟩
    rw [← hx] at HE
    have HLL : Hid (longF f.k f.g = (m : Int)) := hm.symm
    have hqb : q ≠ bx := by have := HV1.out.lt; omega
    have HGB : Hid (∀ w', w3.grownBy w' (some bx) → Below w.heap.size w w') := fun w' hg => HBW3.out.grown hg HBW3.out.size (fun j hj => by cases hj; exact HBl.out)
    have HRX : Hid (∀ w', w3.grownBy w' (some bx) → Rd w' w'.heap.size (some ⟨b2, off2 + p, none⟩) m (c2 - p) x) := fun w' hg => by
      rw [hx]; exact (H2.out.on (HGB.out w' hg)).sub hpm (by omega)
    have HFX : Hid (∀ w', w3.grownBy w' (some bx) → FB w' q (bs f.nm) f.k f.g) := fun w' hg => (hg.block q HF3.out.lt (by simpa using hqb)).trans HF3.out
    have q1 : IntKind.i64.wrap ((p : Int) + (m : Int)) = (p : Int) + (m : Int) := by rw [IntKind.wrap_i64]; omega
    have tn : ((p : Int) + (m : Int)).toNat = p + m := by omega
    have s0 : 0 ≤ (p : Int) + (m : Int) := by omega
    have s1 : (p : Int) ≤ (p : Int) + (m : Int) := by omega
    have s2 : (p : Int) + (m : Int) ≤ (c2 : Int) := by omega
    have s3 : p + m ≤ c2 := by omega
    have s4 : ¬ c2 = p := by omega
    have s5 : p + m - p = m := by omega
    clear hsk hgt hw3 hq hx hc2 hbl2 hm hqb hpm hc2n hmay hfl hn1160
    dsimp only [fv]
    go_wp2_with fail
    rw [← HW3.out, ← HQ.out]
    cases hd : decB x f.k f.g with
    | true =>
      have HDR : Hid (decR x f.k f.g = _) := decR_ok hd
      rw [HDR.out] at HE
      clear hd
      refine reg_beginO (some bx) (by kernel_rfl) (fun w0a hh0a hx0a hHeld => ?_)
      have pf : ∀ w', ExO (some bx) w0a w' → FB w' q (bs f.nm) f.k f.g := fun w' h => HFX.out w' (ExO.trans hx0a h)
      have pf0 := fun w' h => (pf w' h).cells.1
      have pf1 := fun w' h => (pf w' h).cells.2.1
      have pf2 := fun w' h => (pf w' h).cells.2.2
      clear pf
      refine reg_takeO 0 (v := ?vb0) at0 (by kernel_rfl) (by kernel_rfl) (by kernel_rfl) (by rfl) ?hyb0 hHeld ?restb0
      case hyb0 => (intro w' hSw; go_simp; try with_reducible rfl)
      try simp only [Act.put, List.setIfInBounds_toArray, List.set_cons_zero, List.set_cons_succ]
      refine reg_takeO 1 (v := ?vb1) (atS at0) (by kernel_rfl) (by kernel_rfl) (by kernel_rfl) (by rfl) ?hyb1 hHeld ?restb1
      case hyb1 => (intro w' hSw; go_simp; try with_reducible rfl)
      try simp only [Act.put, List.setIfInBounds_toArray, List.set_cons_zero, List.set_cons_succ]
      refine reg_takeO 2 (v := ?vb2) (atS (atS at0)) (by kernel_rfl) (by kernel_rfl) (by kernel_rfl) (by rfl) ?hyb2 hHeld ?restb2
      case hyb2 => (intro w' hSw; go_simp; try with_reducible rfl)
      try simp only [Act.put, List.setIfInBounds_toArray, List.set_cons_zero, List.set_cons_succ]
      refine reg_takeO 3 (v := ?vb3) (atS (atS (atS at0))) (by kernel_rfl) (by kernel_rfl) (by kernel_rfl) (by rfl) ?hyb3 hHeld ?restb3
      case hyb3 => (intro w' hSw; go_simp; try with_reducible rfl)
      try simp only [Act.put, List.setIfInBounds_toArray, List.set_cons_zero, List.set_cons_succ]
      refine reg_takeO 7 (v := ?vb7) (atS5 (atS (atS at0))) (by kernel_rfl) (by kernel_rfl) (by kernel_rfl) (by rfl) ?hyb7 hHeld ?restb7
      case hyb7 => (intro w' hSw; go_simp; try with_reducible rfl)
      try simp only [Act.put, List.setIfInBounds_toArray, List.set_cons_zero, List.set_cons_succ]
      refine wpAnyH_ready (rs := [4]) (by kernel_rfl) (by simp) ?_
      refine AllReadyH.cons (atS (atS (atS (atS at0)))) (fun K hK => ?_) AllReadyH.nil
      go_simp
      refine (klong_any (bs f.nm) f.k f.g _).mono ?_
      rintro e w4 ⟨rfl, hb4⟩
      rw [HLL.out]
      have HB4 := hid hb4
      go_wp2_with fail
      refine hK.out _ _ (ExO.of HB4.out) (fun hHeld => ?_)
      clear hK K
      try simp only [Act.put, List.setIfInBounds_toArray, List.set_cons_zero, List.set_cons_succ]
      refine reg_onO (ExO.of HB4.out) (fun hHeld => ?_)
      refine reg_takeO 5 (v := ?vb5) (atS5 at0) (by kernel_rfl) (by kernel_rfl) (by kernel_rfl) (by rfl) ?hyb5 hHeld ?restb5
      case hyb5 => (intro w' hSw; go_simp; try with_reducible rfl)
      try simp only [Act.put, List.setIfInBounds_toArray, List.set_cons_zero, List.set_cons_succ]
      refine reg_takeO 6 (v := ?vb6) (atS5 (atS at0)) (by kernel_rfl) (by kernel_rfl) (by kernel_rfl) (by rfl) ?hyb6 hHeld ?restb6
      case hyb6 => (intro w' hSw; go_simp; try with_reducible rfl)
      try simp only [Act.put, List.setIfInBounds_toArray, List.set_cons_zero, List.set_cons_succ]
      refine wpAnyH_ready (rs := [8]) (by kernel_rfl) (by simp) ?_
      refine AllReadyH.cons (atS5 (atS (atS (atS at0)))) (fun K hK => ?_) AllReadyH.nil
      go_simp
      refine (kdecode_any (bs f.nm) f.k f.g (HRX.out _ (ExO.trans hx0a (ExO.of HB4.out)))).mono ?_
      rintro e w5 ⟨rfl, hb5⟩
      rw [HDR.out]
      have HB5 := hid hb5
      have HG5 : Hid (w3.grownBy w5 (some bx)) := ExO.trans hx0a (ExO.trans (ExO.of HB4.out) (ExO.of HB5.out))
      have HV5 : Hid (VB w5 bx 0 0 ⟨#[]⟩) := ((show VB w0a bx 0 0 ⟨#[]⟩ by unfold VB; rw [hh0a.out]; exact HV3.out).on HB4.out).on HB5.out
      obtain ⟨v0, vv1, vv2⟩ := HV5.out.cells
      have g0 := HV5.out.frozen 0; have g1 := HV5.out.frozen 1; have g2 := HV5.out.frozen 2
      go_wp2_with fail
      refine hK.out _ _ (ExO.of HB5.out) (fun hHeld => ?_)
      clear hK K
      try simp only [Act.put, List.setIfInBounds_toArray, List.set_cons_zero, List.set_cons_succ]
      refine reg_onO (ExO.of HB5.out) (fun hHeld => ?_)
      refine reg_takeO 9 (v := ?vb9) (atS5 (atS (atS (atS (atS at0))))) (by kernel_rfl) (by kernel_rfl) (by kernel_rfl) (by rfl) ?hyb9 hHeld ?restb9
      case hyb9 => (intro w' hSw; go_simp; try with_reducible rfl)
      try simp only [Act.put, List.setIfInBounds_toArray, List.set_cons_zero, List.set_cons_succ]
      refine reg_takeO 10 (v := ?vb10) (atS5 (atS5 at0)) (by kernel_rfl) (by kernel_rfl) (by kernel_rfl) (by rfl) ?hyb10 hHeld ?restb10
      case hyb10 => (intro w' hSw; go_simp; try with_reducible rfl)
      try simp only [Act.put, List.setIfInBounds_toArray, List.set_cons_zero, List.set_cons_succ]
      refine wpAnyH_ready (rs := [11]) (by kernel_rfl) (by simp) ?_
      refine AllReadyH.cons (atS5 (atS5 (atS at0))) (fun K hK => ?_) AllReadyH.nil
      go_simp
      skip
      refine hK.out _ _ (ExO.set3 rfl _ _ _) (fun hHeld => ?_)
      clear hK K
      try simp only [Act.put]
      refine reg_takeO 12 (v := ?vb12) (atS5 (atS5 (atS (atS at0)))) (by kernel_rfl) (by kernel_rfl) (by kernel_rfl) (by rfl) ?hyb12 hHeld ?restb12
      case hyb12 => (intro w' hSw; go_simp; try with_reducible rfl)
      try simp only [Act.put, List.setIfInBounds_toArray, List.set_cons_zero, List.set_cons_succ]
      refine wpAnyH_done (by kernel_rfl) ?_ _
      refine NoPanic.normal ?_
      clear pf0 pf1 pf2
      go_wp2_with fail
      exact ret_VBe (by rfl) (by rfl) (HV5.out.set3 _ _ _) (by rfl) (by rfl) ⟨by rw [HE.out]; rfl, B3 (HGB.out _ HG5.out) HBl.out _ _ _⟩
    | false =>
      have HDR : Hid (decR x f.k f.g = _) := decR_no hd
      rw [HDR.out] at HE
      clear hd
      refine reg_beginO (some bx) (by kernel_rfl) (fun w0b hh0b hx0b hHeld => ?_)
      have pf : ∀ w', ExO (some bx) w0b w' → FB w' q (bs f.nm) f.k f.g := fun w' h => HFX.out w' (ExO.trans hx0b h)
      have pf0 := fun w' h => (pf w' h).cells.1
      have pf1 := fun w' h => (pf w' h).cells.2.1
      have pf2 := fun w' h => (pf w' h).cells.2.2
      clear pf
      refine reg_takeO 0 (v := ?vc0) at0 (by kernel_rfl) (by kernel_rfl) (by kernel_rfl) (by rfl) ?hyc0 hHeld ?restc0
      case hyc0 => (intro w' hSw; go_simp; try with_reducible rfl)
      try simp only [Act.put, List.setIfInBounds_toArray, List.set_cons_zero, List.set_cons_succ]
      refine reg_takeO 1 (v := ?vc1) (atS at0) (by kernel_rfl) (by kernel_rfl) (by kernel_rfl) (by rfl) ?hyc1 hHeld ?restc1
      case hyc1 => (intro w' hSw; go_simp; try with_reducible rfl)
      try simp only [Act.put, List.setIfInBounds_toArray, List.set_cons_zero, List.set_cons_succ]
      refine reg_takeO 2 (v := ?vc2) (atS (atS at0)) (by kernel_rfl) (by kernel_rfl) (by kernel_rfl) (by rfl) ?hyc2 hHeld ?restc2
      case hyc2 => (intro w' hSw; go_simp; try with_reducible rfl)
      try simp only [Act.put, List.setIfInBounds_toArray, List.set_cons_zero, List.set_cons_succ]
      refine reg_takeO 3 (v := ?vc3) (atS (atS (atS at0))) (by kernel_rfl) (by kernel_rfl) (by kernel_rfl) (by rfl) ?hyc3 hHeld ?restc3
      case hyc3 => (intro w' hSw; go_simp; try with_reducible rfl)
      try simp only [Act.put, List.setIfInBounds_toArray, List.set_cons_zero, List.set_cons_succ]
      refine reg_takeO 7 (v := ?vc7) (atS5 (atS (atS at0))) (by kernel_rfl) (by kernel_rfl) (by kernel_rfl) (by rfl) ?hyc7 hHeld ?restc7
      case hyc7 => (intro w' hSw; go_simp; try with_reducible rfl)
      try simp only [Act.put, List.setIfInBounds_toArray, List.set_cons_zero, List.set_cons_succ]
      refine wpAnyH_ready (rs := [4]) (by kernel_rfl) (by simp) ?_
      refine AllReadyH.cons (atS (atS (atS (atS at0)))) (fun K hK => ?_) AllReadyH.nil
      go_simp
      refine (klong_any (bs f.nm) f.k f.g _).mono ?_
      rintro e w4 ⟨rfl, hb4⟩
      rw [HLL.out]
      have HB4 := hid hb4
      go_wp2_with fail
      refine hK.out _ _ (ExO.of HB4.out) (fun hHeld => ?_)
      clear hK K
      try simp only [Act.put, List.setIfInBounds_toArray, List.set_cons_zero, List.set_cons_succ]
      refine reg_onO (ExO.of HB4.out) (fun hHeld => ?_)
      refine reg_takeO 5 (v := ?vc5) (atS5 at0) (by kernel_rfl) (by kernel_rfl) (by kernel_rfl) (by rfl) ?hyc5 hHeld ?restc5
      case hyc5 => (intro w' hSw; go_simp; try with_reducible rfl)
      try simp only [Act.put, List.setIfInBounds_toArray, List.set_cons_zero, List.set_cons_succ]
      refine reg_takeO 6 (v := ?vc6) (atS5 (atS at0)) (by kernel_rfl) (by kernel_rfl) (by kernel_rfl) (by rfl) ?hyc6 hHeld ?restc6
      case hyc6 => (intro w' hSw; go_simp; try with_reducible rfl)
      try simp only [Act.put, List.setIfInBounds_toArray, List.set_cons_zero, List.set_cons_succ]
      refine wpAnyH_ready (rs := [8]) (by kernel_rfl) (by simp) ?_
      refine AllReadyH.cons (atS5 (atS (atS (atS at0)))) (fun K hK => ?_) AllReadyH.nil
      go_simp
      refine (kdecode_any (bs f.nm) f.k f.g (HRX.out _ (ExO.trans hx0b (ExO.of HB4.out)))).mono ?_
      rintro e w5 ⟨rfl, hb5⟩
      rw [HDR.out]
      have HB5 := hid hb5
      have HG5 : Hid (w3.grownBy w5 (some bx)) := ExO.trans hx0b (ExO.trans (ExO.of HB4.out) (ExO.of HB5.out))
      have HV5 : Hid (VB w5 bx 0 0 ⟨#[]⟩) := ((show VB w0b bx 0 0 ⟨#[]⟩ by unfold VB; rw [hh0b.out]; exact HV3.out).on HB4.out).on HB5.out
      obtain ⟨v0, vv1, vv2⟩ := HV5.out.cells
      have g0 := HV5.out.frozen 0; have g1 := HV5.out.frozen 1; have g2 := HV5.out.frozen 2
      go_wp2_with fail
      refine hK.out _ _ (ExO.of HB5.out) (fun hHeld => ?_)
      clear hK K
      try simp only [Act.put, List.setIfInBounds_toArray, List.set_cons_zero, List.set_cons_succ]
      refine reg_onO (ExO.of HB5.out) (fun hHeld => ?_)
      refine reg_takeO 9 (v := ?vc9) (atS5 (atS (atS (atS (atS at0))))) (by kernel_rfl) (by kernel_rfl) (by kernel_rfl) (by rfl) ?hyc9 hHeld ?restc9
      case hyc9 => (intro w' hSw; go_simp; try with_reducible rfl)
      try simp only [Act.put, List.setIfInBounds_toArray, List.set_cons_zero, List.set_cons_succ]
      refine reg_takeO 10 (v := ?vc10) (atS5 (atS5 at0)) (by kernel_rfl) (by kernel_rfl) (by kernel_rfl) (by rfl) ?hyc10 hHeld ?restc10
      case hyc10 => (intro w' hSw; go_simp; try with_reducible rfl)
      try simp only [Act.put, List.setIfInBounds_toArray, List.set_cons_zero, List.set_cons_succ]
      refine wpAnyH_ready (rs := [11]) (by kernel_rfl) (by simp) ?_
      refine AllReadyH.cons (atS5 (atS5 (atS at0))) (fun K hK => ?_) AllReadyH.nil
      go_simp
      skip
      refine hK.out _ _ (ExO.set3 rfl _ _ _) (fun hHeld => ?_)
      clear hK K
      try simp only [Act.put]
      refine reg_takeO 12 (v := ?vc12) (atS5 (atS5 (atS (atS at0)))) (by kernel_rfl) (by kernel_rfl) (by kernel_rfl) (by rfl) ?hyc12 hHeld ?restc12
      case hyc12 => (intro w' hSw; go_simp; try with_reducible rfl)
      try simp only [Act.put, List.setIfInBounds_toArray, List.set_cons_zero, List.set_cons_succ]
      refine wpAnyH_done (by kernel_rfl) ?_ _
      refine NoPanic.normal ?_
      clear pf0 pf1 pf2
      go_wp2_with fail
      exact ret_VBe (by rfl) (by rfl) (HV5.out.set3 0 0 ⟨#[]⟩) (by rfl) (by rfl) ⟨by rw [HE.out]; rfl, B3 (HGB.out _ HG5.out) HBl.out _ _ _⟩
end Go.Proofs.YtaegencmnmjgbaaGreat

namespace Go.Proofs.YtaegencmnmjgbaaGreat
open Go.RowKit
set_option linter.unusedVariables false
def SetO (w : World) (r : List UInt8 × Int) (e : Ending) (w' : World) : Prop := ∃ v, e = .returned (.tuple #[v, .int .i64 r.2]) ∧ Own w' w.heap.size v r.1 ∧ Below w.heap.size w w'
set_option maxRecDepth 20000 in
set_option maxHeartbeats 4000000 in
theorem p6set_any {w : World} {A : Option Addr} {n c : Nat} {l : List Fd} (h : RdF w w.heap.size A n c l) (hs : short l) {A2 : Option Addr} {n2 c2 : Nat} {s : List UInt8} (h2 : Rd w w.heap.size A2 n2 c2 s) (hsl : n2 ≤ 100000) (nm : List UInt8) (vk vn : Int) (t : ByteArray) (hn : U64 vn) :
    Calls Tryz.prog 92 #[.slice A2 n2 c2, .slice A n c, .string (bs nm), .agg #[.int .i64 vk, .int .u64 vn, .string t]] w (SetO w (setS6 s l nm vk vn t)) := by
  have H := hid h; have HS := hid hs; have H2 := hid h2; have HN := hid hn; clear h hs hn
  obtain ⟨w0, hw0⟩ : ∃ w0, w0 = w.alloc (.cells #[.int .i64 vk, .int .u64 vn, .string t] 71) := ⟨_, rfl⟩
  have HW0 := hid hw0
  have HB0 : Hid (Below w.heap.size w w0) := by rw [hw0]; exact B1 _ _
  obtain ⟨bx, hbx⟩ : ∃ bx, bx = w.heap.size := ⟨_, rfl⟩
  have HBX := hid hbx
  have HV0 : Hid (VB w0 bx vk vn t) := by rw [hw0, hbx]; exact vb_new w vk vn t
  have HSG := hid (seek_get h2.1 l nm)
  have HSL := hid h2.1
  clear hw0 hbx h2
  go_enter Tryz.func92, Tryz.ntmps92
  go_wp2_with fail
  rw [← HW0.out, ← HBX.out]
  refine (seek_any (H.out.on HB0.out) HS.out A2 n2 c2 nm).mono ?_
  rintro e w1 ⟨rfl, hb1⟩
  have HBW1 := hid (Bt HB0.out hb1)
  have HV1 := hid (HV0.out.on hb1)
  clear hb1
  rcases HSG.out with ⟨x, hx0, hsk, -, hx1, hst⟩ | ⟨f, p, m, hsk, hm, hm1, hm64, hpm, hn1160, hmay, hfl, -, hst⟩
  · rw [hsk]
    have HE := hid (hst vk vn t)
    have t1 : (x != 0) = true := by simpa using hx0
    clear hsk hst hx0 hx1
    dsimp only [fv]
    go_wp2_with fail
    go_ret2
    exact ⟨_, by rw [HE.out]; rfl, by rw [HE.out]; exact own_nil _ _, Ba HBW1.out _⟩
  · rw [hsk]
    have HE := hid (hst vk vn t)
    obtain ⟨w3, hw3⟩ : ∃ w3, w3 = w1.alloc (.cells #[.string (bs f.nm), .int .i64 f.k, .int .i64 f.g] 68) := ⟨_, rfl⟩
    obtain ⟨q, hq⟩ : ∃ q, q = w1.heap.size := ⟨_, rfl⟩
    have HW3 := hid hw3; have HQ := hid hq
    have HF3 : Hid (FB w3 q (bs f.nm) f.k f.g) := by rw [hw3, hq]; exact fb_new w1 _ _ _
    have HV3 : Hid (VB w3 bx vk vn t) := by rw [hw3]; exact HV1.out.alloc _
    have HBW3 : Hid (Below w.heap.size w w3) := by rw [hw3]; exact Ba HBW1.out _
    have hn2 : n2 ≤ 1160 := hn1160
    have HM := hid hm
    obtain ⟨v0, vv1, vv2⟩ := (HV1.out.alloc (.cells #[.string (bs f.nm), .int .i64 f.k, .int .i64 f.g] 68)).cells
    clear hsk hst hw3 hq hm hmay hfl hn1160
    dsimp only [fv]
    go_wp2_with fail
    rw [← HW3.out, ← HQ.out]
    refine (kencode_any vk vn t (bs f.nm) f.k f.g _ HN.out).mono ?_
    rintro e w4 ⟨A4, m4, c4, rfl, hr4, hb4⟩
    have HR4 := hid hr4
    have HBW4 := hid (Bt HBW3.out hb4)
    clear hr4 hb4 v0 vv1 vv2
    cases hrf : rightF vk vn t.size f.k f.g with
    | false =>
      have hee : encE vk vn t f.k f.g = 50 := by simp [encE, hrf]
      rw [hrf] at HE
      have HE2 : Hid (setS6 s l nm vk vn t = ([], 50)) := HE.out
      rw [hee]
      clear hrf hee
      go_wp2_with fail
      go_ret2
      exact ⟨_, by rw [HE2.out]; rfl, by rw [HE2.out]; exact own_nil _ _, HBW4.out⟩
    | true =>
      have hee : encE vk vn t f.k f.g = 0 := by simp [encE, hrf]
      rw [hrf] at HE
      have HE2 : Hid (setS6 s l nm vk vn t = (setL s p (encB vk vn t f.k f.g), 0)) := HE.out
      obtain ⟨X, hX⟩ : ∃ X, X = encB vk vn t f.k f.g := ⟨_, rfl⟩
      have hXl : X.length = m := by
        have h1 := encB_length hrf
        have h2 := HM.out
        rw [hX]; omega
      rw [← hX] at HE2
      have hr4 := HR4.out
      rw [encB_eq, ← hX, bs_toList] at hr4
      have hm4 : m4 = m := by have := hr4.1; omega
      subst hm4
      have HR4b := hid hr4
      have HXL := hid hXl
      rw [hee]
      clear hrf hee hX hr4 HR4 hXl
      go_wp2_with fail
      refine (clone_any A2 n2 c2 s _ (H2.out.on HBW4.out) (by omega)).mono ?_
      rintro e w5 ⟨v5, rfl, ho5, hb5⟩
      obtain ⟨g, c5, cur, hv, hbase, hg, hlc, hcm, hcs, htake⟩ := ho5.form (by have := HSL.out; omega)
      rw [HSL.out] at hv hlc
      rw [hv]
      obtain ⟨A4, rfl⟩ : ∃ a, A4 = some a := by
        obtain ⟨b, off, e, _⟩ := HR4b.out.2.2.2.2 (by omega)
        exact ⟨_, e⟩
      have hcp := run_copy_row (P := Tryz.prog) w5 35 35 3 5 g p (n2 - p) (c5 - p) A4 m4 c4 cur 5 (X.map bv) Tryz.underlying35 size8 hg (by rw [List.length_map, HXL.out]; exact (Nat.min_eq_left (by omega)).symm) (HR4b.out.on hb5).cells (by rw [List.length_map, HXL.out, hcs]; omega) bv_mem
      have s1 : ¬ c5 = p := by omega
      have s2 : p ≤ c5 := by omega
      have s3 : (p : Int) ≤ (n2 : Int) := by omega
      have s4 : p ≤ n2 := by omega
      obtain ⟨w6, hw6⟩ : ∃ w6, w6 = w5.setRow g (cur.toList.take p ++ X.map bv ++ cur.toList.drop (p + (X.map bv).length)).toArray := ⟨_, rfl⟩
      rw [← hw6] at hcp
      have hg6 : w6.heap[g]? = some (.cells (splice cur.toList p (X.map bv)).toArray 5 (0, 0)) := by
        rw [hw6]; have := setRow_heap w5 g cur (cur.toList.take p ++ X.map bv ++ cur.toList.drop (p + (X.map bv).length)).toArray 5 (0, 0) hg
        rw [this]; simp [splice]
      have hown := own_set (xs := X) (l := s) (base := w.heap.size) (cap := c5) hg6 (Nat.le_trans HBW4.out.size hbase) (by rw [HXL.out, HSL.out]; exact hpm) (by rw [HSL.out]; exact hlc) hcm (by simpa using hcs) htake
      rw [HSL.out] at hown
      have HOW := hid hown
      have HB6 : Hid (Below w.heap.size w w6) := by rw [hw6]; exact below_setRow (Bt HBW4.out hb5) (Nat.le_trans HBW4.out.size hbase) _
      clear hown hg6 hw6 ho5 hv hg htake hcs hbase hb5
      go_wp2_with fail
      go_ret2
      exact ⟨_, by rw [HE2.out]; rfl, by rw [HE2.out]; exact HOW.out, HB6.out⟩
end Go.Proofs.YtaegencmnmjgbaaGreat
