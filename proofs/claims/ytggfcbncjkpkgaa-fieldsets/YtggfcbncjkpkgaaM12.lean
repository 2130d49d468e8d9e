/-
  The document's Get of layer 6.
-/
import Derived.Test.YtggfcbncjkpkgaaM10

namespace Go.Proofs.Ytggfcbncjkpkgaa
open Go.RowKit
set_option linter.unusedVariables false

/-- What is got of a field. -/
def getR (s : List UInt8) (l : List Fd) (nm : List UInt8) : Value :=
  if rightL l = true ∧ (s.length : Int) = layN l then
    match findN l nm with
    | none => .tuple #[.agg #[.int .i64 0, .int .u64 0, .string ⟨#[]⟩], .int .i64 61]
    | some i => match l[i]?, (layP 0 l)[i]? with
      | some f, some p => decR ((s.drop p.toNat).take f.long.toNat) f.k f.g
      | _, _ => undef
  else .tuple #[.agg #[.int .i64 0, .int .u64 0, .string ⟨#[]⟩], .int .i64 60]
theorem getR_form {s : List UInt8} {l : List Fd} {nm : List UInt8} (h : ¬ (rightL l = true ∧ (s.length : Int) = layN l)) : getR s l nm = .tuple #[.agg #[.int .i64 0, .int .u64 0, .string ⟨#[]⟩], .int .i64 60] := by unfold getR; rw [if_neg h]
theorem getR_none {s : List UInt8} {l : List Fd} {nm : List UInt8} (h : rightL l = true ∧ (s.length : Int) = layN l) (hf : findN l nm = none) : getR s l nm = .tuple #[.agg #[.int .i64 0, .int .u64 0, .string ⟨#[]⟩], .int .i64 61] := by unfold getR; rw [if_pos h, hf]
theorem getR_some {s : List UInt8} {l : List Fd} {nm : List UInt8} (h : rightL l = true ∧ (s.length : Int) = layN l) {i : Nat} {f : Fd} {p : Int} (hf : findN l nm = some i) (hi : l[i]? = some f) (hp : (layP 0 l)[i]? = some p) : getR s l nm = decR ((s.drop p.toNat).take f.long.toNat) f.k f.g := by
  unfold getR; rw [if_pos h, hf]; simp only [hi, hp]

theorem VB.set3 {w : World} {b : Nat} {k n : Int} {t : ByteArray} (h : VB w b k n t) (k' n' : Int) (t' : ByteArray) : VB (((w.setCell ⟨b, 0, none⟩ (.int .i64 k')).setCell ⟨b, 1, none⟩ (.int .u64 n')).setCell ⟨b, 2, none⟩ (.string t')) b k' n' t' := ((h.setKind k').setBits n').setText t'
theorem B3 {B b : Nat} {w w' : World} (h : Below B w w') (hb : B ≤ b) (x y z : Value) : Below B w (((w'.setCell ⟨b, 0, none⟩ x).setCell ⟨b, 1, none⟩ y).setCell ⟨b, 2, none⟩ z) := ((h.setCell hb _).setCell hb _).setCell hb _

theorem OwI.blk {w : World} {base b off n c : Nat} {l : List Int} (h : OwI w base (.slice (some ⟨b, off, none⟩) n c) l) : base ≤ b := h.row b rfl
theorem gcell {w w' : World} {r : Option Nat} (hg : w.grownBy w' r) {b : Nat} (i : Nat) (hlt : b < w.heap.size) (hne : some b ≠ r) : w'.cell? ⟨b, i, none⟩ = w.cell? ⟨b, i, none⟩ := by
  unfold World.cell?; rw [hg.block b hlt hne]
theorem ExO.of {r : Option Nat} {w w' : World} (h : Below w.heap.size w w') : ExO r w w' := ⟨h.os, h.tape, h.output, h.size, fun i hi _ => h.block i hi⟩
theorem ExO.set3 {r b : Nat} {w : World} (e : r = b) (x y z : Value) : ExO (some r) w (((w.setCell ⟨b, 0, none⟩ x).setCell ⟨b, 1, none⟩ y).setCell ⟨b, 2, none⟩ z) := by
  subst e; exact grown_set (grown_set (grown_set (grown_refl w (some r)) 0 x) 1 y) 2 z

set_option maxRecDepth 20000 in
set_option maxHeartbeats 4000000 in
theorem r6get_any {w : World} {A : Option Addr} {n c : Nat} {l : List Fd} (h : RdF w w.heap.size A n c l) (hs : short l) (s : List UInt8) (hsl : s.length ≤ 100000) (nm : List UInt8) :
    Calls Try.prog 26 #[.string (bs s), .slice A n c, .string (bs nm)] w fun e w' => e = .returned (getR s l nm) ∧ Below w.heap.size w w' := by
  have HL := hid h.1
  have H := hid h; have HS := hid hs; clear h hs
  have hsi : (s.length : Int) ≤ 100000 := by omega
  obtain ⟨w0, hw0⟩ : ∃ w0, w0 = w.alloc (.cells #[.int .i64 0, .int .u64 0, .string ⟨#[]⟩] 37) := ⟨_, rfl⟩
  have HW0 := hid hw0
  have HB0 : Hid (Below w.heap.size w w0) := by rw [hw0]; exact B1 _ _
  obtain ⟨bx, hbx⟩ : ∃ bx, bx = w.heap.size := ⟨_, rfl⟩
  have HBX := hid hbx
  have HV0 : Hid (VB w0 bx 0 0 ⟨#[]⟩) := by rw [hw0, hbx]; exact vb_new w 0 0 ⟨#[]⟩
  have HBl : Hid (w.heap.size ≤ bx) := by rw [hbx]; exact Nat.le_refl _
  clear hw0 hbx
  go_enter Try.func26, Try.ntmps26
  go_wp2_with fail
  rw [← HW0.out, ← HBX.out]
  refine (r6layout_any (H.out.on HB0.out) HS.out).mono ?_
  rintro e w1 ⟨v1, rfl, ho1, hb1⟩
  obtain ⟨A1, c1, rfl, hr1⟩ := ho1.rd lay_I64
  obtain ⟨M, hM⟩ : ∃ M, M = (layL l).length := ⟨_, rfl⟩
  rw [← hM] at hr1 ⊢
  have HR1 := hid hr1; have HM := hid hM; have HB1 := hid hb1; have HO1 := hid ho1
  have HBW1 := hid (Bt HB0.out hb1)
  have HV1 := hid (HV0.out.on hb1)
  obtain ⟨T, hT⟩ : ∃ T, T = layT l := ⟨_, rfl⟩
  have hTb := layT_bd l
  rw [← hT] at hTb ⊢
  have HT := hid hT
  clear ho1 hr1 hM hb1 hT
  go_wp2_with fail
  refine (r6right_any (H.out.on HBW1.out) HS.out).mono ?_
  rintro e w2 ⟨rfl, hb2⟩
  have HBW2 := hid (Bt HBW1.out hb2)
  have HV2 := hid (HV1.out.on hb2); have HR2 := hid (HR1.out.on hb2)
  obtain ⟨v0, vv1, vv2⟩ := HV2.out.cells
  have g0 := HV2.out.frozen 0; have g1 := HV2.out.frozen 1; have g2 := HV2.out.frozen 2
  clear hb2
  cases hr : rightL l with
  | false =>
    have HE : Hid (getR s l nm = _) := getR_form (s := s) (nm := nm) (l := l) (by rw [hr]; simp)
    clear hr
    go_wp2_with fail
    exact ret_VBe (by rfl) (by rfl) (HV2.out.set3 0 0 ⟨#[]⟩) (by rfl) (by rfl) ⟨by rw [HE.out]; rfl, B3 HBW2.out HBl.out _ _ _⟩
  | true =>
    have HR := hid hr
    by_cases hlen : (s.length : Int) = T
    · have t1 : ((s.length : Int) != T) = false := by rw [hlen]; simp
      have HLEN := hid hlen
      have HC : Hid (rightL l = true ∧ (s.length : Int) = layN l) := ⟨hr, by rw [hlen, HT.out, layT_right hr]⟩
      clear hr hlen
      go_wp2_with fail
      refine (r6find_any (H.out.on HBW2.out) nm).mono ?_
      rintro e w3 ⟨rfl, hb3⟩
      have HBW3 := hid (Bt HBW2.out hb3)
      have HV3 := hid (HV2.out.on hb3); have HR3 := hid (HR2.out.on hb3)
      obtain ⟨v0, vv1, vv2⟩ := HV3.out.cells
      have g0 := HV3.out.frozen 0; have g1 := HV3.out.frozen 1; have g2 := HV3.out.frozen 2
      clear hb3
      cases hf : findN l nm with
      | none =>
        rw [findI_none hf]
        have HE : Hid (getR s l nm = _) := getR_none HC.out hf
        clear hf
        go_wp2_with fail
        exact ret_VBe (by rfl) (by rfl) (HV3.out.set3 0 0 ⟨#[]⟩) (by rfl) (by rfl) ⟨by rw [HE.out]; rfl, B3 HBW3.out HBl.out _ _ _⟩
      | some i =>
        rw [findI_some hf]
        obtain ⟨f, hi, hnm9, hfst⟩ := findN_get hf
        clear hnm9 hfst
        obtain ⟨hin, hk64, hg64, hnl, b, off, rfl, hcf⟩ := H.out.at hi
        clear hk64 hg64 hnl
        obtain ⟨p, hp⟩ : ∃ p, (layP 0 l)[i]? = some p := ⟨_, layP_get hi 0⟩
        have hbd := lay_in HC.out.1 hi hp
        have hlp := long_pos (right_may HC.out.1 f (List.mem_of_getElem? hi))
        have HE : Hid (getR s l nm = decR ((s.drop p.toNat).take f.long.toNat) f.k f.g) := getR_some HC.out hf hi hp
        have hiM : i < M := by rw [HM.out, layL_right HC.out.1, layP_length, HL.out]; exact hin
        obtain ⟨b2, off2, rfl, hbl2, hc2⟩ := HR3.out.2.2.2.2 (by omega)
        have hiL : i < (layL l).length := by rw [← HM.out]; exact hiM
        have hcp := hc2 i hiL
        have hpe : (layL l)[i] = p := by
          have : (layL l)[i]? = some p := by rw [layL_right HC.out.1]; exact hp
          rw [List.getElem?_eq_getElem hiL] at this; cases this; rfl
        rw [hpe] at hcp
        obtain ⟨L, hL⟩ : ∃ L, L = longF f.k f.g := ⟨_, rfl⟩
        have hLf : f.long = L := hL.symm
        rw [hLf] at hbd hlp HE
        obtain ⟨pn, hpn⟩ : ∃ pn : Nat, p = (pn : Int) := ⟨p.toNat, by omega⟩
        obtain ⟨Ln, hLn⟩ : ∃ Ln : Nat, L = (Ln : Int) := ⟨L.toNat, by omega⟩
        have hend : pn + Ln ≤ s.length := by have := HC.out.2; omega
        rw [hpn] at hcp HE
        rw [hLn] at HE
        simp only [Int.toNat_natCast] at HE
        obtain ⟨x, hx⟩ : ∃ x, x = (s.drop pn).take Ln := ⟨_, rfl⟩
        rw [← hx] at HE
        have hxe : (⟨s.toArray⟩ : ByteArray).extract pn (pn + Ln) = ⟨x.toArray⟩ := by rw [ext_at, hx]; congr 2; rw [List.drop_take]; simp
        have hx64 : x.length ≤ 1000 := by rw [hx, List.length_take]; omega
        have HLL : Hid (longF f.k f.g = (Ln : Int)) := by show _ = _; rw [← hL, hLn]
        have HCF := hid hcf
        have hbne : b2 ≠ bx := by
          have h1 := HO1.out.blk
          have h2 := HV0.out.lt
          omega
        have HCP : Hid (∀ w', w3.grownBy w' (some bx) → w'.cell? ⟨b2, off2 + i, none⟩ = some (.int .i64 (pn : Int))) := fun w' hg => by
          rw [gcell hg _ hbl2 (by simpa using hbne)]; exact hcp
        have HGB : Hid (∀ w', w3.grownBy w' (some bx) → Below w.heap.size w w') := fun w' hg => HBW3.out.grown hg HBW3.out.size (fun j hj => by cases hj; exact HBl.out)
        have hpi : (pn : Int) + (Ln : Int) ≤ (s.length : Int) := by omega
        have q1 : IntKind.i64.wrap ((pn : Int) + (Ln : Int)) = (pn : Int) + (Ln : Int) := by rw [IntKind.wrap_i64]; omega
        have tn : ((pn : Int) + (Ln : Int)).toNat = pn + Ln := by omega
        have s0 : 0 ≤ (pn : Int) + (Ln : Int) := by omega
        have s1 : (pn : Int) ≤ (pn : Int) + (Ln : Int) := by omega
        have hii : (i : Int) < n := by omega
        have hiMi : (i : Int) < M := by omega
        have hi0 : (0 : Int) ≤ i := by omega
        have hineg : decide ((i : Int) < 0) = false := decide_eq_false (by omega)
        clear hcf hcp hc2 hpe hx hp hi hf hbd hlp hL hLf hLn hpn hbne HC v0 vv1 vv2 g0 g1 g2
        cases hd : decB x f.k f.g with
        | true =>
          have HDR : Hid (decR x f.k f.g = _) := decR_ok hd
          rw [HDR.out] at HE
          clear hd
          go_wp2_with fail
          refine reg_beginO (some bx) (by kernel_rfl) (fun w0a hh0a hx0a hHeld => ?_)
          have pp : ∀ w', ExO (some bx) w0a w' → w'.cell? ⟨b2, off2 + i, none⟩ = some (.int .i64 (pn : Int)) := fun w' h => HCP.out w' (ExO.trans hx0a h)
          have pf : ∀ w', ExO (some bx) w0a w' → FdC w' b (off + i * 3) f := fun w' h => HCF.out w' (HGB.out w' (ExO.trans hx0a h))
          have pf0 := fun w' h => (pf w' h).1
          have pf1 := fun w' h => (pf w' h).2.1
          have pf2 := fun w' h => (pf w' h).2.2
          clear pf
          refine reg_takeO 0 (v := ?vb0) at0 (by kernel_rfl) (by kernel_rfl) (by kernel_rfl) (by rfl) ?hyb0 hHeld ?restb0
          case hyb0 => (intro w' hSw; go_simp; try with_reducible rfl)
          try simp only [Act.put, List.setIfInBounds_toArray, List.set_cons_zero, List.set_cons_succ]
          refine reg_takeO 1 (v := ?vb1) (atS at0) (by kernel_rfl) (by kernel_rfl) (by kernel_rfl) (by rfl) ?hyb1 hHeld ?restb1
          case hyb1 => (intro w' hSw; go_simp; try with_reducible rfl)
          try simp only [Act.put, List.setIfInBounds_toArray, List.set_cons_zero, List.set_cons_succ]
          refine reg_takeO 2 (v := ?vb2) (atS (atS at0)) (by kernel_rfl) (by kernel_rfl) (by kernel_rfl) (by rfl) ?hyb2 hHeld ?restb2
          case hyb2 => (intro w' hSw; go_simp; try with_reducible rfl)
          try simp only [Act.put, List.setIfInBounds_toArray, List.set_cons_zero, List.set_cons_succ]
          refine reg_takeO 3 (v := ?vb3) (atS (atS (atS at0))) (by kernel_rfl) (by kernel_rfl) (by kernel_rfl) (by rfl) ?hyb3 hHeld ?restb3
          case hyb3 => (intro w' hSw; go_simp; try with_reducible rfl)
          try simp only [Act.put, List.setIfInBounds_toArray, List.set_cons_zero, List.set_cons_succ]
          refine reg_takeO 4 (v := ?vb4) (atS (atS (atS (atS at0)))) (by kernel_rfl) (by kernel_rfl) (by kernel_rfl) (by rfl) ?hyb4 hHeld ?restb4
          case hyb4 => (intro w' hSw; go_simp; try with_reducible rfl)
          try simp only [Act.put, List.setIfInBounds_toArray, List.set_cons_zero, List.set_cons_succ]
          refine reg_takeO 5 (v := ?vb5) (atS5 at0) (by kernel_rfl) (by kernel_rfl) (by kernel_rfl) (by rfl) ?hyb5 hHeld ?restb5
          case hyb5 => (intro w' hSw; go_simp; try with_reducible rfl)
          try simp only [Act.put, List.setIfInBounds_toArray, List.set_cons_zero, List.set_cons_succ]
          refine reg_takeO 6 (v := ?vb6) (atS5 (atS at0)) (by kernel_rfl) (by kernel_rfl) (by kernel_rfl) (by rfl) ?hyb6 hHeld ?restb6
          case hyb6 => (intro w' hSw; go_simp; try with_reducible rfl)
          try simp only [Act.put, List.setIfInBounds_toArray, List.set_cons_zero, List.set_cons_succ]
          refine reg_takeO 7 (v := ?vb7) (atS5 (atS (atS at0))) (by kernel_rfl) (by kernel_rfl) (by kernel_rfl) (by rfl) ?hyb7 hHeld ?restb7
          case hyb7 => (intro w' hSw; go_simp; try with_reducible rfl)
          try simp only [Act.put, List.setIfInBounds_toArray, List.set_cons_zero, List.set_cons_succ]
          refine reg_takeO 8 (v := ?vb8) (atS5 (atS (atS (atS at0)))) (by kernel_rfl) (by kernel_rfl) (by kernel_rfl) (by rfl) ?hyb8 hHeld ?restb8
          case hyb8 => (intro w' hSw; go_simp; try with_reducible rfl)
          try simp only [Act.put, List.setIfInBounds_toArray, List.set_cons_zero, List.set_cons_succ]
          refine reg_takeO 9 (v := ?vb9) (atS5 (atS (atS (atS (atS at0))))) (by kernel_rfl) (by kernel_rfl) (by kernel_rfl) (by rfl) ?hyb9 hHeld ?restb9
          case hyb9 => (intro w' hSw; go_simp; try with_reducible rfl)
          try simp only [Act.put, List.setIfInBounds_toArray, List.set_cons_zero, List.set_cons_succ]
          refine reg_takeO 10 (v := ?vb10) (atS5 (atS5 at0)) (by kernel_rfl) (by kernel_rfl) (by kernel_rfl) (by rfl) ?hyb10 hHeld ?restb10
          case hyb10 => (intro w' hSw; go_simp; try with_reducible rfl)
          try simp only [Act.put, List.setIfInBounds_toArray, List.set_cons_zero, List.set_cons_succ]
          refine reg_takeO 11 (v := ?vb11) (atS5 (atS5 (atS at0))) (by kernel_rfl) (by kernel_rfl) (by kernel_rfl) (by rfl) ?hyb11 hHeld ?restb11
          case hyb11 => (intro w' hSw; go_simp; try with_reducible rfl)
          try simp only [Act.put, List.setIfInBounds_toArray, List.set_cons_zero, List.set_cons_succ]
          refine reg_takeO 12 (v := ?vb12) (atS5 (atS5 (atS (atS at0)))) (by kernel_rfl) (by kernel_rfl) (by kernel_rfl) (by rfl) ?hyb12 hHeld ?restb12
          case hyb12 => (intro w' hSw; go_simp; try with_reducible rfl)
          try simp only [Act.put, List.setIfInBounds_toArray, List.set_cons_zero, List.set_cons_succ]
          refine reg_takeO 16 (v := ?vb16) (atS5 (atS5 (atS5 (atS at0)))) (by kernel_rfl) (by kernel_rfl) (by kernel_rfl) (by rfl) ?hyb16 hHeld ?restb16
          case hyb16 => (intro w' hSw; go_simp; try with_reducible rfl)
          try simp only [Act.put, List.setIfInBounds_toArray, List.set_cons_zero, List.set_cons_succ]
          refine reg_takeO 17 (v := ?vb17) (atS5 (atS5 (atS5 (atS (atS at0))))) (by kernel_rfl) (by kernel_rfl) (by kernel_rfl) (by rfl) ?hyb17 hHeld ?restb17
          case hyb17 => (intro w' hSw; go_simp; try with_reducible rfl)
          try simp only [Act.put, List.setIfInBounds_toArray, List.set_cons_zero, List.set_cons_succ]
          refine reg_takeO 18 (v := ?vb18) (atS5 (atS5 (atS5 (atS (atS (atS at0)))))) (by kernel_rfl) (by kernel_rfl) (by kernel_rfl) (by rfl) ?hyb18 hHeld ?restb18
          case hyb18 => (intro w' hSw; go_simp; try with_reducible rfl)
          try simp only [Act.put, List.setIfInBounds_toArray, List.set_cons_zero, List.set_cons_succ]
          refine reg_takeO 19 (v := ?vb19) (atS5 (atS5 (atS5 (atS (atS (atS (atS at0))))))) (by kernel_rfl) (by kernel_rfl) (by kernel_rfl) (by rfl) ?hyb19 hHeld ?restb19
          case hyb19 => (intro w' hSw; go_simp; try with_reducible rfl)
          try simp only [Act.put, List.setIfInBounds_toArray, List.set_cons_zero, List.set_cons_succ]
          refine wpAnyH_ready (rs := [13]) (by kernel_rfl) (by simp) ?_
          refine AllReadyH.cons (atS5 (atS5 (atS (atS (atS at0))))) (fun K hK => ?_) AllReadyH.nil
          go_simp
          refine (rlong_any (bs f.nm) f.k f.g _).mono ?_
          rintro e w4 ⟨rfl, hb4⟩
          rw [HLL.out]
          have HB4 := hid hb4
          go_wp2_with fail
          refine hK.out _ _ (ExO.of HB4.out) (fun hHeld => ?_)
          clear hK K
          try simp only [Act.put, List.setIfInBounds_toArray, List.set_cons_zero, List.set_cons_succ]
          refine reg_onO (ExO.of HB4.out) (fun hHeld => ?_)
          refine reg_takeO 14 (v := ?vb14) (atS5 (atS5 (atS (atS (atS (atS at0)))))) (by kernel_rfl) (by kernel_rfl) (by kernel_rfl) (by rfl) ?hyb14 hHeld ?restb14
          case hyb14 => (intro w' hSw; go_simp; try with_reducible rfl)
          try simp only [Act.put, List.setIfInBounds_toArray, List.set_cons_zero, List.set_cons_succ]
          refine reg_takeO 15 (v := ?vb15) (atS5 (atS5 (atS5 at0))) (by kernel_rfl) (by kernel_rfl) (by kernel_rfl) (by rfl) ?hyb15 hHeld ?restb15
          case hyb15 => (intro w' hSw; go_simp; try with_reducible rfl)
          try simp only [Act.put, List.setIfInBounds_toArray, List.set_cons_zero, List.set_cons_succ]
          refine wpAnyH_ready (rs := [20]) (by kernel_rfl) (by simp) ?_
          refine AllReadyH.cons (atS5 (atS5 (atS5 (atS5 at0)))) (fun K hK => ?_) AllReadyH.nil
          go_simp
          refine (rdecode_any (bs f.nm) x f.k f.g _ hx64).mono ?_
          rintro e w5 ⟨rfl, hb5⟩
          rw [HDR.out]
          have HB5 := hid hb5
          have HG5 : Hid (w3.grownBy w5 (some bx)) := ExO.trans hx0a (ExO.trans (ExO.of HB4.out) (ExO.of HB5.out))
          have HV5 : Hid (VB w5 bx 0 0 ⟨#[]⟩) := ((show VB w0a bx 0 0 ⟨#[]⟩ by unfold VB; rw [hh0a.out]; exact HV3.out).on HB4.out).on HB5.out
          obtain ⟨v0, vv1, vv2⟩ := HV5.out.cells
          have g0 := HV5.out.frozen 0; have g1 := HV5.out.frozen 1; have g2 := HV5.out.frozen 2
          go_wp2_with fail
          refine hK.out _ _ (ExO.of HB5.out) (fun hHeld => ?_)
          clear hK K
          try simp only [Act.put, List.setIfInBounds_toArray, List.set_cons_zero, List.set_cons_succ]
          refine reg_onO (ExO.of HB5.out) (fun hHeld => ?_)
          refine reg_takeO 21 (v := ?vb21) (atS5 (atS5 (atS5 (atS5 (atS at0))))) (by kernel_rfl) (by kernel_rfl) (by kernel_rfl) (by rfl) ?hyb21 hHeld ?restb21
          case hyb21 => (intro w' hSw; go_simp; try with_reducible rfl)
          try simp only [Act.put, List.setIfInBounds_toArray, List.set_cons_zero, List.set_cons_succ]
          refine reg_takeO 22 (v := ?vb22) (atS5 (atS5 (atS5 (atS5 (atS (atS at0)))))) (by kernel_rfl) (by kernel_rfl) (by kernel_rfl) (by rfl) ?hyb22 hHeld ?restb22
          case hyb22 => (intro w' hSw; go_simp; try with_reducible rfl)
          try simp only [Act.put, List.setIfInBounds_toArray, List.set_cons_zero, List.set_cons_succ]
          refine wpAnyH_ready (rs := [23]) (by kernel_rfl) (by simp) ?_
          refine AllReadyH.cons (atS5 (atS5 (atS5 (atS5 (atS (atS (atS at0))))))) (fun K hK => ?_) AllReadyH.nil
          go_simp
          skip
          refine hK.out _ _ (ExO.set3 rfl _ _ _) (fun hHeld => ?_)
          clear hK K
          try simp only [Act.put]
          refine reg_takeO 24 (v := ?vb24) (atS5 (atS5 (atS5 (atS5 (atS (atS (atS (atS at0)))))))) (by kernel_rfl) (by kernel_rfl) (by kernel_rfl) (by rfl) ?hyb24 hHeld ?restb24
          case hyb24 => (intro w' hSw; go_simp; try with_reducible rfl)
          try simp only [Act.put, List.setIfInBounds_toArray, List.set_cons_zero, List.set_cons_succ]
          refine wpAnyH_done (by kernel_rfl) ?_ _
          refine NoPanic.normal ?_
          clear pp pf0 pf1 pf2
          go_wp2_with fail
          exact ret_VBe (by rfl) (by rfl) (HV5.out.set3 _ _ _) (by rfl) (by rfl) ⟨by rw [HE.out]; rfl, B3 (HGB.out _ HG5.out) HBl.out _ _ _⟩
        | false =>
          have HDR : Hid (decR x f.k f.g = _) := decR_no hd
          rw [HDR.out] at HE
          clear hd
          go_wp2_with fail
          refine reg_beginO (some bx) (by kernel_rfl) (fun w0b hh0b hx0b hHeld => ?_)
          have pp : ∀ w', ExO (some bx) w0b w' → w'.cell? ⟨b2, off2 + i, none⟩ = some (.int .i64 (pn : Int)) := fun w' h => HCP.out w' (ExO.trans hx0b h)
          have pf : ∀ w', ExO (some bx) w0b w' → FdC w' b (off + i * 3) f := fun w' h => HCF.out w' (HGB.out w' (ExO.trans hx0b h))
          have pf0 := fun w' h => (pf w' h).1
          have pf1 := fun w' h => (pf w' h).2.1
          have pf2 := fun w' h => (pf w' h).2.2
          clear pf
          refine reg_takeO 0 (v := ?vc0) at0 (by kernel_rfl) (by kernel_rfl) (by kernel_rfl) (by rfl) ?hyc0 hHeld ?restc0
          case hyc0 => (intro w' hSw; go_simp; try with_reducible rfl)
          try simp only [Act.put, List.setIfInBounds_toArray, List.set_cons_zero, List.set_cons_succ]
          refine reg_takeO 1 (v := ?vc1) (atS at0) (by kernel_rfl) (by kernel_rfl) (by kernel_rfl) (by rfl) ?hyc1 hHeld ?restc1
          case hyc1 => (intro w' hSw; go_simp; try with_reducible rfl)
          try simp only [Act.put, List.setIfInBounds_toArray, List.set_cons_zero, List.set_cons_succ]
          refine reg_takeO 2 (v := ?vc2) (atS (atS at0)) (by kernel_rfl) (by kernel_rfl) (by kernel_rfl) (by rfl) ?hyc2 hHeld ?restc2
          case hyc2 => (intro w' hSw; go_simp; try with_reducible rfl)
          try simp only [Act.put, List.setIfInBounds_toArray, List.set_cons_zero, List.set_cons_succ]
          refine reg_takeO 3 (v := ?vc3) (atS (atS (atS at0))) (by kernel_rfl) (by kernel_rfl) (by kernel_rfl) (by rfl) ?hyc3 hHeld ?restc3
          case hyc3 => (intro w' hSw; go_simp; try with_reducible rfl)
          try simp only [Act.put, List.setIfInBounds_toArray, List.set_cons_zero, List.set_cons_succ]
          refine reg_takeO 4 (v := ?vc4) (atS (atS (atS (atS at0)))) (by kernel_rfl) (by kernel_rfl) (by kernel_rfl) (by rfl) ?hyc4 hHeld ?restc4
          case hyc4 => (intro w' hSw; go_simp; try with_reducible rfl)
          try simp only [Act.put, List.setIfInBounds_toArray, List.set_cons_zero, List.set_cons_succ]
          refine reg_takeO 5 (v := ?vc5) (atS5 at0) (by kernel_rfl) (by kernel_rfl) (by kernel_rfl) (by rfl) ?hyc5 hHeld ?restc5
          case hyc5 => (intro w' hSw; go_simp; try with_reducible rfl)
          try simp only [Act.put, List.setIfInBounds_toArray, List.set_cons_zero, List.set_cons_succ]
          refine reg_takeO 6 (v := ?vc6) (atS5 (atS at0)) (by kernel_rfl) (by kernel_rfl) (by kernel_rfl) (by rfl) ?hyc6 hHeld ?restc6
          case hyc6 => (intro w' hSw; go_simp; try with_reducible rfl)
          try simp only [Act.put, List.setIfInBounds_toArray, List.set_cons_zero, List.set_cons_succ]
          refine reg_takeO 7 (v := ?vc7) (atS5 (atS (atS at0))) (by kernel_rfl) (by kernel_rfl) (by kernel_rfl) (by rfl) ?hyc7 hHeld ?restc7
          case hyc7 => (intro w' hSw; go_simp; try with_reducible rfl)
          try simp only [Act.put, List.setIfInBounds_toArray, List.set_cons_zero, List.set_cons_succ]
          refine reg_takeO 8 (v := ?vc8) (atS5 (atS (atS (atS at0)))) (by kernel_rfl) (by kernel_rfl) (by kernel_rfl) (by rfl) ?hyc8 hHeld ?restc8
          case hyc8 => (intro w' hSw; go_simp; try with_reducible rfl)
          try simp only [Act.put, List.setIfInBounds_toArray, List.set_cons_zero, List.set_cons_succ]
          refine reg_takeO 9 (v := ?vc9) (atS5 (atS (atS (atS (atS at0))))) (by kernel_rfl) (by kernel_rfl) (by kernel_rfl) (by rfl) ?hyc9 hHeld ?restc9
          case hyc9 => (intro w' hSw; go_simp; try with_reducible rfl)
          try simp only [Act.put, List.setIfInBounds_toArray, List.set_cons_zero, List.set_cons_succ]
          refine reg_takeO 10 (v := ?vc10) (atS5 (atS5 at0)) (by kernel_rfl) (by kernel_rfl) (by kernel_rfl) (by rfl) ?hyc10 hHeld ?restc10
          case hyc10 => (intro w' hSw; go_simp; try with_reducible rfl)
          try simp only [Act.put, List.setIfInBounds_toArray, List.set_cons_zero, List.set_cons_succ]
          refine reg_takeO 11 (v := ?vc11) (atS5 (atS5 (atS at0))) (by kernel_rfl) (by kernel_rfl) (by kernel_rfl) (by rfl) ?hyc11 hHeld ?restc11
          case hyc11 => (intro w' hSw; go_simp; try with_reducible rfl)
          try simp only [Act.put, List.setIfInBounds_toArray, List.set_cons_zero, List.set_cons_succ]
          refine reg_takeO 12 (v := ?vc12) (atS5 (atS5 (atS (atS at0)))) (by kernel_rfl) (by kernel_rfl) (by kernel_rfl) (by rfl) ?hyc12 hHeld ?restc12
          case hyc12 => (intro w' hSw; go_simp; try with_reducible rfl)
          try simp only [Act.put, List.setIfInBounds_toArray, List.set_cons_zero, List.set_cons_succ]
          refine reg_takeO 16 (v := ?vc16) (atS5 (atS5 (atS5 (atS at0)))) (by kernel_rfl) (by kernel_rfl) (by kernel_rfl) (by rfl) ?hyc16 hHeld ?restc16
          case hyc16 => (intro w' hSw; go_simp; try with_reducible rfl)
          try simp only [Act.put, List.setIfInBounds_toArray, List.set_cons_zero, List.set_cons_succ]
          refine reg_takeO 17 (v := ?vc17) (atS5 (atS5 (atS5 (atS (atS at0))))) (by kernel_rfl) (by kernel_rfl) (by kernel_rfl) (by rfl) ?hyc17 hHeld ?restc17
          case hyc17 => (intro w' hSw; go_simp; try with_reducible rfl)
          try simp only [Act.put, List.setIfInBounds_toArray, List.set_cons_zero, List.set_cons_succ]
          refine reg_takeO 18 (v := ?vc18) (atS5 (atS5 (atS5 (atS (atS (atS at0)))))) (by kernel_rfl) (by kernel_rfl) (by kernel_rfl) (by rfl) ?hyc18 hHeld ?restc18
          case hyc18 => (intro w' hSw; go_simp; try with_reducible rfl)
          try simp only [Act.put, List.setIfInBounds_toArray, List.set_cons_zero, List.set_cons_succ]
          refine reg_takeO 19 (v := ?vc19) (atS5 (atS5 (atS5 (atS (atS (atS (atS at0))))))) (by kernel_rfl) (by kernel_rfl) (by kernel_rfl) (by rfl) ?hyc19 hHeld ?restc19
          case hyc19 => (intro w' hSw; go_simp; try with_reducible rfl)
          try simp only [Act.put, List.setIfInBounds_toArray, List.set_cons_zero, List.set_cons_succ]
          refine wpAnyH_ready (rs := [13]) (by kernel_rfl) (by simp) ?_
          refine AllReadyH.cons (atS5 (atS5 (atS (atS (atS at0))))) (fun K hK => ?_) AllReadyH.nil
          go_simp
          refine (rlong_any (bs f.nm) f.k f.g _).mono ?_
          rintro e w4 ⟨rfl, hb4⟩
          rw [HLL.out]
          have HB4 := hid hb4
          go_wp2_with fail
          refine hK.out _ _ (ExO.of HB4.out) (fun hHeld => ?_)
          clear hK K
          try simp only [Act.put, List.setIfInBounds_toArray, List.set_cons_zero, List.set_cons_succ]
          refine reg_onO (ExO.of HB4.out) (fun hHeld => ?_)
          refine reg_takeO 14 (v := ?vc14) (atS5 (atS5 (atS (atS (atS (atS at0)))))) (by kernel_rfl) (by kernel_rfl) (by kernel_rfl) (by rfl) ?hyc14 hHeld ?restc14
          case hyc14 => (intro w' hSw; go_simp; try with_reducible rfl)
          try simp only [Act.put, List.setIfInBounds_toArray, List.set_cons_zero, List.set_cons_succ]
          refine reg_takeO 15 (v := ?vc15) (atS5 (atS5 (atS5 at0))) (by kernel_rfl) (by kernel_rfl) (by kernel_rfl) (by rfl) ?hyc15 hHeld ?restc15
          case hyc15 => (intro w' hSw; go_simp; try with_reducible rfl)
          try simp only [Act.put, List.setIfInBounds_toArray, List.set_cons_zero, List.set_cons_succ]
          refine wpAnyH_ready (rs := [20]) (by kernel_rfl) (by simp) ?_
          refine AllReadyH.cons (atS5 (atS5 (atS5 (atS5 at0)))) (fun K hK => ?_) AllReadyH.nil
          go_simp
          refine (rdecode_any (bs f.nm) x f.k f.g _ hx64).mono ?_
          rintro e w5 ⟨rfl, hb5⟩
          rw [HDR.out]
          have HB5 := hid hb5
          have HG5 : Hid (w3.grownBy w5 (some bx)) := ExO.trans hx0b (ExO.trans (ExO.of HB4.out) (ExO.of HB5.out))
          have HV5 : Hid (VB w5 bx 0 0 ⟨#[]⟩) := ((show VB w0b bx 0 0 ⟨#[]⟩ by unfold VB; rw [hh0b.out]; exact HV3.out).on HB4.out).on HB5.out
          obtain ⟨v0, vv1, vv2⟩ := HV5.out.cells
          have g0 := HV5.out.frozen 0; have g1 := HV5.out.frozen 1; have g2 := HV5.out.frozen 2
          go_wp2_with fail
          refine hK.out _ _ (ExO.of HB5.out) (fun hHeld => ?_)
          clear hK K
          try simp only [Act.put, List.setIfInBounds_toArray, List.set_cons_zero, List.set_cons_succ]
          refine reg_onO (ExO.of HB5.out) (fun hHeld => ?_)
          refine reg_takeO 21 (v := ?vc21) (atS5 (atS5 (atS5 (atS5 (atS at0))))) (by kernel_rfl) (by kernel_rfl) (by kernel_rfl) (by rfl) ?hyc21 hHeld ?restc21
          case hyc21 => (intro w' hSw; go_simp; try with_reducible rfl)
          try simp only [Act.put, List.setIfInBounds_toArray, List.set_cons_zero, List.set_cons_succ]
          refine reg_takeO 22 (v := ?vc22) (atS5 (atS5 (atS5 (atS5 (atS (atS at0)))))) (by kernel_rfl) (by kernel_rfl) (by kernel_rfl) (by rfl) ?hyc22 hHeld ?restc22
          case hyc22 => (intro w' hSw; go_simp; try with_reducible rfl)
          try simp only [Act.put, List.setIfInBounds_toArray, List.set_cons_zero, List.set_cons_succ]
          refine wpAnyH_ready (rs := [23]) (by kernel_rfl) (by simp) ?_
          refine AllReadyH.cons (atS5 (atS5 (atS5 (atS5 (atS (atS (atS at0))))))) (fun K hK => ?_) AllReadyH.nil
          go_simp
          skip
          refine hK.out _ _ (ExO.set3 rfl _ _ _) (fun hHeld => ?_)
          clear hK K
          try simp only [Act.put]
          refine reg_takeO 24 (v := ?vc24) (atS5 (atS5 (atS5 (atS5 (atS (atS (atS (atS at0)))))))) (by kernel_rfl) (by kernel_rfl) (by kernel_rfl) (by rfl) ?hyc24 hHeld ?restc24
          case hyc24 => (intro w' hSw; go_simp; try with_reducible rfl)
          try simp only [Act.put, List.setIfInBounds_toArray, List.set_cons_zero, List.set_cons_succ]
          refine wpAnyH_done (by kernel_rfl) ?_ _
          refine NoPanic.normal ?_
          clear pp pf0 pf1 pf2
          go_wp2_with fail
          exact ret_VBe (by rfl) (by rfl) (HV5.out.set3 0 0 ⟨#[]⟩) (by rfl) (by rfl) ⟨by rw [HE.out]; rfl, B3 (HGB.out _ HG5.out) HBl.out _ _ _⟩
    · have t1 : ((s.length : Int) != T) = true := by simpa using hlen
      have HE : Hid (getR s l nm = _) := getR_form (s := s) (nm := nm) (l := l) (fun h => hlen (by rw [h.2, HT.out, layT_right hr]))
      clear hr hlen
      go_wp2_with fail
      exact ret_VBe (by rfl) (by rfl) (HV2.out.set3 0 0 ⟨#[]⟩) (by rfl) (by rfl) ⟨by rw [HE.out]; rfl, B3 HBW2.out HBl.out _ _ _⟩
end Go.Proofs.Ytggfcbncjkpkgaa
