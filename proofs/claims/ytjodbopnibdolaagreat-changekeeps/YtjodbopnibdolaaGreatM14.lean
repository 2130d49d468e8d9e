/-
  The document's Set of layer 6.
  The document's Encode of layer 6; the bytes of fields: mathematics.
  The bytes of fields, read: mathematics; rows of fields of the call's own; the document's Decode of layer 6.
-/
import Derived.Test.YtjodbopnibdolaaGreatM13

namespace Go.Proofs.YtjodbopnibdolaaGreat
open Go.RowKit
set_option linter.unusedVariables false

/-- The bytes of a value. -/
def encB (vk n : Int) (t : ByteArray) (k g : Int) : List UInt8 := (encT vk n t k g).data.toList
theorem encB_eq (vk n : Int) (t : ByteArray) (k g : Int) : encT vk n t k g = bs (encB vk n t k g) := by
  unfold encB bs; simp
theorem encB_length {vk n : Int} {t : ByteArray} {k g : Int} (h : rightF vk n t.size k g = true) : ((encB vk n t k g).length : Int) = longF k g := by
  have hm : mayF k g = true := by
    have h1 := h
    unfold rightF at h1
    simp only [Bool.and_eq_true] at h1
    exact h1.1.1
  unfold encB encT
  rw [if_pos h]
  unfold encL
  by_cases h12 : k = 12
  · subst h12
    rw [if_pos rfl]
    have hl : longF 12 g = g := by unfold longF; rw [hm]; rfl
    have h2 : (t.size : Int) = g := by
      unfold rightF at h
      simp only [Bool.and_eq_true, if_true, decide_eq_true_eq] at h
      exact h.2.2
    rw [hl, ← h2]
    rfl
  · rw [if_neg h12]
    have h8 := longF_le8 g h12
    have h0 := longF_nonneg k g
    show ((((le n 8).take (longF k g).toNat).length : Nat) : Int) = _
    rw [List.length_take, le_length]; omega

/-- What a field's setting makes of an object's bytes; and its error. -/
def setS6 (s : List UInt8) (l : List Fd) (nm : List UInt8) (vk n : Int) (t : ByteArray) : List UInt8 × Int :=
  if rightL l = true ∧ (s.length : Int) = layN l then
    match findN l nm with
    | none => ([], 61)
    | some i => match l[i]?, (layP 0 l)[i]? with
      | some f, some p => if rightF vk n t.size f.k f.g then (setL s p.toNat (encB vk n t f.k f.g), 0) else ([], 50)
      | _, _ => ([], 0)
  else ([], 60)
section
variable {s : List UInt8} {l : List Fd} {nm : List UInt8} {vk n : Int} {t : ByteArray}
theorem set_form (h : ¬ (rightL l = true ∧ (s.length : Int) = layN l)) : setS6 s l nm vk n t = ([], 60) := by unfold setS6; rw [if_neg h]
theorem set_none (h : rightL l = true ∧ (s.length : Int) = layN l) (hf : findN l nm = none) : setS6 s l nm vk n t = ([], 61) := by unfold setS6; rw [if_pos h, hf]
theorem set_some (h : rightL l = true ∧ (s.length : Int) = layN l) {i : Nat} {f : Fd} {p : Int} (hf : findN l nm = some i) (hi : l[i]? = some f) (hp : (layP 0 l)[i]? = some p) : setS6 s l nm vk n t = if rightF vk n t.size f.k f.g then (setL s p.toNat (encB vk n t f.k f.g), 0) else ([], 50) := by
  unfold setS6; rw [if_pos h, hf]; simp only [hi, hp]
end
def SetQ (w : World) (r : List UInt8 × Int) (e : Ending) (w' : World) : Prop := e = .returned (.tuple #[.string (bs r.1), .int .i64 r.2]) ∧ Below w.heap.size w w'

set_option maxRecDepth 20000 in
set_option maxHeartbeats 4000000 in
theorem r6set_any {w : World} {A : Option Addr} {m c : Nat} {l : List Fd} (h : RdF w w.heap.size A m c l) (hs : short l) (s : List UInt8) (hsl : s.length ≤ 100000) (nm : List UInt8) (vk n : Int) (t : ByteArray) (hn : U64 n) :
    Calls Tryz.prog 29 #[.string (bs s), .slice A m c, .string (bs nm), .agg #[.int .i64 vk, .int .u64 n, .string t]] w (SetQ w (setS6 s l nm vk n t)) := by
  have HL := hid h.1
  have H := hid h; have HS := hid hs; have HN := hid hn; clear h hs hn
  have hsi : (s.length : Int) ≤ 100000 := by omega
  obtain ⟨w0, hw0⟩ : ∃ w0, w0 = w.alloc (.cells #[.int .i64 vk, .int .u64 n, .string t] 33) := ⟨_, rfl⟩
  have HW0 := hid hw0
  have HB0 : Hid (Below w.heap.size w w0) := by rw [hw0]; exact B1 _ _
  obtain ⟨bx, hbx⟩ : ∃ bx, bx = w.heap.size := ⟨_, rfl⟩
  have HBX := hid hbx
  have HV0 : Hid (VB w0 bx vk n t) := by rw [hw0, hbx]; exact vb_new w vk n t
  clear hw0 hbx
  obtain ⟨R, hR⟩ : ∃ R, R = setS6 s l nm vk n t := ⟨_, rfl⟩
  rw [← hR]
  have HRR := hid hR; clear hR
  go_enter Tryz.func29, Tryz.ntmps29
  go_wp2_with fail
  rw [← HW0.out, ← HBX.out]
  refine (r6layout_any (H.out.on HB0.out) HS.out).mono ?_
  rintro e w1 ⟨v1, rfl, ho1, hb1⟩
  obtain ⟨A1, c1, rfl, hr1⟩ := ho1.rd lay_I64
  obtain ⟨M, hM⟩ : ∃ M, M = (layL l).length := ⟨_, rfl⟩
  rw [← hM] at hr1 ⊢
  have HR1 := hid hr1; have HM := hid hM; have HB1 := hid hb1
  have HBW1 := hid (Bt HB0.out hb1)
  have HV1 := hid (HV0.out.on hb1)
  obtain ⟨T, hT⟩ : ∃ T, T = layT l := ⟨_, rfl⟩
  have hTb := layT_bd l
  rw [← hT] at hTb ⊢
  have HT := hid hT
  clear ho1 hr1 hM hb1 hT
  go_wp2_with fail
  refine (r6right_any (H.out.on HBW1.out) HS.out).mono ?_
  rintro e w2 ⟨rfl, hb2⟩
  have HBW2 := hid (Bt HBW1.out hb2)
  have HV2 := hid (HV1.out.on hb2); have HR2 := hid (HR1.out.on hb2)
  clear hb2
  cases hr : rightL l with
  | false =>
    have HE : Hid (R = ([], 60)) := by rw [HRR.out]; exact set_form (by rw [hr]; simp)
    clear hr
    go_wp2_with fail
    go_ret2
    exact ⟨by rw [HE.out]; rfl, HBW2.out⟩
  | true =>
    have HR := hid hr
    by_cases hlen : (s.length : Int) = T
    · have t1 : ((s.length : Int) != T) = false := by rw [hlen]; simp
      have HC : Hid (rightL l = true ∧ (s.length : Int) = layN l) := ⟨hr, by rw [hlen, HT.out, layT_right hr]⟩
      clear hr hlen
      go_wp2_with fail
      refine (r6find_any (H.out.on HBW2.out) nm).mono ?_
      rintro e w3 ⟨rfl, hb3⟩
      have HBW3 := hid (Bt HBW2.out hb3)
      have HV3 := hid (HV2.out.on hb3); have HR3 := hid (HR2.out.on hb3)
      clear hb3
      cases hf : findN l nm with
      | none =>
        rw [findI_none hf]
        have HE : Hid (R = ([], 61)) := by rw [HRR.out]; exact set_none HC.out hf
        clear hf
        go_wp2_with fail
        go_ret2
        exact ⟨by rw [HE.out]; rfl, HBW3.out⟩
      | some i =>
        rw [findI_some hf]
        obtain ⟨f, hi, hnm9, hfst⟩ := findN_get hf
        clear hnm9 hfst
        obtain ⟨hin, hk64, hg64, hnl, b, off, rfl, hcf⟩ := H.out.at hi
        clear hk64 hg64 hnl
        obtain ⟨p, hp⟩ : ∃ p, (layP 0 l)[i]? = some p := ⟨_, layP_get hi 0⟩
        have hbd := lay_in HC.out.1 hi hp
        have hlp := long_pos (right_may HC.out.1 f (List.mem_of_getElem? hi))
        have HE0 : Hid (R = if rightF vk n t.size f.k f.g then (setL s p.toNat (encB vk n t f.k f.g), 0) else ([], 50)) := by rw [HRR.out]; exact set_some HC.out hf hi hp
        have hiM : i < M := by rw [HM.out, layL_right HC.out.1, layP_length, HL.out]; exact hin
        obtain ⟨b2, off2, rfl, hbl2, hc2⟩ := HR3.out.2.2.2.2 (by omega)
        have hiL : i < (layL l).length := by rw [← HM.out]; exact hiM
        have hcp := hc2 i hiL
        have hpe : (layL l)[i] = p := by
          have : (layL l)[i]? = some p := by rw [layL_right HC.out.1]; exact hp
          rw [List.getElem?_eq_getElem hiL] at this; cases this; rfl
        rw [hpe] at hcp
        obtain ⟨pn, hpn⟩ : ∃ pn : Nat, p = (pn : Int) := ⟨p.toNat, by omega⟩
        rw [hpn] at hcp HE0
        simp only [Int.toNat_natCast] at HE0
        have HCF := hid hcf; have HCPb := hid hcp; have HBL2 := hid hbl2
        have HEND : Hid (rightF vk n t.size f.k f.g = true → pn + (encB vk n t f.k f.g).length ≤ s.length) := fun h => by
          have h1 := encB_length h
          have h2 := HC.out.2
          have h3 : f.long = longF f.k f.g := rfl
          omega
        have hii : (i : Int) < m := by omega
        have hiMi : (i : Int) < M := by omega
        have hi0 : (0 : Int) ≤ i := by omega
        have hineg : decide ((i : Int) < 0) = false := decide_eq_false (by omega)
        clear hcf hcp hc2 hpe hp hi hf hbd hlp hpn HC hbl2
        obtain ⟨E, hE⟩ : ∃ E, E = encB vk n t f.k f.g := ⟨_, rfl⟩
        rw [← hE] at HE0 HEND
        have HEE : Hid (encT vk n t f.k f.g = bs E) := by rw [hE]; exact encB_eq _ _ _ _ _
        clear hE
        go_wp2_with fail
        refine reg_begin (by kernel_rfl) (fun w0a hx0a hHeld => ?_)
        have pf : ∀ w', Ext w0a w' → FdC w' b (off + i * 3) f := fun w' h => HCF.out w' (Bt HBW3.out (hx0a.trans h))
        have pf0 := fun w' h => (pf w' h).1
        have pf1 := fun w' h => (pf w' h).2.1
        have pf2 := fun w' h => (pf w' h).2.2
        have pv0 : ∀ w', Ext w0a w' → w'.cell? ⟨bx, 0, none⟩ = some (.int .i64 vk) := fun w' h => ((HV3.out.on (hx0a.trans h)).cells).1
        have pv1 : ∀ w', Ext w0a w' → w'.cell? ⟨bx, 1, none⟩ = some (.int .u64 n) := fun w' h => ((HV3.out.on (hx0a.trans h)).cells).2.1
        have pv2 : ∀ w', Ext w0a w' → w'.cell? ⟨bx, 2, none⟩ = some (.string t) := fun w' h => ((HV3.out.on (hx0a.trans h)).cells).2.2
        clear pf
        refine reg_take 0 (v := ?vb0) at0 (by kernel_rfl) (by kernel_rfl) (by kernel_rfl) (by rfl) ?hyb0 hHeld ?restb0
        case hyb0 => (intro w' hSw; go_simp; try with_reducible rfl)
        try simp only [Act.put, List.setIfInBounds_toArray, List.set_cons_zero, List.set_cons_succ]
        refine reg_take 1 (v := ?vb1) (atS at0) (by kernel_rfl) (by kernel_rfl) (by kernel_rfl) (by rfl) ?hyb1 hHeld ?restb1
        case hyb1 => (intro w' hSw; go_simp; try with_reducible rfl)
        try simp only [Act.put, List.setIfInBounds_toArray, List.set_cons_zero, List.set_cons_succ]
        refine reg_take 2 (v := ?vb2) (atS (atS at0)) (by kernel_rfl) (by kernel_rfl) (by kernel_rfl) (by rfl) ?hyb2 hHeld ?restb2
        case hyb2 => (intro w' hSw; go_simp; try with_reducible rfl)
        try simp only [Act.put, List.setIfInBounds_toArray, List.set_cons_zero, List.set_cons_succ]
        refine reg_take 3 (v := ?vb3) (atS (atS (atS at0))) (by kernel_rfl) (by kernel_rfl) (by kernel_rfl) (by rfl) ?hyb3 hHeld ?restb3
        case hyb3 => (intro w' hSw; go_simp; try with_reducible rfl)
        try simp only [Act.put, List.setIfInBounds_toArray, List.set_cons_zero, List.set_cons_succ]
        refine reg_take 4 (v := ?vb4) (atS (atS (atS (atS at0)))) (by kernel_rfl) (by kernel_rfl) (by kernel_rfl) (by rfl) ?hyb4 hHeld ?restb4
        case hyb4 => (intro w' hSw; go_simp; try with_reducible rfl)
        try simp only [Act.put, List.setIfInBounds_toArray, List.set_cons_zero, List.set_cons_succ]
        refine wpAnyH_ready (rs := [5]) (by kernel_rfl) (by simp) ?_
        refine AllReadyH.cons (atS5 at0) (fun K hK => ?_) AllReadyH.nil
        go_simp
        refine (rencode_any vk n t (bs f.nm) f.k f.g _ HN.out).mono ?_
        rintro e w4 ⟨rfl, hb4⟩
        rw [HEE.out]
        have HB4 := hid hb4
        go_wp2_with fail
        refine hK.out _ _ HB4.out (fun hHeld => ?_)
        clear hK K
        try simp only [Act.put, List.setIfInBounds_toArray, List.set_cons_zero, List.set_cons_succ]
        refine reg_on HB4.out (fun hHeld => ?_)
        refine reg_take 6 (v := ?vb6) (atS5 (atS at0)) (by kernel_rfl) (by kernel_rfl) (by kernel_rfl) (by rfl) ?hyb6 hHeld ?restb6
        case hyb6 => (intro w' hSw; go_simp; try with_reducible rfl)
        try simp only [Act.put, List.setIfInBounds_toArray, List.set_cons_zero, List.set_cons_succ]
        refine reg_take 7 (v := ?vb7) (atS5 (atS (atS at0))) (by kernel_rfl) (by kernel_rfl) (by kernel_rfl) (by rfl) ?hyb7 hHeld ?restb7
        case hyb7 => (intro w' hSw; go_simp; try with_reducible rfl)
        try simp only [Act.put, List.setIfInBounds_toArray, List.set_cons_zero, List.set_cons_succ]
        refine reg_take 8 (v := ?vb8) (atS5 (atS (atS (atS at0)))) (by kernel_rfl) (by kernel_rfl) (by kernel_rfl) (by rfl) ?hyb8 hHeld ?restb8
        case hyb8 => (intro w' hSw; go_simp; try with_reducible rfl)
        try simp only [Act.put, List.setIfInBounds_toArray, List.set_cons_zero, List.set_cons_succ]
        refine reg_take 9 (v := ?vb9) (atS5 (atS (atS (atS (atS at0))))) (by kernel_rfl) (by kernel_rfl) (by kernel_rfl) (by rfl) ?hyb9 hHeld ?restb9
        case hyb9 => (intro w' hSw; go_simp; try with_reducible rfl)
        try simp only [Act.put, List.setIfInBounds_toArray, List.set_cons_zero, List.set_cons_succ]
        refine reg_take 10 (v := ?vb10) (atS5 (atS5 at0)) (by kernel_rfl) (by kernel_rfl) (by kernel_rfl) (by rfl) ?hyb10 hHeld ?restb10
        case hyb10 => (intro w' hSw; go_simp; try with_reducible rfl)
        try simp only [Act.put, List.setIfInBounds_toArray, List.set_cons_zero, List.set_cons_succ]
        refine wpAnyH_done (by kernel_rfl) ?_ _
        refine NoPanic.normal ?_
        clear pf0 pf1 pf2 pv0 pv1 pv2
        have HBW4 := hid (Bt HBW3.out (Bt hx0a HB4.out))
        cases hrf : rightF vk n t.size f.k f.g with
        | false =>
          have hee : encE vk n t f.k f.g = 50 := by simp [encE, hrf]
          have HE : Hid (R = ([], 50)) := by rw [HE0.out, hrf]; rfl
          rw [hee]
          clear hrf hee
          go_wp2_with fail
          go_ret2
          exact ⟨by rw [HE.out]; rfl, HBW4.out⟩
        | true =>
          have hee : encE vk n t f.k f.g = 0 := by simp [encE, hrf]
          have HE : Hid (R = (setL s pn E, 0)) := by rw [HE0.out, hrf]; rfl
          have hend := HEND.out hrf
          rw [hee]
          clear hrf hee
          have HB34 : Hid (Below w3.heap.size w3 w4) := Bt hx0a HB4.out
          have pp := (HB34.out.cell (p := ⟨b2, off2 + i, none⟩) HBL2.out).trans HCPb.out
          have hxe1 : (⟨s.toArray⟩ : ByteArray).extract 0 pn = ⟨(s.take pn).toArray⟩ := by rw [ext_at]; simp
          have hxe2 : (⟨s.toArray⟩ : ByteArray).extract (pn + E.length) s.length = ⟨(s.drop (pn + E.length)).toArray⟩ := by rw [ext_at]; simp
          have q1 : IntKind.i64.wrap ((pn : Int) + (E.length : Int)) = (pn : Int) + (E.length : Int) := by rw [IntKind.wrap_i64]; omega
          have tn : ((pn : Int) + (E.length : Int)).toNat = pn + E.length := by omega
          have s0 : 0 ≤ (pn : Int) + (E.length : Int) := by omega
          have s1 : (pn : Int) + (E.length : Int) ≤ (s.length : Int) := by omega
          have s2 : pn + E.length ≤ s.length := hend
          have s3 : (pn : Int) ≤ (s.length : Int) := by omega
          have s4 : pn ≤ s.length := by omega
          go_wp2_with fail
          go_region
          go_wp2_with fail
          go_ret2
          refine ⟨?_, Bd HBW4.out 1⟩
          rw [HE.out]
          show Ending.returned (.tuple #[.string (⟨(s.take pn).toArray⟩ ++ ⟨E.toArray⟩ ++ ⟨(s.drop (pn + E.length)).toArray⟩), .int .i64 0]) = _
          rw [ByteArray.mk_append_mk, ByteArray.mk_append_mk]
          show _ = Ending.returned (.tuple #[.string ⟨(s.take pn ++ (E ++ s.drop (pn + E.length))).toArray⟩, .int .i64 0])
          simp
    · have t1 : ((s.length : Int) != T) = true := by simpa using hlen
      have HE : Hid (R = ([], 60)) := by rw [HRR.out]; exact set_form (fun h => hlen (by rw [h.2, HT.out, layT_right hr]))
      clear hr hlen
      go_wp2_with fail
      go_ret2
      exact ⟨by rw [HE.out]; rfl, HBW2.out⟩
end Go.Proofs.YtjodbopnibdolaaGreat

namespace Go.Proofs.YtjodbopnibdolaaGreat
open Go.RowKit
set_option linter.unusedVariables false

theorem u64_id {x : Int} (h0 : 0 ≤ x) (h : x < 18446744073709551616) : IntKind.u64.wrap x = x := by rw [IntKind.wrap_u64]; omega
theorem rput1 (n : Int) (h0 : 0 ≤ n) (h : n < 256) : rputL n 1 = le n 1 := by
  unfold rputL; rw [if_pos (by simp [fits, show isW 1 = true from rfl, pw1]; omega)]; rfl
def encF (f : Fd) : List UInt8 := le f.nm.length 1 ++ f.nm ++ le f.k 1 ++ le f.g 1
def encP (l : List Fd) : List UInt8 := (l.map encF).flatten
/-- The bytes of fields. -/
def encA (l : List Fd) : List UInt8 := le l.length 1 ++ encP l
theorem encF_length (f : Fd) : (encF f).length = f.nm.length + 3 := by unfold encF; simp only [List.length_append, le_length]; omega
theorem encP_take {l : List Fd} {i : Nat} {f : Fd} (h : l[i]? = some f) : encP (l.take (i + 1)) = encP (l.take i) ++ encF f := by
  unfold encP; rw [List.take_add_one, h]; simp
theorem name_len {s : List UInt8} (h : nameB s = true) : 1 ≤ s.length ∧ s.length ≤ 15 := by
  unfold nameB at h; simp only [Bool.and_eq_true, decide_eq_true_eq] at h; omega
theorem right_at {l : List Fd} (h : rightL l = true) {i : Nat} {f : Fd} (hi : l[i]? = some f) : 1 ≤ f.nm.length ∧ f.nm.length ≤ 15 ∧ 0 ≤ f.k ∧ f.k ≤ 12 ∧ 0 ≤ f.g ∧ f.g ≤ 64 := by
  obtain ⟨h1, h2, h3⟩ := (rightL_iff.1 h).2 i f hi
  have h4 := name_len h1
  unfold Fd.may at h2
  by_cases c : f.k = 12
  · rw [c] at h2; have := may12 h2; omega
  · have := may_cases h2 c; omega
theorem encP_len {l : List Fd} (h : rightL l = true) : ∀ j, j ≤ l.length → (encP (l.take j)).length ≤ 18 * j := by
  intro j
  induction j with
  | zero => intro _; simp [encP]
  | succ j ih =>
    intro hj
    have hi : l[j]? = some l[j] := List.getElem?_eq_getElem (by omega)
    rw [encP_take hi, List.length_append, encF_length]
    have := ih (by omega)
    have := right_at h hi
    omega
def encE6 (l : List Fd) : List UInt8 × Int := if rightL l then (encA l, 0) else ([], 60)

end Go.Proofs.YtjodbopnibdolaaGreat

namespace Go.Proofs.YtjodbopnibdolaaGreat
open Go.RowKit
set_option linter.unusedVariables false

theorem le1 (x : Int) : le x 1 = [byteAt x 0] := rfl
theorem byteAt0 {x : Int} (h0 : 0 ≤ x) (h : x < 256) : ((byteAt x 0).toNat : Int) = x := by
  have h1 : pw ((0 : Nat) : Int) = 1 := rfl
  unfold byteAt
  rw [h1, UInt8.toNat_ofNat']
  omega
theorem encP_split {l : List Fd} {j : Nat} {f : Fd} (h : l[j]? = some f) : encP l = encP (l.take j) ++ (encF f ++ encP (l.drop (j + 1))) := by
  have hi : j < l.length := by
    by_cases c : j < l.length
    · exact c
    · rw [List.getElem?_eq_none (by omega)] at h; cases h
  have hd : l.drop j = f :: l.drop (j + 1) := by
    rw [List.drop_eq_getElem_cons hi]
    rw [List.getElem?_eq_getElem hi] at h
    cases h; rfl
  have e : encP l = encP (l.take j) ++ encP (l.drop j) := by
    unfold encP; rw [← List.flatten_append, ← List.map_append, List.take_append_drop]
  rw [e, hd]
  rfl
/-- What stands at a field's place among the bytes. -/
theorem dec_at {s : List UInt8} {l : List Fd} (hr : rightL l = true) (hs : encA l = s) {j : Nat} {f : Fd} (hf : l[j]? = some f) {z : Nat} (hz : z = 1 + (encP (l.take j)).length) :
    ∃ R, s.drop z = encF f ++ R ∧ s.length = z + (encF f).length + R.length ∧ R = encP (l.drop (j + 1)) := by
  refine ⟨encP (l.drop (j + 1)), ?_, ?_, rfl⟩
  · rw [← hs]
    unfold encA
    rw [encP_split hf, ← List.append_assoc, List.drop_append_of_le_length (by simp [le_length]; omega), List.drop_of_length_le (by simp [le_length]; omega), List.nil_append]
  · rw [← hs]
    unfold encA
    rw [encP_split hf]
    simp only [List.length_append, le_length]
    omega
theorem dec_step {s : List UInt8} {l : List Fd} (hr : rightL l = true) (hs : encA l = s) {j : Nat} (hj : j ≤ l.length) {z : Nat} (hz : z = 1 + (encP (l.take j)).length) (hlt : z < s.length) :
    ∃ f, l[j]? = some f ∧ s[z].toNat = f.nm.length ∧ z + f.nm.length + 2 < s.length ∧ (s.drop (z + 1)).take f.nm.length = f.nm ∧ (∀ h : z + 1 + f.nm.length < s.length, (s[z + 1 + f.nm.length].toNat : Int) = f.k) ∧ (∀ h : z + 2 + f.nm.length < s.length, (s[z + 2 + f.nm.length].toNat : Int) = f.g) ∧ z + 3 + f.nm.length = 1 + (encP (l.take (j + 1))).length := by
  have hjl : j < l.length := by
    by_cases c : j < l.length
    · exact c
    · obtain rfl : j = l.length := by omega
      rw [List.take_length] at hz
      have : s.length = 1 + (encP l).length := by rw [← hs]; unfold encA; rw [List.length_append, le_length]
      omega
  have hf : l[j]? = some l[j] := List.getElem?_eq_getElem hjl
  generalize l[j] = f at hf
  obtain ⟨R, h1, h2, _⟩ := dec_at hr hs hf hz
  obtain ⟨a1, a2, a3, a4, a5, a6⟩ := right_at hr hf
  rw [encF_length] at h2
  have hD : s.drop z = byteAt f.nm.length 0 :: (f.nm ++ (byteAt f.k 0 :: byteAt f.g 0 :: R)) := by rw [h1]; unfold encF; simp [le1]
  have hget : ∀ i, s[z + i]? = (byteAt f.nm.length 0 :: (f.nm ++ (byteAt f.k 0 :: byteAt f.g 0 :: R)))[i]? := fun i => by rw [← hD, List.getElem?_drop]
  refine ⟨f, hf, ?_, by omega, ?_, fun h => ?_, fun h => ?_, ?_⟩
  · have h3 := hget 0
    rw [Nat.add_zero, List.getElem?_eq_getElem hlt] at h3
    simp at h3
    rw [h3]
    have := byteAt0 (x := f.nm.length) (by omega) (by omega)
    omega
  · have h3 : s.drop (z + 1) = f.nm ++ (byteAt f.k 0 :: byteAt f.g 0 :: R) := by
      rw [← List.drop_drop, hD]; rfl
    rw [h3, List.take_left']; rfl
  · have h3 := hget (1 + f.nm.length)
    rw [← Nat.add_assoc, List.getElem?_eq_getElem h, Nat.add_comm 1, List.getElem?_cons_succ, List.getElem?_append_right (by omega), Nat.sub_self] at h3
    simp at h3
    rw [h3]; exact byteAt0 a3 (by omega)
  · have h3 := hget (2 + f.nm.length)
    rw [← Nat.add_assoc, List.getElem?_eq_getElem h, show 2 + f.nm.length = (f.nm.length + 1) + 1 by omega, List.getElem?_cons_succ, List.getElem?_append_right (by omega), show f.nm.length + 1 - f.nm.length = 1 by omega] at h3
    simp at h3
    rw [h3]; exact byteAt0 a5 (by omega)
  · rw [encP_take hf, List.length_append, encF_length]; omega
/-- Fields are told by their bytes. -/
theorem encA_inj {l l' : List Fd} (h : rightL l = true) (h' : rightL l' = true) (he : encA l = encA l') : l = l' := by
  have key : ∀ j, j ≤ l.length → j ≤ l'.length ∧ l.take j = l'.take j := by
    intro j
    induction j with
    | zero => intro _; exact ⟨by omega, by simp⟩
    | succ j ih =>
      intro hj
      obtain ⟨h1, h2⟩ := ih (by omega)
      have hlt : 1 + (encP (l.take j)).length < (encA l).length := by
        have hf : l[j]? = some l[j] := List.getElem?_eq_getElem (by omega)
        obtain ⟨R, _, h3, _⟩ := dec_at h rfl hf (z := 1 + (encP (l.take j)).length) rfl
        rw [encF_length] at h3; omega
      obtain ⟨f, f1, f2, f3, f4, f5, f6, f7⟩ := dec_step h rfl (by omega) rfl hlt
      obtain ⟨g, g1, g2, g3, g4, g5, g6, g7⟩ := dec_step h' he.symm h1 (z := 1 + (encP (l.take j)).length) (by rw [h2]) hlt
      have en : f.nm.length = g.nm.length := by omega
      have e1 : f.nm = g.nm := by rw [← f4, ← g4, en]
      have e2 : f.k = g.k := by
        rw [← f5 (by omega), ← g5 (by omega)]
        simp only [en]
      have e3 : f.g = g.g := by
        rw [← f6 (by omega), ← g6 (by omega)]
        simp only [en]
      have e : f = g := by cases f; cases g; simp at e1 e2 e3; simp [e1, e2, e3]
      have hjl' : j < l'.length := by
        by_cases c : j < l'.length
        · exact c
        · rw [List.getElem?_eq_none (by omega)] at g1; cases g1
      refine ⟨by omega, ?_⟩
      rw [List.take_add_one, List.take_add_one, h2, f1, g1, e]
  have hl : l.length = l'.length := by
    have h1 := (key l.length (Nat.le_refl _)).1
    have h3 : (encA l)[0]? = (encA l')[0]? := by rw [he]
    unfold encA at h3
    rw [le1, le1] at h3
    simp at h3
    have h4 := byteAt0 (x := l.length) (by omega) (by have := right_len h; omega)
    have h5 := byteAt0 (x := l'.length) (by omega) (by have := right_len h'; omega)
    rw [h3] at h4
    omega
  have := (key l.length (Nat.le_refl _)).2
  rw [List.take_length, hl, List.take_length] at this
  exact this

/-! ### rows of fields of the call's own -/
def Fd.cells (f : Fd) : List Value := [.string (bs f.nm), .int .i64 f.k, .int .i64 f.g]
def cellsFd (l : List Fd) : List Value := (l.map Fd.cells).flatten
theorem cellsFd_length (l : List Fd) : (cellsFd l).length = l.length * 3 := by
  induction l with
  | nil => rfl
  | cons o os ih => have : cellsFd (o :: os) = o.cells ++ cellsFd os := rfl; rw [this, List.length_append, ih]; simp [Fd.cells]; omega
theorem cellsFd_get : ∀ (os : List Fd) (i : Nat) (h : i < os.length), ∀ j, j < 3 → (cellsFd os)[i * 3 + j]? = (os[i].cells)[j]? := by
  intro os
  induction os with
  | nil => intro i h; simp at h
  | cons x os ih =>
    intro i h j hj
    have e : cellsFd (x :: os) = x.cells ++ cellsFd os := rfl
    have hl : x.cells.length = 3 := rfl
    rw [e]
    cases i with
    | zero => rw [List.getElem?_append_left (by omega), Nat.zero_mul, Nat.zero_add]; rfl
    | succ i =>
      rw [List.getElem?_append_right (by omega), hl, show (i + 1) * 3 + j - 3 = i * 3 + j by omega]
      exact ih i (by simpa using h) j hj
def OwF (w : World) (base : Nat) (v : Value) (l : List Fd) : Prop := w.ownsRow base 29 3 v l.length (cellsFd l)
theorem OwF.nil (w : World) (base : Nat) : OwF w base (.slice none 0 0) [] := World.ownsRow_nil _ _ _ _
section
variable {w w' : World} {base : Nat} {v : Value} {l : List Fd}
theorem OwF.on (h : OwF w base v l) (hb : Below w.heap.size w w') : OwF w' base v l := by
  refine ⟨h.1, ?_⟩
  rcases h.2 with h1 | ⟨g, cap, cur, hv, hbase, hg, h3⟩
  · exact .inl h1
  · exact .inr ⟨g, cap, cur, hv, hbase, (hb.block g (row_lt hg)).trans hg, h3⟩
theorem OwF.heapEq (h : OwF w base v l) (he : w'.heap = w.heap) : OwF w' base v l := by
  refine ⟨h.1, ?_⟩
  rcases h.2 with h1 | ⟨g, cap, cur, hv, hbase, hg, h3⟩
  · exact .inl h1
  · exact .inr ⟨g, cap, cur, hv, hbase, by rw [he]; exact hg, h3⟩
theorem OwF.less {base' : Nat} (h : OwF w base v l) (hb : base' ≤ base) : OwF w base' v l := by
  refine ⟨h.1, ?_⟩
  rcases h.2 with h1 | ⟨g, cap, cur, hv, hbase, hg⟩
  · exact .inl h1
  · exact .inr ⟨g, cap, cur, hv, Nat.le_trans hb hbase, hg⟩
theorem OwF.row (h : OwF w base v l) : ∀ j, v.ownBlock = some j → base ≤ j := by
  intro j hj
  rcases h.2 with ⟨e, _⟩ | ⟨g, cap, cur, e, hbase, _⟩
  · rw [e] at hj; simp [Value.ownBlock] at hj
  · rw [e] at hj; simp [Value.ownBlock] at hj; omega
theorem OwF.rd (h : OwF w base v l) (hx : ∀ f ∈ l, I64 f.k ∧ I64 f.g ∧ f.nm.length ≤ nmMax) : ∃ A cap, v = .slice A l.length cap ∧ RdF w w.heap.size A l.length cap l := by
  rcases h.2 with ⟨rfl, hn⟩ | ⟨g, cap, cur, rfl, hbase, hg, hnc, hm, hs, hl⟩
  · have : l = [] := List.eq_nil_of_length_eq_zero hn
    subst this
    exact ⟨none, 0, rfl, RdF.nil _ _⟩
  · refine ⟨some ⟨g, 0, none⟩, cap, rfl, rfl, hnc, hm, hx, fun hn => ⟨g, 0, rfl, row_lt hg, fun i hi => ?_⟩⟩
    have t : ∀ j, j < 3 → w.cell? ⟨g, 0 + i * 3 + j, none⟩ = (l[i].cells)[j]? := fun j hj => by
      rw [row_cell hg, Nat.zero_add, ← cellsFd_get l i hi j hj, ← hl, List.getElem?_take_of_lt (by omega), Array.getElem?_toList]
    exact ⟨t 0 (by omega), t 1 (by omega), t 2 (by omega)⟩
end
theorem infoFd : (Tryz.prog.info? 29).map (fun i => (i.zero, i.size, i.bytes)) = some (some (.agg #[.string ⟨#[]⟩, .int .i64 0, .int .i64 0]), 3, 32) := by kernel_rfl
/-- append(v, f). -/
theorem run_appFd {w : World} {base : Nat} {v : Value} {l : List Fd} (h : OwF w base v l) (f : Fd) (hlen : l.length ≤ 1000000) (hb : base ≤ w.heap.size) (ty : TypeId) :
    ∃ v' w', (Builtin.append_ #[22, 22] ty #[v, .slice (some ⟨w.heap.size, 0, none⟩) 1 1]).run Tryz.prog (w.alloc (.cells #[.string (bs f.nm), .int .i64 f.k, .int .i64 f.g] 29)) = .ok v' w' ∧ OwF w' base v' (l ++ [f]) ∧ Below base (w.alloc (.cells #[.string (bs f.nm), .int .i64 f.k, .int .i64 f.g] 29)) w' := by
  have hi8 := infoFd
  have hk : Below w.heap.size w (w.alloc (.cells #[.string (bs f.nm), .int .i64 f.k, .int .i64 f.g] 29)) := B1 _ _
  cases hi : Tryz.prog.info? 29 with
  | none => rw [hi] at hi8; cases hi8
  | some i =>
    rw [hi] at hi8
    simp only [Option.map_some, Option.some.injEq, Prod.mk.injEq] at hi8
    obtain ⟨hz, hsz, hby⟩ := hi8
    obtain ⟨v', W', hr, ho, hg, hnil⟩ := run_append_own (P := Tryz.prog) (w.alloc (.cells #[.string (bs f.nm), .int .i64 f.k, .int .i64 f.g] 29)) base 22 ty 29 i (.agg #[.string ⟨#[]⟩, .int .i64 0, .int .i64 0]) 3 32 Tryz.underlying22 hi hz hsz hby rfl (by omega) v l.length (cellsFd l) (h.on hk) ⟨w.heap.size, 0, none⟩ 1 1 f.cells rfl (fun j u hj => by rw [add_plain, Nat.zero_add, row_cell (heap_alloc_new w _)]; match j, hj with | 0, h => exact h | 1, h => exact h | 2, h => exact h) (by intro u hu; simp [Fd.cells] at hu; rcases hu with rfl | rfl | rfl <;> rfl) (by unfold maxLen; omega) (by omega) (Nat.le_trans hb hk.size)
    refine ⟨v', W', hr, ?_, (Below.refl _ _).grown hg (Nat.le_trans hb hk.size) (fun j hj => h.row j hj)⟩
    unfold OwF
    have e : cellsFd (l ++ [f]) = cellsFd l ++ f.cells := by simp [cellsFd]
    rw [List.length_append, e]; exact ho
theorem step_appFd {w w' : World} {o : Oper} {a : Act} {K : Act → World → Prop} {Q : Exit → Act → World → Prop} {y : Nat → Option Bool} {v v' u : Value} (hgd : o.guard = none) (s x : Operand)
    (hop : o.op = .call { callee := .builtin .append, args := #[s, x], argTypes := #[22, 22] }) (hs : a.eval s = v) (hx : a.eval x = u)
    (hrun : (Builtin.append_ #[22, 22] o.type #[v, u]).run Tryz.prog w = .ok v' w') (hk : K (a.put o.dst v') w') :
    if Region.wanted o y = true then Oper.wp Tryz.prog o a w K Q else K (a.put o.dst undef) w := by
  simp only [Region.wanted, hgd, if_true]
  unfold Oper.wp execOp
  simp only [hop, resolve, invoke, builtin, Sem.run_bind, Sem.run_pure, Result.andThen_ok, List.map_toArray, List.map_cons, List.map_nil, hs, hx, hrun]
  exact hk
end Go.Proofs.YtjodbopnibdolaaGreat
