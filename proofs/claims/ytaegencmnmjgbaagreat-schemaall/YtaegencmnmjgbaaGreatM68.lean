/-
  The law SchemaRetires.
-/
import Derived.Test.YtaegencmnmjgbaaGreatM67

namespace Go.Proofs.YtaegencmnmjgbaaGreat
open Go.RowKit Go.Maps
set_option linter.unusedVariables false
set_option linter.unusedSimpArgs false
theorem okTy.span {t : Ty} (h : okTy t) : 1 ≤ t.lo ∧ t.lo ≤ t.hi ∧ t.hi ≤ 64 ∧ t.hi - t.lo = (t.ts.length : Int) := by
  obtain ⟨_, h1, h2, h3, _⟩ := h
  unfold Ty.hi at h2 ⊢
  omega
theorem sole_hi {t : Ty} (h : okTy t) : (soleT t).hi = t.hi := by
  obtain ⟨_, h1, h2, h3, _⟩ := h
  unfold soleT Ty.hi
  simp only [List.length_drop]
  omega
theorem sole_fields {t : Ty} (h : okTy t) : fieldsT (some (soleT t)) t.hi = fieldsT (some t) t.hi := by
  have h1 := sole_hi h
  obtain ⟨q1, q2, q3, q4⟩ := h.span
  unfold fieldsT
  dsimp only
  rw [if_neg (by rw [h1]; show ¬ (t.hi < t.hi ∨ t.hi < t.hi); omega), if_neg (by omega)]
  show ((t.fs.drop t.ts.length)[(t.hi - t.hi).toNat]?.getD [], 0) = _
  rw [Int.sub_self, q4]
  simp
theorem sole_any (t : Ty) (live : List Int) : live.any (fun v => decide ((soleT t).lo ≤ v) && decide (v < t.hi)) = false := by
  rw [List.any_eq_false]
  intro v _
  show ¬ ((decide (t.hi ≤ v) && decide (v < t.hi)) = true)
  simp
theorem rdI_two (w : World) {a b : Int} (ha : I64 a) (hb : I64 b) {ty : TypeId} : RdI (w.alloc (.cells #[.int .i64 a, .int .i64 b] ty)) (w.alloc (.cells #[.int .i64 a, .int .i64 b] ty)).heap.size (some ⟨w.heap.size, 0, none⟩) 2 2 [a, b] := by
  refine ⟨rfl, by omega, by unfold maxLen; omega, fun x hx => ?_, fun _ => ⟨w.heap.size, 0, rfl, by simp, fun i hi => ?_⟩⟩
  · simp at hx; rcases hx with rfl | rfl <;> assumption
  · have : i = 0 ∨ i = 1 := by simp at hi; omega
    rcases this with rfl | rfl <;> exact row_cell (heap_alloc_new w _) _
set_option maxRecDepth 20000 in
set_option maxHeartbeats 16000000 in
theorem walk_SchemaRetires (A : Option Addr) (n cp : Nat) (ps : List OpP) (nmb : ByteArray) (A3 : Option Addr) (n3 c3 : Nat) (live : List Int) (w : World) (h : RdOp w w.heap.size A n cp ps) (hnb : nmb.size ≤ maxLen) (hl : RdI w w.heap.size A3 n3 c3 live) :
    Calls Tryz.prog 7 #[.slice A n cp, .string nmb, .slice A3 n3 c3] w fun e w' => e = .returned (.bool true) ∧ Below w.heap.size w w' := by
  obtain ⟨nm, rfl⟩ : ∃ x, nmb = bs x := ⟨nmb.data.toList, by unfold bs; simp⟩
  have HSK : Hid (SK nm) := hid (by unfold SK; exact hnb)
  have H := hid h; have HI := hid hl
  have HLL := hid hl.1
  have hli : (n3 : Int) ≤ 9223372036854775807 := by have := Nat.le_trans hl.2.1 hl.2.2.1; unfold maxLen at this; omega
  clear h hl hnb
  go_enter Tryz.func7, Tryz.ntmps7
  go_wp2_with fail
  refine (few9_any H.out).mono ?_
  rintro e w1 ⟨fb, rfl, hfew, hb1⟩
  have HFEW := hid hfew; have HB1 := hid hb1
  have HI1 := hid (HI.out.on hb1)
  have HR1 := hid (H.out.on opPB hb1)
  clear hfew hb1
  cases fb with
  | false =>
    go_wp2_with fail
    refine alive_any.mono ?_
    rintro e w3 ⟨rfl, hb3⟩
    go_wp2_with fail
    go_ret
    exact ⟨rfl, Bt HB1.out hb3⟩
  | true =>
    have HN := hid (HFEW.out rfl)
    by_cases h100 : 100 < (n3 : Int)
    · have t1 : decide (100 < (n3 : Int)) = true := decide_eq_true h100
      go_wp2_with fail
      refine alive_any.mono ?_
      rintro e w3 ⟨rfl, hb3⟩
      go_wp2_with fail
      go_ret
      exact ⟨rfl, Bt HB1.out hb3⟩
    · have t1 : decide (100 < (n3 : Int)) = false := decide_eq_false h100
      go_wp2_with fail
      refine (made9_any HR1.out HN.out).mono ?_
      rintro e w2 ⟨c, mb, k, r, l, A2, m2, c2, rfl, hk, hs2, _, hb2⟩
      have HS2 := hid hs2; have HK2 := hid hk
      have HI2 := hid (HI1.out.on hb2)
      have HB2 := hid (Bt HB1.out hb2)
      have HBA := hid (CatQ.lt hs2.cat)
      clear hs2 hb2 hk h100
      go_wp2_with fail
      refine (versions_any HS2.out.cat nm HSK.out).mono ?_
      rintro e w3 ⟨rfl, hb3⟩
      have HS3 := hid (HS2.out.on hb3)
      have HI3 := hid (HI2.out.on hb3)
      have HB3 := hid (Bt HB2.out hb3)
      clear hb3
      cases ha : atT l nm with
      | none =>
        have HA := hid ha
        have HRS := hid (retS_none (live := live) ha)
        clear ha
        unfold versV
        dsimp only
        go_wp2_with fail
        refine (fields_any HS3.out.cat nm HSK.out 0).mono ?_
        rintro e w4 ⟨A4, m4, c4, rfl, _, hb4⟩
        rw [HA.out]
        rw [show (fieldsT none 0).2 = 90 from rfl]
        have HS4 := hid (HS3.out.on hb4)
        have HI4 := hid (HI3.out.on hb4)
        have HB4 := hid (Bt HB3.out hb4)
        clear hb4
        go_wp2_with fail
        refine (retire_any HS4.out.cat (by have := HK2.out; omega) nm HSK.out HI4.out).mono ?_
        rintro e w5 ⟨rfl, hq⟩
        have HB5 : Hid (Below w.heap.size w w5) := hid (HB4.out.trans ((hq.bl HS4.out.cat).mono HB1.out.size))
        rw [HRS.out] at hq ⊢
        obtain ⟨r', hc5, hf5, _⟩ := hq
        have HS5 : Hid (St9 w5 c mb (k + 1) _ r' l A2 m2 c2) := hid ⟨hc5, HS4.out.doc.fr hf5⟩
        clear hc5 hf5
        dsimp only
        go_wp2_with fail
        refine alive_any.mono ?_
        rintro e w6 ⟨rfl, hb6⟩
        have HS6 := hid (HS5.out.on hb6)
        have HB6 := hid (Bt HB5.out hb6)
        clear hb6
        go_wp2_with fail
        refine (stands_any HS6.out).mono ?_
        rintro e w7 ⟨rfl, hb7⟩
        have HB7 := hid (Bt HB6.out hb7)
        clear hb7
        go_wp2_with fail
        go_ret
        exact ⟨rfl, HB7.out⟩
      | some t =>
        have HA := hid ha
        have HRS := hid (retS_some (live := live) ha)
        have HT := hid (HS3.out.cat.okO nm t ha)
        obtain ⟨q1, q2, q3, q4⟩ := HT.out.span
        obtain ⟨lo, hlo⟩ : ∃ lo, lo = t.lo := ⟨_, rfl⟩
        obtain ⟨hi, hhi⟩ : ∃ hi, hi = t.hi := ⟨_, rfl⟩
        have HLO := hid hlo; have HHI := hid hhi
        have g1 : 1 ≤ lo := by omega
        have g2 : lo ≤ hi := by omega
        have g3 : hi ≤ 64 := by omega
        have HQ4 : Hid (hi - lo = (t.ts.length : Int)) := hid (by rw [hhi, hlo]; exact q4)
        clear ha q1 q2 q3 q4 hlo hhi
        unfold versV
        dsimp only
        rw [← HLO.out, ← HHI.out]
        go_wp2_with fail
        refine (fields_any HS3.out.cat nm HSK.out hi).mono ?_
        rintro e w4 ⟨A4, m4, c4, rfl, hr4, hb4⟩
        rw [HA.out] at hr4 ⊢
        obtain ⟨E, hE⟩ : ∃ E, E = (fieldsT (some t) hi).2 := ⟨_, rfl⟩
        rw [← hE]
        have HS4 := hid (HS3.out.on hb4)
        have HI4 := hid (HI3.out.on hb4)
        have HB4 := hid (Bt HB3.out hb4)
        have HR4 := hid hr4
        clear hb4 hE hr4
        go_wp2_with fail
        refine (retire_any HS4.out.cat (by have := HK2.out; omega) nm HSK.out HI4.out).mono ?_
        rintro e w5 ⟨rfl, hq⟩
        have HB5 : Hid (Below w.heap.size w w5) := hid (HB4.out.trans ((hq.bl HS4.out.cat).mono HB1.out.size))
        obtain ⟨kk, hkk, htn, hrs⟩ := HRS.out
        have HKK := hid hkk; have HTN := hid htn
        cases hany : live.any (fun v => decide (t.lo ≤ v) && decide (v < t.hi)) with
        | true =>
          rw [hany, if_pos rfl] at hrs
          rw [hrs] at hq ⊢
          obtain ⟨r', hc5, hf5, _⟩ := hq
          have HS5 : Hid (St9 w5 c mb (k + 1) _ r' l A2 m2 c2) := hid ⟨hc5, HS4.out.doc.fr hf5⟩
          clear hc5 hf5 hrs hany hkk htn
          dsimp only
          go_wp2_with fail
          refine alive_any.mono ?_
          rintro e w6 ⟨rfl, hb6⟩
          have HS6 := hid (HS5.out.on hb6)
          have HB6 := hid (Bt HB5.out hb6)
          clear hb6
          go_wp2_with fail
          refine (stands_any HS6.out).mono ?_
          rintro e w7 ⟨rfl, hb7⟩
          have HB7 := hid (Bt HB6.out hb7)
          clear hb7
          go_wp2_with fail
          go_ret
          exact ⟨rfl, HB7.out⟩
        | false =>
          rw [hany, if_neg (by simp)] at hrs
          have HANY := hid (List.any_eq_false.1 hany)
          rw [hrs] at hq ⊢
          obtain ⟨r', hc5, hf5, _⟩ := hq
          have HC5 : Hid (Cat w5 c mb (k + 1) w1.heap.size r' (l.set kk (soleT t))) := hid hc5
          have HI5 := hid (HI4.out.fr hf5)
          have HR5 := hid (HR4.out.fr hf5)
          have HA5 : Hid (atT (l.set kk (soleT t)) nm = some (soleT t)) := hid (by
            have := set_at (u := soleT t) HS4.out.cat.ok.1 HKK.out rfl nm
            rw [this, if_pos HTN.out])
          obtain ⟨N, hN⟩ : ∃ N, N = (t.ts.length : Int) := ⟨_, rfl⟩
          rw [← hN] at HQ4
          have hN0 : hi - lo = N := HQ4.out
          clear hc5 hf5 hrs hany hkk htn
          dsimp only
          rw [← hN]
          clear hN
          go_wp2_with fail
          go_loopw [86] (fun i wr => ∃ (j : Nat), j ≤ n3 ∧ i = .int .i64 j ∧ Hid (Below w5.heap.size w5 wr)) (fun i _ => n3 - (intOf i).toNat)
          case atStart => exact ⟨0, by omega, rfl, B0 _⟩
          case round =>
            obtain ⟨j, hj, rfl, HBK⟩ := hrel
            by_cases hlt : j < n3
            · obtain ⟨v, hv⟩ : ∃ v, live[j]? = some v := ⟨_, List.getElem?_eq_getElem (by have := HLL.out; omega)⟩
              have hva := HANY.out v (List.mem_of_getElem? hv)
              rw [← HLO.out, ← HHI.out] at hva
              obtain ⟨_, _, b, off, rfl, hcv⟩ := HI5.out.at hv
              have y0 := hcv wr HBK.out
              have hji : (j : Int) < n3 := by omega
              have hj0 : (0 : Int) ≤ j := by omega
              have HV := hid hva
              clear hv hcv hva
              by_cases gl : lo ≤ v
              · have s1 : decide (lo ≤ v) = true := decide_eq_true gl
                have s2 : decide (v < hi) = false := decide_eq_false (fun hh => HV.out (by rw [s1, decide_eq_true hh]; rfl))
                clear gl
                go_wp2_with fail
                exact ⟨⟨j + 1, by omega, by go_num, HBK⟩, by simp [intOf]; omega⟩
              · have s1 : decide (lo ≤ v) = false := decide_eq_false gl
                clear gl
                go_wp2_with fail
                exact ⟨⟨j + 1, by omega, by go_num, HBK⟩, by simp [intOf]; omega⟩
            · have hjn : j ≤ n3 := hj
              have HC6 := hid (HC5.out.on HBK.out)
              have HR6 := hid (HR5.out.on HBK.out)
              have HB6 := hid (Bt HB5.out HBK.out)
              have HSH : Hid ((soleT t).hi = hi) := hid (by rw [HHI.out]; exact sole_hi HT.out)
              have HSL : Hid ((soleT t).lo = hi) := hid (by rw [HHI.out]; rfl)
              have HSF : Hid (fieldsT (some (soleT t)) hi = fieldsT (some t) hi) := hid (by rw [HHI.out]; exact sole_fields HT.out)
              have hIl : I64 lo := i64_iff.2 (by omega)
              have hIh : I64 hi := i64_iff.2 (by omega)
              have HIL := hid hIl; have HIH := hid hIh
              clear hIl hIh
              go_wp2_with fail
              refine (versions_any HC6.out nm HSK.out).mono ?_
              rintro e w7 ⟨rfl, hb7⟩
              rw [HA5.out]
              unfold versV
              dsimp only
              rw [HSH.out, HSL.out]
              have HC7 := hid (HC6.out.on hb7)
              have HR7 := hid (HR6.out.on hb7)
              have HB7 := hid (Bt HB6.out hb7)
              clear hb7
              go_wp2_with fail
              refine (fields_any HC7.out nm HSK.out hi).mono ?_
              rintro e w8 ⟨A8, n8, c8, rfl, hr8, hb8⟩
              rw [HA5.out, HSF.out] at hr8 ⊢
              obtain ⟨E8, hE8⟩ : ∃ E, E = (fieldsT (some t) hi).2 := ⟨_, rfl⟩
              rw [← hE8]
              have HC8 := hid (HC7.out.on hb8)
              have HR8 := hid (HR7.out.on hb8)
              have HQ8 := hid hr8
              have HB8 := hid (Bt HB7.out hb8)
              clear hb8 hr8 hE8
              go_wp2_with fail
              refine (retire_any (HC8.out.on (B1 _ _)) (by have := HK2.out; omega) nm HSK.out (rdI_two w8 HIL.out HIH.out)).mono ?_
              rintro e w9 ⟨rfl, hq⟩
              have HB9 : Hid (Below w.heap.size w w9) := hid ((Ba HB8.out _).trans ((hq.bl (HC8.out.on (B1 _ _))).mono HB1.out.size))
              obtain ⟨k9, _, _, hrs9⟩ := retS_some (live := [lo, hi]) HA5.out
              have hany9 : [lo, hi].any (fun v => decide ((soleT t).lo ≤ v) && decide (v < (soleT t).hi)) = false := by
                rw [HSH.out, HHI.out]; exact sole_any t _
              rw [hany9, if_neg (by simp)] at hrs9
              rw [show (((soleT t).ts.length : Nat) : Int) = 0 from rfl] at hrs9
              rw [hrs9] at hq ⊢
              obtain ⟨r9, _, hf9, _⟩ := hq
              have HR9 := hid ((HR8.out.on (B1 _ _)).fr hf9)
              have HQ9 := hid ((HQ8.out.on (B1 _ _)).fr hf9)
              clear hf9 hrs9 hany9
              dsimp only
              go_wp2_with fail
              refine alive_any.mono ?_
              rintro e w10 ⟨rfl, hb10⟩
              have HRX := hid (HR9.out.on hb10)
              have HQX := hid (HQ9.out.on hb10)
              have HB10 := hid (Bt HB9.out hb10)
              have s1 : IntKind.i64.wrap (hi - lo) = N := by rw [hN0, IntKind.wrap_i64]; omega
              have s2 : (N == N) = true := by simp
              have s3 : (hi == hi) = true := by simp
              clear hb10
              go_wp2_with fail
              refine (r6same_any HQX.out HRX.out).mono ?_
              rintro e w11 ⟨rfl, hb11⟩
              rw [show ∀ (x : List Fd), decide (x = x) = true from fun x => decide_eq_true rfl]
              have HB11 := hid (Bt HB10.out hb11)
              clear hb11
              go_wp2_with fail
              go_ret
              exact ⟨rfl, HB11.out⟩
end Go.Proofs.YtaegencmnmjgbaaGreat
