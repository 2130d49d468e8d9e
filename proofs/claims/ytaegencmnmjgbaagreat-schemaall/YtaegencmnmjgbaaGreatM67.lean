/-
  The law's stands.
  The law's made.
  The law SchemaAll.
  The law SchemaErrors.
-/
import Derived.Test.YtaegencmnmjgbaaGreatM65
import Derived.Test.YtaegencmnmjgbaaGreatM66
import Derived.Test.YtaegencmnmjgbaaGreatM26

namespace Go.Proofs.YtaegencmnmjgbaaGreat
open Go.RowKit Go.Maps
set_option linter.unusedVariables false
set_option linter.unusedSimpArgs false
structure St9 (w : World) (c mb n B : Nat) (r : List UInt8 → Pl) (l : List Ty) (A : Option Addr) (m cp : Nat) : Prop where
  cat : Cat w c mb n B r l
  doc : DocL w w.heap.size A m cp l
theorem St9.on {w w' : World} {c mb n B : Nat} {r : List UInt8 → Pl} {l : List Ty} {A : Option Addr} {m cp : Nat} (h : St9 w c mb n B r l A m cp) (hb : Below w.heap.size w w') : St9 w' c mb n B r l A m cp := ⟨h.cat.on hb, h.doc.on hb⟩
set_option maxRecDepth 20000 in
set_option maxHeartbeats 16000000 in
theorem stands_any {w : World} {c mb n B : Nat} {r : List UInt8 → Pl} {l : List Ty} {A : Option Addr} {m cp : Nat} (h : St9 w c mb n B r l A m cp) :
    Calls Tryz.prog 17 #[.pointer (some ⟨c, 0, none⟩), .slice A m cp] w fun e w' => e = .returned (.bool true) ∧ Below w.heap.size w w' := by
  have H := hid h
  have HML := hid h.doc.len
  have hm16 : (m : Int) ≤ 16 := by have := h.cat.ok.2.1; have := h.doc.len; omega
  clear h
  go_enter Tryz.func17, Tryz.ntmps17
  go_wp2_with fail
  refine (names_any H.out.cat).mono ?_
  rintro e w1 ⟨A1, m1, c1, rfl, hr1, hb1⟩
  have hm1 : m1 = m := by rw [← hr1.1, List.length_map]; exact HML.out
  subst hm1
  have HR1 := hid hr1; have HB1 := hid hb1
  have H1 := hid (H.out.on hb1)
  clear hr1 hb1
  have t1 : ((m1 : Int) != (m1 : Int)) = false := by simp
  go_upto_region 2 with fail
  refine reg_begin (by kernel_rfl) (fun w0a hx0a hHeld => ?_)
  have HD0 : Hid (Ext w0a w0a ∧ True) := ⟨B0 _, trivial⟩
  have H0 := hid (H1.out.on hx0a)
  have hfin := hx0a
  refine reg_take 0 (v := ?vz1_0) at0 (by kernel_rfl) (by kernel_rfl) (by kernel_rfl) (by rfl) ?hyz1_0 hHeld ?restz1_0
  case hyz1_0 => (intro w' hSw; go_simp; try with_reducible rfl)
  try simp only [Act.put, List.setIfInBounds_toArray, List.set_cons_zero, List.set_cons_succ]
  refine reg_take 1 (v := ?vz2_1) (atS at0) (by kernel_rfl) (by kernel_rfl) (by kernel_rfl) (by rfl) ?hyz2_1 hHeld ?restz2_1
  case hyz2_1 => (intro w' hSw; go_simp; try with_reducible rfl)
  try simp only [Act.put, List.setIfInBounds_toArray, List.set_cons_zero, List.set_cons_succ]
  refine reg_take 2 (v := ?vz3_2) (atS (atS at0)) (by kernel_rfl) (by kernel_rfl) (by kernel_rfl) (by rfl) ?hyz3_2 hHeld ?restz3_2
  case hyz3_2 => (intro w' hSw; go_simp; try with_reducible rfl)
  try simp only [Act.put, List.setIfInBounds_toArray, List.set_cons_zero, List.set_cons_succ]
  refine reg_take 3 (v := ?vz4_3) (atS (atS (atS at0))) (by kernel_rfl) (by kernel_rfl) (by kernel_rfl) (by rfl) ?hyz4_3 hHeld ?restz4_3
  case hyz4_3 => (intro w' hSw; go_simp; try with_reducible rfl)
  try simp only [Act.put, List.setIfInBounds_toArray, List.set_cons_zero, List.set_cons_succ]
  refine reg_take 4 (v := ?vz5_4) (atS (atS (atS (atS at0)))) (by kernel_rfl) (by kernel_rfl) (by kernel_rfl) (by rfl) ?hyz5_4 hHeld ?restz5_4
  case hyz5_4 => (intro w' hSw; go_simp; try with_reducible rfl)
  try simp only [Act.put, List.setIfInBounds_toArray, List.set_cons_zero, List.set_cons_succ]
  refine reg_take 5 (v := ?vz6_5) (atS5 at0) (by kernel_rfl) (by kernel_rfl) (by kernel_rfl) (by rfl) ?hyz6_5 hHeld ?restz6_5
  case hyz6_5 => (intro w' hSw; go_simp; try with_reducible rfl)
  try simp only [Act.put, List.setIfInBounds_toArray, List.set_cons_zero, List.set_cons_succ]
  refine reg_take 6 (v := ?vz7_6) (atS5 (atS at0)) (by kernel_rfl) (by kernel_rfl) (by kernel_rfl) (by rfl) ?hyz7_6 hHeld ?restz7_6
  case hyz7_6 => (intro w' hSw; go_simp; try with_reducible rfl)
  try simp only [Act.put, List.setIfInBounds_toArray, List.set_cons_zero, List.set_cons_succ]
  refine reg_take 9 (v := ?vz8_9) (atS5 (atS (atS (atS (atS at0))))) (by kernel_rfl) (by kernel_rfl) (by kernel_rfl) (by rfl) ?hyz8_9 hHeld ?restz8_9
  case hyz8_9 => (intro w' hSw; go_simp; try with_reducible rfl)
  try simp only [Act.put, List.setIfInBounds_toArray, List.set_cons_zero, List.set_cons_succ]
  refine wpAnyH_ready (rs := [7]) (by kernel_rfl) (by simp) ?_
  refine AllReadyH.cons (atS5 (atS (atS at0))) (fun K hK => ?_) AllReadyH.nil
  go_simp
  refine (encode9_any (H0.out.cat.on HD0.out.1)).mono ?_
  rintro e w2 ⟨v2, rfl, ho2, hb2⟩
  go_wp2_with fail
  refine hK.out _ _ hb2 (fun hHeld => ?_)
  clear hK K
  try simp only [Act.put, List.setIfInBounds_toArray, List.set_cons_zero, List.set_cons_succ]
  refine reg_on hb2 (fun hHeld => ?_)
  have HD2 : Hid (Ext w0a w2 ∧ True) := ⟨Bt HD0.out.1 hb2, trivial⟩
  obtain ⟨A2, c2, hv2, hr2⟩ := ho2.rd
  subst hv2
  have hcv2 : ∀ w', Ext w2 w' → (convert 35 9 (.slice A2 (encS l).length c2)).run Tryz.prog w' = .ok (.string ⟨(encS l).toArray⟩) w' := fun w' hb => (hr2.on hb).conv
  clear ho2 hr2
  refine reg_take 8 (v := ?vz9_8) (atS5 (atS (atS (atS at0)))) (by kernel_rfl) (by kernel_rfl) (by kernel_rfl) (by rfl) ?hyz9_8 hHeld ?restz9_8
  case hyz9_8 => (intro w' hSw; go_simp; try with_reducible rfl)
  try simp only [Act.put, List.setIfInBounds_toArray, List.set_cons_zero, List.set_cons_succ]
  refine wpAnyH_ready (rs := [10]) (by kernel_rfl) (by simp) ?_
  refine AllReadyH.cons (atS5 (atS5 at0)) (fun K hK => ?_) AllReadyH.nil
  go_simp
  refine (r9encode_any (H0.out.doc.on HD2.out.1) H0.out.cat.ok).mono ?_
  rintro e w3 ⟨rfl, hb3⟩
  go_wp2_with fail
  refine hK.out _ _ hb3 (fun hHeld => ?_)
  clear hK K
  try simp only [Act.put, List.setIfInBounds_toArray, List.set_cons_zero, List.set_cons_succ]
  refine reg_on hb3 (fun hHeld => ?_)
  have HD3 : Hid (Ext w0a w3 ∧ True) := ⟨Bt HD2.out.1 hb3, trivial⟩
  refine reg_take 11 (v := ?vz10_11) (atS5 (atS5 (atS at0))) (by kernel_rfl) (by kernel_rfl) (by kernel_rfl) (by rfl) ?hyz10_11 hHeld ?restz10_11
  case hyz10_11 => (intro w' hSw; go_simp; try with_reducible rfl)
  try simp only [Act.put, List.setIfInBounds_toArray, List.set_cons_zero, List.set_cons_succ]
  refine reg_take 12 (v := ?vz11_12) (atS5 (atS5 (atS (atS at0)))) (by kernel_rfl) (by kernel_rfl) (by kernel_rfl) (by rfl) ?hyz11_12 hHeld ?restz11_12
  case hyz11_12 => (intro w' hSw; go_simp; try with_reducible rfl)
  try simp only [Act.put, List.setIfInBounds_toArray, List.set_cons_zero, List.set_cons_succ]
  refine wpAnyH_done (by kernel_rfl) ?_ _
  refine NoPanic.normal ?_
  have HBF : Hid (Below w1.heap.size w1 _) := hid (Bt hfin HD3.out.1)
  clear hcv2
  go_wp2_with fail
  go_loopw [33] (fun i wr => ∃ (k : Nat), k ≤ m1 ∧ i = .int .i64 k ∧ Hid (Below w1.heap.size w1 wr)) (fun i _ => m1 - (intOf i).toNat)
  case atStart => exact ⟨0, by omega, rfl, HBF⟩
  case round =>
    obtain ⟨k, hk, rfl, HBK⟩ := hrel
    by_cases hkl : k < m1
    · obtain ⟨t, ht⟩ : ∃ t, l[k]? = some t := ⟨_, List.getElem?_eq_getElem (by have := HML.out; omega)⟩
      have hnmk : (l.map Ty.nm)[k]? = some t.nm := by rw [List.getElem?_map, ht]; rfl
      obtain ⟨_, _, b2, off2, rfl, _, hcn⟩ := HR1.out.at hnmk
      have y0 := hcn wr HBK.out 0 (by omega)
      rw [Nat.mul_one, Nat.add_zero] at y0
      simp only [stCel, List.getElem?_cons_zero] at y0
      have htm := List.mem_of_getElem? ht
      have HT := hid (H1.out.cat.ok.2.2 t htm)
      have HAT := hid (rise_at H1.out.cat.ok.1 htm)
      have hns := name_short HT.out.1
      have HK : Hid (SK t.nm) := hid (by unfold SK maxLen; omega)
      have HCK := hid (H1.out.on HBK.out)
      obtain ⟨_, b, off, v1, v2, rfl, hfs, hts, hcd⟩ := H1.out.doc.at ht
      obtain ⟨A4, c4, rfl⟩ := hfs.shape
      obtain ⟨A5, c5, rfl⟩ := hts.shape
      have HCD := hid hcd
      have HNM := hid (newest_V HT.out)
      obtain ⟨q1, q2, q3, q4, q5⟩ := HT.out.nums
      have q6 : t.hi ≤ 64 := HT.out.2.2.1
      have HLR : Hid (0 ≤ t.lo ∧ t.lo ≤ 1000) := hid ⟨by omega, by omega⟩
      have HFLN : Hid (t.fs.length ≤ 1000) := hid (by omega)
      have hki : (k : Int) < m1 := by omega
      have hk0 : (0 : Int) ≤ k := by omega
      obtain ⟨lo, hlo⟩ : ∃ lo, lo = t.lo := ⟨_, rfl⟩
      obtain ⟨hi, hhi⟩ : ∃ hi, hi = t.hi := ⟨_, rfl⟩
      have HLO := hid hlo; have HHI := hid hhi
      have HLR2 : Hid (0 ≤ lo ∧ lo ≤ 1000) := hid ⟨by omega, by omega⟩
      have HNM2 : Hid (lo + (t.fs.length : Int) - 1 = hi) := hid (by have := HNM.out; omega)
      have g1 : 1 ≤ lo := by omega
      have g2 : lo ≤ hi := by omega
      have g4 : lo ≤ 64 := by omega
      have g5 : hi ≤ 64 := by omega
      have e1 : (t.nm != t.nm) = false := by simp
      have e3 : (lo != lo) = false := by simp
      have e4 : (hi != hi) = false := by simp
      clear ht hnmk hcn htm q1 q2 q3 q4 q5 q6 hlo hhi hfs hts hcd
      go_wp2_with fail
      refine (versions_any HCK.out.cat t.nm HK.out).mono ?_
      rintro e w5 ⟨rfl, hb5⟩
      rw [HAT.out]
      unfold versV
      dsimp only
      rw [← HLO.out, ← HHI.out]
      have HB5 : Hid (Below w1.heap.size w1 w5) := hid (Bt HBK.out hb5)
      obtain ⟨d0, d1, d2, d3⟩ := HCD.out w5 HB5.out
      rw [← HLO.out] at d1
      clear hb5 y0
      go_wp2_with fail
      refine (r9newest_any t.nm HLR2.out HFLN.out).mono ?_
      rintro e w6 ⟨rfl, hb6⟩
      rw [HNM2.out]
      have HB6 : Hid (Below w1.heap.size w1 w6) := hid (Bt HB5.out hb6)
      have e5 : IntKind.i64.wrap (lo - 1) = lo - 1 := by rw [IntKind.wrap_i64]; omega
      clear hb6 d0 d1 d2 d3
      go_wp2_with fail
      go_loopw [11] (fun i wr => ∃ (z : Int), lo - 1 ≤ z ∧ z ≤ hi + 2 ∧ i = .int .i64 z ∧ Hid (Below w1.heap.size w1 wr)) (fun i _ => (hi + 2 - intOf i).toNat)
      case atStart => exact ⟨lo - 1, by omega, by omega, rfl, HB6⟩
      case round =>
        obtain ⟨z, hz1, hz2, rfl, HBZ⟩ := hrel
        by_cases hz : z ≤ hi + 1
        · have HCZ := hid (H1.out.on HBZ.out)
          have t3 : decide (z ≤ hi + 1) = true := decide_eq_true hz
          have hz64 : z ≤ 65 := by omega
          have hz0 : 0 ≤ z := by omega
          obtain ⟨E, hE⟩ : ∃ E, E = (fieldsT (some t) z).2 := ⟨_, rfl⟩
          obtain ⟨F, hF⟩ : ∃ F, F = (fieldsT (some t) z).1 := ⟨_, rfl⟩
          have HE := hid hE; have HF := hid hF
          have e6 : (E != E) = false := by simp
          clear hE hF
          go_wp2_with fail
          refine (fields_any HCZ.out.cat t.nm HK.out z).mono ?_
          rintro e w7 ⟨A7, n7, c7, rfl, hr7, hb7⟩
          rw [HAT.out, ← HF.out] at hr7
          rw [HAT.out, ← HE.out]
          have HR7 := hid hr7
          have HB7 : Hid (Below w1.heap.size w1 w7) := hid (Bt HBZ.out hb7)
          clear hb7 hr7
          go_wp2_with fail
          have HCY := hid (H1.out.on HB7.out)
          refine (r9fields_any HCY.out.doc HCY.out.cat.ok t.nm z).mono ?_
          rintro e w8 ⟨A8, n8, c8, rfl, hr8, hb8⟩
          rw [HAT.out, ← HF.out] at hr8
          rw [HAT.out, ← HE.out]
          have HR8 := hid hr8
          have HR78 := hid (HR7.out.on hb8)
          have HB8 : Hid (Below w1.heap.size w1 w8) := hid (Bt HB7.out hb8)
          clear hb8 hr8
          go_wp2_with fail
          refine (r6same_any HR78.out HR8.out).mono ?_
          rintro e w9 ⟨rfl, hb9⟩
          rw [show decide (F = F) = true from decide_eq_true rfl]
          have HB9 : Hid (Below w1.heap.size w1 w9) := hid (Bt HB8.out hb9)
          clear hb9
          go_wp2_with fail
          exact ⟨⟨z + 1, by omega, by omega, by go_num, HB9⟩, by simp [intOf]; omega⟩
        · have t3 : decide (z ≤ hi + 1) = false := decide_eq_false hz
          go_wp2_with fail
          exact ⟨⟨k + 1, by omega, by go_num, HBZ⟩, by simp [intOf]; omega⟩
    · have hkm : k = m1 := by omega
      clear hkm
      go_wp2_with fail
      go_ret
      exact ⟨rfl, Bt HB1.out HBK.out⟩
end Go.Proofs.YtaegencmnmjgbaaGreat

namespace Go.Proofs.YtaegencmnmjgbaaGreat
open Go.RowKit Go.Maps
set_option linter.unusedVariables false
set_option linter.unusedSimpArgs false
def MadeQ (w : World) (A0 : Option Addr) (n0 c0 : Nat) (ps : List OpP) (e : Ending) (w' : World) : Prop :=
  ∃ c mb k r l A m cp, e = .returned (.tuple #[.pointer (some ⟨c, 0, none⟩), .slice A m cp, .bool true]) ∧ k ≤ 60 ∧ St9 w' c mb k w.heap.size r l A m cp ∧ RdOp w' w'.heap.size A0 n0 c0 ps ∧ Below w.heap.size w w'
set_option maxRecDepth 20000 in
set_option maxHeartbeats 16000000 in
theorem made9_any {w : World} {A : Option Addr} {n cp : Nat} {ps : List OpP} (h : RdOp w w.heap.size A n cp ps) (hn : n ≤ 60) :
    Calls Tryz.prog 12 #[.slice A n cp] w (MadeQ w A n cp ps) := by
  have HL := hid h.1
  have hn60 : (n : Int) ≤ 60 := by omega
  have H := hid h; clear h
  go_enter Tryz.func12, Tryz.ntmps12
  go_wp2_with fail
  refine new_any.mono ?_
  rintro e w2 ⟨c, mb, rfl, hc2, hb2⟩
  have HR2 := hid (H.out.on opPB hb2)
  have HS2 : Hid (St9 w2 c mb 0 w.heap.size (fun _ => ⟨0, 0, []⟩) [] none 0 0) := hid ⟨hc2, DocL.nil _ _⟩
  have HB2 := hid hb2
  clear hc2 hb2
  go_wp2_with fail
  go_loopw [6, 17] (fun s i wr => ∃ (j : Nat) (r : List UInt8 → Pl) (l : List Ty) (A4 : Option Addr) (m4 c4 : Nat), j ≤ n ∧ i = .int .i64 j ∧ s = .slice A4 m4 c4 ∧ Hid (St9 wr c mb j w.heap.size r l A4 m4 c4) ∧ Hid (RdOp wr wr.heap.size A n cp ps) ∧ Hid (Below w.heap.size w wr)) (fun _ i _ => n - (intOf i).toNat)
  case atStart => exact ⟨0, _, _, _, _, _, by omega, rfl, rfl, HS2, HR2, HB2⟩
  case round =>
    obtain ⟨j, r, l, A4, m4, c4, hj, rfl, rfl, HS, HR, HB⟩ := hrel
    by_cases hlt : j < n
    · obtain ⟨p, hp⟩ : ∃ p, ps[j]? = some p := ⟨_, List.getElem?_eq_getElem (by have := HL.out; omega)⟩
      obtain ⟨_, ⟨hop, hok, hsh⟩, b, off, rfl, hc⟩ := HR.out.cellsAt hp
      obtain ⟨o, u1, u2, u3⟩ := p
      obtain ⟨d0, d1, d2, d3, d4⟩ := hc wr (B0 _)
      dsimp only at hop hok hsh d0 d1 d2 d3 d4
      have HOP := hid hop; have HOK := hid hok
      obtain ⟨A1, n1, c1, A2, n2, c2, A3, n3, c3, e1, e2, e3, h1, h2, h3⟩ := hop
      subst e1; subst e2; subst e3
      obtain ⟨q, hq⟩ : ∃ q, q = wr.heap.size := ⟨_, rfl⟩
      obtain ⟨wv, hwv⟩ : ∃ wv, wv = wr.alloc (.cells #[.int .i64 o.kd, .string (bs o.nm), .slice A1 n1 c1, .slice A2 n2 c2, .slice A3 n3 c3] 54) := ⟨_, rfl⟩
      have HQ := hid hq; have HWV := hid hwv
      have HX : Hid (o9C wv q o (.slice A1 n1 c1) (.slice A2 n2 c2) (.slice A3 n3 c3)) := by rw [hwv, hq]; exact hid (o9C.new _ _ _ _ _)
      have hbv : Below wr.heap.size wr wv := by rw [hwv]; exact B1 _ _
      have HBV : Hid (Below w.heap.size w wv) := by rw [hwv]; exact hid (Ba HB.out _)
      have HSV := hid (HS.out.on hbv)
      have HRV := hid (HR.out.on opPB hbv)
      have HPV := hid (HOP.out.on hbv)
      have hji : (j : Int) < n := by omega
      have hj0 : (0 : Int) ≤ j := by omega
      clear hp hok hsh hc h1 h2 h3 hq hwv hbv
      go_upto_region 6 with fail
      rw [← HWV.out, ← HQ.out]
      clear d0 d1 d2 d3 d4
      obtain ⟨x0, x1, x2, x3, x4⟩ := HX.out.cells
      go_wp2_with fail
      obtain ⟨l', hl'⟩ : ∃ l', l' = (doS l o).1 := ⟨_, rfl⟩
      obtain ⟨e3, he3⟩ : ∃ x, x = (doS l o).2.1 := ⟨_, rfl⟩
      obtain ⟨e4, he4⟩ : ∃ x, x = (doS l o).2.2 := ⟨_, rfl⟩
      have HL' := hid hl'; have HE3 := hid he3; have HE4 := hid he4
      clear hl' he3 he4 x0 x1 x2 x3 x4
      refine (r9do_any HSV.out.doc HSV.out.cat.ok HOK.out HPV.out).mono ?_
      rintro e w3 ⟨A5, m5, c5, rfl, hd3, hb3⟩
      rw [← HL'.out] at hd3
      rw [← HE3.out, ← HE4.out]
      have HD3 := hid hd3
      have HC3 := hid (HSV.out.cat.on hb3)
      have HR3 := hid (HRV.out.on opPB hb3)
      have HP3 := hid (HPV.out.on hb3)
      have HX3 := hid (HX.out.on hb3)
      have HB3 := hid (Bt HBV.out hb3)
      clear hd3 hb3
      obtain ⟨x0, x1, x2, x3, x4⟩ := HX3.out.cells
      go_wp2_with fail
      refine (does_any HC3.out (by omega) HOK.out HP3.out).mono ?_
      rintro e w4 ⟨rfl, hq⟩
      have HB4 : Hid (Below w.heap.size w w4) := hid (HB3.out.trans (hq.bl HC3.out))
      rw [← HL'.out] at hq
      rw [← HE3.out, ← HE4.out]
      obtain ⟨r', hc4, hf4, _⟩ := hq
      have HS4 : Hid (St9 w4 c mb (j + 1) w.heap.size r' l' A5 m5 c5) := hid ⟨hc4, HD3.out.fr hf4⟩
      have HR4 := hid (RdOp.fr HR3.out hf4)
      have e5 : (e4 != e4) = false := by simp
      have e6 : (e3 != e3) = false := by simp
      clear hc4 hf4 x0 x1 x2 x3 x4
      go_wp2_with fail
      refine (stands_any HS4.out).mono ?_
      rintro e w5 ⟨rfl, hb5⟩
      have HS5 := hid (HS4.out.on hb5)
      have HR5 := hid (HR4.out.on opPB hb5)
      have HB5 := hid (Bt HB4.out hb5)
      clear hb5
      go_wp2_with fail
      exact ⟨⟨j + 1, r', l', A5, m5, c5, by omega, by go_num, rfl, HS5, HR5, HB5⟩, by simp [intOf]; omega⟩
    · have hjn : j ≤ 60 := by omega
      have HJN := hid hjn
      clear hjn
      go_wp2_with fail
      go_ret3
      exact ⟨_, _, _, _, _, _, _, _, rfl, HJN.out, HS.out, HR.out, HB.out⟩
end Go.Proofs.YtaegencmnmjgbaaGreat

namespace Go.Proofs.YtaegencmnmjgbaaGreat
open Go.RowKit Go.Maps
set_option linter.unusedVariables false
set_option linter.unusedSimpArgs false
theorem atT_odd {l : List Ty} (h : okC l) : atT l [63] = none := by
  cases ha : atT l [63] with
  | none => rfl
  | some t =>
    obtain ⟨h1, h2⟩ := atT_some ha
    have := (h.2.2 t h1).1
    rw [h2] at this
    exact absurd this (by decide)
set_option maxRecDepth 20000 in
set_option maxHeartbeats 16000000 in
theorem walk_SchemaAll (A : Option Addr) (n cp : Nat) (ps : List OpP) (w : World) (h : RdOp w w.heap.size A n cp ps) :
    Calls Tryz.prog 3 #[.slice A n cp] w fun e w' => e = .returned (.bool true) ∧ Below w.heap.size w w' := by
  have HL := hid h.1
  have hnm := h.lenMax
  have H := hid h; clear h
  go_enter Tryz.func3, Tryz.ntmps3
  go_wp2_with fail
  refine (few9_any H.out).mono ?_
  rintro e w1 ⟨fb, rfl, hfew, hb1⟩
  have HFEW := hid hfew; have HB1 := hid hb1
  clear hfew hb1
  cases fb with
  | false =>
    go_wp2_with fail
    refine alive_any.mono ?_
    rintro e w3 ⟨rfl, hb3⟩
    go_wp2_with fail
    go_ret
    exact ⟨rfl, Bt HB1.out hb3⟩
  | true =>
    have HN := hid (HFEW.out rfl)
    have HR1 := hid (H.out.on opPB HB1.out)
    go_wp2_with fail
    refine (made9_any HR1.out HN.out).mono ?_
    rintro e w2 ⟨c, mb, k, r, l, A2, m2, c2, rfl, hk, hs2, hr2, hb2⟩
    have HS2 := hid hs2
    have HB2 := hid (Bt HB1.out hb2)
    have HAT := hid (atT_odd hs2.cat.ok)
    clear hs2 hr2 hb2
    go_wp2_with fail
    refine (versions_any HS2.out.cat [63] (by unfold SK maxLen; simp)).mono ?_
    rintro e w3 ⟨rfl, hb3⟩
    rw [HAT.out]
    unfold versV
    dsimp only
    have HS3 := hid (HS2.out.on hb3)
    have HB3 := hid (Bt HB2.out hb3)
    clear hb3
    go_wp2_with fail
    refine (fields_any HS3.out.cat [63] (by unfold SK maxLen; simp) 1).mono ?_
    rintro e w4 ⟨A4, m4, c4, rfl, _, hb4⟩
    rw [HAT.out]
    rw [show (fieldsT none 1).2 = 90 from rfl]
    have HB4 := hid (Bt HB3.out hb4)
    clear hb4
    go_wp2_with fail
    refine alive_any.mono ?_
    rintro e w5 ⟨rfl, hb5⟩
    have HB5 := hid (Bt HB4.out hb5)
    clear hb5
    go_wp2_with fail
    go_ret
    exact ⟨rfl, HB5.out⟩
end Go.Proofs.YtaegencmnmjgbaaGreat

namespace Go.Proofs.YtaegencmnmjgbaaGreat
open Go.RowKit Go.Maps
set_option linter.unusedVariables false
set_option linter.unusedSimpArgs false
theorem doS_same {l : List Ty} {o : O9} (h : (doS l o).2.2 ≠ 0) : (doS l o).1 = l ∧ (doS l o).2.1 = 0 := by
  unfold doS at h ⊢
  split
  · rename_i c; rw [if_pos c] at h; exact ⟨defS_same h, rfl⟩
  · rename_i c; rw [if_neg c] at h
    split
    · rename_i c2; rw [if_pos c2] at h; exact chgS_same h
    · rename_i c2; rw [if_neg c2] at h
      split
      · rename_i c3; rw [if_pos c3] at h; exact retS_same h
      · rename_i c3; rw [if_neg c3] at h; exact absurd rfl h
theorem rdOp_one {w : World} {p : OpP} (h : opP w w.heap.size p) {g : Nat} {ty : TypeId} (hg : w.heap[g]? = some (.cells (opCel p).toArray ty (0, 0))) : RdOp w w.heap.size (some ⟨g, 0, none⟩) 1 1 [p] := by
  refine ⟨rfl, Nat.le_refl _, by unfold maxLen; omega, fun x hx => by simp at hx; subst hx; exact h, fun _ => ⟨g, 0, rfl, row_lt hg, (fun t e => nomatch e), fun i a hi j hj => ?_⟩⟩
  have h0 : i = 0 := by have := (List.getElem?_eq_some_iff.1 hi).1; simp at this; omega
  subst h0
  simp at hi; subst hi
  rw [Nat.zero_mul, Nat.add_zero, Nat.zero_add, row_cell hg]; simp
set_option maxRecDepth 20000 in
set_option maxHeartbeats 16000000 in
theorem walk_SchemaErrors (A : Option Addr) (n cp : Nat) (ps : List OpP) (p : OpP) (w : World) (h : RdOp w w.heap.size A n cp ps) (hp : opP w w.heap.size p) :
    Calls Tryz.prog 9 #[.slice A n cp, .agg (opCel p).toArray] w fun e w' => e = .returned (.bool true) ∧ Below w.heap.size w w' := by
  obtain ⟨o, v1, v2, v3⟩ := p
  have HOK := hid hp.2.1
  have HSH := hid hp.2.2
  obtain ⟨⟨A1, n1, c1, A2, n2, c2, A3, n3, c3, e1, e2, e3, h1, h2, h3⟩, _⟩ := id hp
  dsimp only at e1 e2 e3 h1 h2 h3
  subst e1; subst e2; subst e3
  obtain ⟨w0, hw0⟩ : ∃ w0, w0 = w.alloc (.cells #[.int .i64 o.kd, .string (bs o.nm), .slice A1 n1 c1, .slice A2 n2 c2, .slice A3 n3 c3] 54) := ⟨_, rfl⟩
  obtain ⟨q, hq⟩ : ∃ q, q = w.heap.size := ⟨_, rfl⟩
  have HW0 := hid hw0; have HQ := hid hq
  have HB0 : Hid (Below w.heap.size w w0) := by rw [hw0]; exact hid (B1 _ _)
  have HX0 : Hid (o9C w0 q o (.slice A1 n1 c1) (.slice A2 n2 c2) (.slice A3 n3 c3)) := by rw [hw0, hq]; exact hid (o9C.new _ _ _ _ _)
  have H0 := hid (h.on opPB HB0.out)
  have HP0 : Hid (opP w0 w0.heap.size (o, .slice A1 n1 c1, .slice A2 n2 c2, .slice A3 n3 c3)) := hid (opPB.on hp HB0.out)
  clear h hp h1 h2 h3 hw0 hq
  unfold opCel
  dsimp only
  go_enter Tryz.func9, Tryz.ntmps9
  go_upto_region 1 with fail
  rw [← HW0.out, ← HQ.out]
  go_wp2_with fail
  refine (few9_any H0.out).mono ?_
  rintro e w1 ⟨fb, rfl, hfew, hb1⟩
  have HFEW := hid hfew
  have HB1 := hid (Bt HB0.out hb1)
  have H1 := hid (H0.out.on opPB hb1)
  have HP1 := hid (opPB.on HP0.out hb1)
  have HX1 := hid (HX0.out.on hb1)
  clear hfew hb1
  cases fb with
  | false =>
    go_wp2_with fail
    refine alive_any.mono ?_
    rintro e w3 ⟨rfl, hb3⟩
    go_wp2_with fail
    go_ret
    exact ⟨rfl, Bt HB1.out hb3⟩
  | true =>
    have HN := hid (HFEW.out rfl)
    obtain ⟨x0, x1, x2, x3, x4⟩ := HX1.out.cells
    go_wp2_with fail
    refine (few9_any (ps := [(o, .slice A1 n1 c1, .slice A2 n2 c2, .slice A3 n3 c3)]) (rdOp_one (opPB.on HP1.out (B1 _ _)) (heap_alloc_new w1 _))).mono ?_
    rintro e w2 ⟨fb2, rfl, _, hb2⟩
    have HB2 := hid (Bt (Ba HB1.out _) hb2)
    have H2 := hid ((H1.out.on opPB (B1 w1 (.cells #[.int .i64 o.kd, .string (bs o.nm), .slice A1 n1 c1, .slice A2 n2 c2, .slice A3 n3 c3] 54))).on opPB hb2)
    have HP2 := hid (opPB.on (opPB.on HP1.out (B1 w1 (.cells #[.int .i64 o.kd, .string (bs o.nm), .slice A1 n1 c1, .slice A2 n2 c2, .slice A3 n3 c3] 54))) hb2)
    have HX2 := hid ((HX1.out.on (B1 w1 (.cells #[.int .i64 o.kd, .string (bs o.nm), .slice A1 n1 c1, .slice A2 n2 c2, .slice A3 n3 c3] 54))).on hb2)
    clear hb2 x0 x1 x2 x3 x4
    cases fb2 with
    | false =>
      go_wp2_with fail
      refine alive_any.mono ?_
      rintro e w3 ⟨rfl, hb3⟩
      go_wp2_with fail
      go_ret
      exact ⟨rfl, Bt HB2.out hb3⟩
    | true =>
      go_wp2_with fail
      refine (made9_any H2.out HN.out).mono ?_
      rintro e w3 ⟨c, mb, k, r, l, A4, m4, c4, rfl, hk, hs3, _, hb3⟩
      have HS3 := hid hs3
      have HK3 := hid hk
      have HB3 := hid (Bt HB2.out hb3)
      have HP3 := hid (opPB.on HP2.out hb3)
      have HX3 := hid (HX2.out.on hb3)
      clear hs3 hk hb3
      obtain ⟨x0, x1, x2, x3, x4⟩ := HX3.out.cells
      go_wp2_with fail
      refine (does_any HS3.out.cat (by have := HK3.out; omega) HOK.out HP3.out.1).mono ?_
      rintro e w4 ⟨rfl, hq⟩
      have HB4 : Hid (Below w.heap.size w w4) := hid (HB3.out.trans ((hq.bl HS3.out.cat).mono HB2.out.size))
      obtain ⟨l', hl'⟩ : ∃ l', l' = (doS l o).1 := ⟨_, rfl⟩
      obtain ⟨e3, he3⟩ : ∃ x, x = (doS l o).2.1 := ⟨_, rfl⟩
      obtain ⟨e4, he4⟩ : ∃ x, x = (doS l o).2.2 := ⟨_, rfl⟩
      have hsame : e4 ≠ 0 → l' = l ∧ e3 = 0 := fun h => by rw [hl', he3]; exact doS_same (by rw [← he4]; exact h)
      rw [← hl'] at hq
      rw [← he3, ← he4]
      have HSM := hid hsame
      obtain ⟨r', hc4, hf4, _⟩ := hq
      have HC4 := hid hc4
      have HD4 := hid (HS3.out.doc.fr hf4)
      clear hc4 hf4 hl' he3 he4 hsame x0 x1 x2 x3 x4
      go_wp2_with fail
      refine alive_any.mono ?_
      rintro e w5 ⟨rfl, hb5⟩
      have HB5 := hid (Bt HB4.out hb5)
      by_cases h0 : e4 = 0
      · have t1 : (e4 == 0) = true := by simpa using h0
        clear h0
        go_wp2_with fail
        go_ret
        exact ⟨rfl, HB5.out⟩
      · have t1 : (e4 == 0) = false := by simpa using h0
        obtain ⟨z1, z2⟩ := HSM.out h0
        subst z1; subst z2
        have HS5 : Hid (St9 w5 c mb (k + 1) _ r' l' A4 m4 c4) := hid (St9.on ⟨HC4.out, HD4.out⟩ hb5)
        clear h0
        go_wp2_with fail
        refine (stands_any HS5.out).mono ?_
        rintro e w6 ⟨rfl, hb6⟩
        go_wp2_with fail
        go_ret
        exact ⟨rfl, Bt HB5.out hb6⟩
end Go.Proofs.YtaegencmnmjgbaaGreat
