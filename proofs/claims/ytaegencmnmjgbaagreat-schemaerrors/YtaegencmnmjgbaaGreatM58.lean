/-
  The document's Retire of layer 9.
-/
import Derived.Test.YtaegencmnmjgbaaGreatM56
import Derived.Test.YtaegencmnmjgbaaGreatM57

namespace Go.Proofs.YtaegencmnmjgbaaGreat
open Go.RowKit Go.Maps
set_option linter.unusedVariables false
set_option linter.unusedSimpArgs false
theorem FsL.drop {w : World} {B b off N c m : Nat} {L : List (List Fd)} (h : FsL w B (.slice (some ⟨b, off, none⟩) N c) L) (hm : m < N) : FsL w B (.slice (some ⟨b, off + m, none⟩) (N - m) (c - m)) (L.drop m) := by
  obtain ⟨A, n, c', ps, e, h, rfl⟩ := h
  cases e
  have h1 := h.2.1
  have h2 := h.2.2.1
  have := h.drop (m := m) hm (c := c - m) (by omega) (by omega)
  rw [Nat.mul_one] at this
  exact ⟨_, _, _, _, rfl, this, by rw [List.map_drop]⟩
theorem TBy.set4 {w : World} {b : Nat} {p q : TyP} (h : TBy w b p) : TBy ((((w.setCell ⟨b, 0, none⟩ (.string (bs q.1.nm))).setCell ⟨b, 1, none⟩ (.int .i64 q.1.lo)).setCell ⟨b, 2, none⟩ q.2.1).setCell ⟨b, 3, none⟩ q.2.2) b q := row_set (row_set (row_set (row_set h 0 _) 1 _) 2 _) 3 _
theorem B4c {w w' : World} {B p : Nat} (h : Below B w w') (hp : B ≤ p) (a b c d : Value) : Below B w ((((w'.setCell ⟨p, 0, none⟩ a).setCell ⟨p, 1, none⟩ b).setCell ⟨p, 2, none⟩ c).setCell ⟨p, 3, none⟩ d) :=
  (((h.setCell (p := ⟨p, 0, none⟩) hp a).setCell (p := ⟨p, 1, none⟩) hp b).setCell (p := ⟨p, 2, none⟩) hp c).setCell (p := ⟨p, 3, none⟩) hp d
def oldQ (lo hi v : Int) : Bool := decide (lo ≤ v) && decide (v < hi)
set_option maxRecDepth 20000 in
set_option maxHeartbeats 16000000 in
theorem r9retire_any {w : World} {A : Option Addr} {n c : Nat} {l : List Ty} (h : DocL w w.heap.size A n c l) (hok : okC l) (nm : List UInt8) {A2 : Option Addr} {m cp : Nat} {live : List Int} (hli : RdI w w.heap.size A2 m cp live) :
    Calls Tryz.prog 69 #[.slice A n c, .string (bs nm), .slice A2 m cp] w (DocQ w (retS l nm live).1 [.int .i64 (retS l nm live).2.1, .int .i64 (retS l nm live).2.2]) := by
  have hn : n ≤ 16 := by rw [← h.len]; exact hok.2.1
  have hmm : (m : Int) ≤ 9223372036854775807 := by have := Nat.le_trans hli.2.1 hli.2.2.1; unfold maxLen at this; omega
  have H := hid h; have HOK := hid hok; have HLI := hid hli
  have HML := hid hli.1
  clear h hok hli
  go_enter Tryz.func69, Tryz.ntmps69
  go_wp2_with fail
  refine (r9find_any H.out (by omega) nm).mono ?_
  rintro e w1 ⟨rfl, hb1⟩
  have HB1 := hid hb1
  have H1 := hid (H.out.on hb1)
  clear hb1
  cases hf : findT l nm with
  | none =>
    rw [findR_none hf]
    have HE := hid (retS_none (live := live) (findT_none.1 hf))
    clear hf
    go_wp2_with fail
    go_ret3
    rw [HE.out]
    exact ⟨_, _, _, rfl, H1.out, HB1.out⟩
  | some k =>
    obtain ⟨t, h1, h2, h3⟩ := findT_at hf
    rw [findR_some hf]
    have hE : retS l nm live = if live.any (fun v => decide (t.lo ≤ v) && decide (v < t.hi)) then (l, 0, 93) else (l.set k (soleT t), (t.ts.length : Int), 0) := by unfold retS; rw [hf]; dsimp only; rw [h1]
    have HT := hid (HOK.out.2.2 t (List.mem_of_getElem? h1))
    obtain ⟨hkn, b, off, v1, v2, rfl, hfs, hts, hc⟩ := H1.out.at h1
    obtain ⟨A1, c1, rfl⟩ := hfs.shape
    obtain ⟨A3, c3, rfl⟩ := hts.shape
    obtain ⟨d0, d1, d2, d3⟩ := hc w1 (B0 _)
    obtain ⟨q1, q2, q3, q4, q5⟩ := HT.out.nums
    have HE := hid hE; have HFS := hid hfs; have HTS := hid hts
    have hki : (k : Int) < n := by omega
    have hk0 : (0 : Int) ≤ k := by omega
    have t0 : decide ((k : Int) < 0) = false := decide_eq_false (by omega)
    obtain ⟨w2, hw2⟩ : ∃ w2, w2 = w1.alloc (.cells #[.string (bs t.nm), .int .i64 t.lo, .slice A1 t.fs.length c1, .slice A3 t.ts.length c3] 60) := ⟨_, rfl⟩
    obtain ⟨p, hp⟩ : ∃ p, p = w1.heap.size := ⟨_, rfl⟩
    have HW2 := hid hw2; have HP := hid hp
    have HX2 : Hid (TBy w2 p (t, .slice A1 t.fs.length c1, .slice A3 t.ts.length c3)) := by rw [hw2, hp]; exact hid (TBy.new w1 (t, .slice A1 t.fs.length c1, .slice A3 t.ts.length c3))
    have HB2 : Hid (Below w1.heap.size w1 w2) := by rw [hw2]; exact hid (B1 _ _)
    have HTN := hid h2
    have HNM := hid (newest_V HT.out)
    obtain ⟨lo, hlo⟩ : ∃ lo, lo = t.lo := ⟨_, rfl⟩
    obtain ⟨hi, hhi⟩ : ∃ hi, hi = t.hi := ⟨_, rfl⟩
    have HLO := hid hlo; have HHI := hid hhi
    have HLR : Hid (0 ≤ t.lo ∧ t.lo ≤ 1000) := hid ⟨by omega, by omega⟩
    have HFL : Hid (t.fs.length ≤ 1000) := hid (by omega)
    have HSEL : Hid ((fun v => decide (t.lo ≤ v) && decide (v < t.hi)) = oldQ lo hi) := hid (by rw [hlo, hhi]; rfl)
    have hts1 : t.ts.length + 1 = t.fs.length := by have := HT.out.2.2.2.1; omega
    clear hf h1 h2 h3 hE hfs hts hc hw2 hp hlo hhi q5
    go_upto_region 5 with fail
    rw [← HW2.out, ← HP.out]
    clear d0 d1 d2 d3
    go_wp2_with fail
    go_loopw [11] (fun i wr => ∃ j : Nat, j ≤ m ∧ i = .int .i64 j ∧ Hid (∀ x, x < j → ∀ v, live[x]? = some v → oldQ lo hi v = false) ∧ Hid (Below w2.heap.size w2 wr)) (fun i _ => m - (intOf i).toNat)
    case atStart => exact ⟨0, by omega, rfl, hid (fun x hx => absurd hx (by omega)), B0 w2⟩
    case round =>
      obtain ⟨j, hj, rfl, HN, HB⟩ := hrel
      by_cases hlt : j < m
      · have hjl : j < live.length := by have := HML.out; omega
        obtain ⟨v, hv⟩ : ∃ v, live[j]? = some v := ⟨_, List.getElem?_eq_getElem hjl⟩
        have HLI2 := hid (HLI.out.on (Bt HB1.out HB2.out))
        obtain ⟨b9, off9, rfl, hbl, hc⟩ := HLI2.out.2.2.2.2 (by omega)
        have c0 : ∀ W, Below w2.heap.size w2 W → W.cell? ⟨b9, off9 + j, none⟩ = some (.int .i64 v) := fun W hW => by
          have := (hW.cell (p := ⟨b9, off9 + j, none⟩) hbl).trans (hc j hjl)
          rw [this]; rw [List.getElem?_eq_getElem hjl] at hv; cases hv; rfl
        have HC0 := hid c0
        have HV := hid hv
        have hji : (j : Int) < m := by omega
        have hj0 : (0 : Int) ≤ j := by omega
        have HQV : Hid (oldQ lo hi v = (decide (t.lo ≤ v) && decide (v < t.hi))) := hid (by unfold oldQ; rw [HLO.out, HHI.out])
        have HNX : Hid (oldQ lo hi v = false → ∀ x, x < j + 1 → ∀ v, live[x]? = some v → oldQ lo hi v = false) := hid (fun hh x hx v' hv' => by
          by_cases e : x = j
          · subst e; rw [HV.out] at hv'; cases hv'; exact hh
          · exact HN.out x (by omega) v' hv')
        clear hc hjl hv c0
        go_upto_region 8 with fail
        by_cases g1 : t.lo ≤ v
        · have t1 : decide (t.lo ≤ v) = true := decide_eq_true g1
          rw [t1] at HQV
          clear g1
          by_cases g2 : v < t.hi
          · have t2 : decide (v < t.hi) = true := decide_eq_true g2
            have HANY : Hid (live.any (oldQ lo hi) = true) := hid (List.any_eq_true.2 ⟨v, List.mem_of_getElem? HV.out, by rw [HQV.out, t2]; rfl⟩)
            have HR : Hid (retS l nm live = (l, 0, 93)) := hid (by rw [HE.out, HSEL.out, HANY.out]; rfl)
            clear g2
            refine reg_begin (by kernel_rfl) (fun w0a hx0a hHeld => ?_)
            have s0 : ∀ w', Ext w0a w' → Below w2.heap.size w2 w' := fun w' h => HB.out.trans ((hx0a.trans h).mono HB.out.size)
            have xa : ∀ w', Ext w0a w' → TBy w' p (t, .slice A1 t.fs.length c1, .slice A3 t.ts.length c3) := fun w' h => HX2.out.on (s0 w' h)
            have xl := fun w' (h : Ext w0a w') => run_loadTy (xa w' h)
            have xb0 : ∀ w', Ext w0a w' → w'.cell? ⟨p, 0, none⟩ = some (.string (bs t.nm)) := fun w' h => (xa w' h).cells.1
            have xb1 : ∀ w', Ext w0a w' → w'.cell? ⟨p, 1, none⟩ = some (.int .i64 t.lo) := fun w' h => (xa w' h).cells.2.1
            have xb2 : ∀ w', Ext w0a w' → w'.cell? ⟨p, 2, none⟩ = some (.slice A1 t.fs.length c1) := fun w' h => (xa w' h).cells.2.2.1
            have xb3 : ∀ w', Ext w0a w' → w'.cell? ⟨p, 3, none⟩ = some (.slice A3 t.ts.length c3) := fun w' h => (xa w' h).cells.2.2.2
            have xc := fun w' (h : Ext w0a w') => HC0.out w' (s0 w' h)
            dsimp only at xl
            have HS0 := hid s0
            clear xa s0
            refine reg_take 0 (v := ?vb0) at0 (by kernel_rfl) (by kernel_rfl) (by kernel_rfl) (by rfl) ?hyb0 hHeld ?restb0
            case hyb0 => (intro w' hSw; go_simp; try with_reducible rfl)
            try simp only [Act.put, List.setIfInBounds_toArray, List.set_cons_zero, List.set_cons_succ]
            refine reg_take 1 (v := ?vb1) (atS at0) (by kernel_rfl) (by kernel_rfl) (by kernel_rfl) (by rfl) ?hyb1 hHeld ?restb1
            case hyb1 => (intro w' hSw; go_simp; try with_reducible rfl)
            try simp only [Act.put, List.setIfInBounds_toArray, List.set_cons_zero, List.set_cons_succ]
            refine reg_take 2 (v := ?vb2) (atS (atS at0)) (by kernel_rfl) (by kernel_rfl) (by kernel_rfl) (by rfl) ?hyb2 hHeld ?restb2
            case hyb2 => (intro w' hSw; go_simp; try with_reducible rfl)
            try simp only [Act.put, List.setIfInBounds_toArray, List.set_cons_zero, List.set_cons_succ]
            refine reg_take 3 (v := ?vb3) (atS (atS (atS at0))) (by kernel_rfl) (by kernel_rfl) (by kernel_rfl) (by rfl) ?hyb3 hHeld ?restb3
            case hyb3 => (intro w' hSw; go_simp; try with_reducible rfl)
            try simp only [Act.put, List.setIfInBounds_toArray, List.set_cons_zero, List.set_cons_succ]
            refine reg_take 4 (v := ?vb4) (atS (atS (atS (atS at0)))) (by kernel_rfl) (by kernel_rfl) (by kernel_rfl) (by rfl) ?hyb4 hHeld ?restb4
            case hyb4 => (intro w' hSw; go_simp; try with_reducible rfl)
            try simp only [Act.put, List.setIfInBounds_toArray, List.set_cons_zero, List.set_cons_succ]
            refine reg_take 5 (v := ?vb5) (atS5 at0) (by kernel_rfl) (by kernel_rfl) (by kernel_rfl) (by rfl) ?hyb5 hHeld ?restb5
            case hyb5 => (intro w' hSw; go_simp; try with_reducible rfl)
            try simp only [Act.put, List.setIfInBounds_toArray, List.set_cons_zero, List.set_cons_succ]
            refine reg_take 6 (v := ?vb6) (atS5 (atS at0)) (by kernel_rfl) (by kernel_rfl) (by kernel_rfl) (by rfl) ?hyb6 hHeld ?restb6
            case hyb6 => (intro w' hSw; go_simp; try with_reducible rfl)
            try simp only [Act.put, List.setIfInBounds_toArray, List.set_cons_zero, List.set_cons_succ]
            refine reg_take 7 (v := ?vb7) (atS5 (atS (atS at0))) (by kernel_rfl) (by kernel_rfl) (by kernel_rfl) (by rfl) ?hyb7 hHeld ?restb7
            case hyb7 => (intro w' hSw; go_simp; try with_reducible rfl)
            try simp only [Act.put, List.setIfInBounds_toArray, List.set_cons_zero, List.set_cons_succ]
            refine reg_take 8 (v := ?vb8) (atS5 (atS (atS (atS at0)))) (by kernel_rfl) (by kernel_rfl) (by kernel_rfl) (by rfl) ?hyb8 hHeld ?restb8
            case hyb8 => (intro w' hSw; go_simp; try with_reducible rfl)
            try simp only [Act.put, List.setIfInBounds_toArray, List.set_cons_zero, List.set_cons_succ]
            refine reg_take 9 (v := ?vb9) (atS5 (atS (atS (atS (atS at0))))) (by kernel_rfl) (by kernel_rfl) (by kernel_rfl) (by rfl) ?hyb9 hHeld ?restb9
            case hyb9 => (intro w' hSw; go_simp; try with_reducible rfl)
            try simp only [Act.put, List.setIfInBounds_toArray, List.set_cons_zero, List.set_cons_succ]
            refine reg_take 10 (v := ?vb10) (atS5 (atS5 at0)) (by kernel_rfl) (by kernel_rfl) (by kernel_rfl) (by rfl) ?hyb10 hHeld ?restb10
            case hyb10 => (intro w' hSw; go_simp; try with_reducible rfl)
            try simp only [Act.put, List.setIfInBounds_toArray, List.set_cons_zero, List.set_cons_succ]
            refine reg_take 11 (v := ?vb11) (atS5 (atS5 (atS at0))) (by kernel_rfl) (by kernel_rfl) (by kernel_rfl) (by rfl) ?hyb11 hHeld ?restb11
            case hyb11 => (intro w' hSw; go_simp; try with_reducible rfl)
            try simp only [Act.put, List.setIfInBounds_toArray, List.set_cons_zero, List.set_cons_succ]
            refine reg_take 12 (v := ?vb12) (atS5 (atS5 (atS (atS at0)))) (by kernel_rfl) (by kernel_rfl) (by kernel_rfl) (by rfl) ?hyb12 hHeld ?restb12
            case hyb12 => (intro w' hSw; go_simp; try with_reducible rfl)
            try simp only [Act.put, List.setIfInBounds_toArray, List.set_cons_zero, List.set_cons_succ]
            refine wpAnyH_ready (rs := [13]) (by kernel_rfl) (by simp) ?_
            refine AllReadyH.cons (atS5 (atS5 (atS (atS (atS at0))))) (fun K hK => ?_) AllReadyH.nil
            go_simp
            refine (r9newest_any t.nm HLR.out HFL.out).mono ?_
            rintro e w4 ⟨rfl, hb4⟩
            rw [HNM.out]
            go_wp2_with fail
            refine hK.out _ _ hb4 (fun hHeld => ?_)
            clear hK K
            try simp only [Act.put, List.setIfInBounds_toArray, List.set_cons_zero, List.set_cons_succ]
            refine reg_on hb4 (fun hHeld => ?_)
            refine reg_take 14 (v := ?vb14) (atS5 (atS5 (atS (atS (atS (atS at0)))))) (by kernel_rfl) (by kernel_rfl) (by kernel_rfl) (by rfl) ?hyb14 hHeld ?restb14
            case hyb14 => (intro w' hSw; go_simp; try with_reducible rfl)
            try simp only [Act.put, List.setIfInBounds_toArray, List.set_cons_zero, List.set_cons_succ]
            refine reg_take 15 (v := ?vb15) (atS5 (atS5 (atS5 at0))) (by kernel_rfl) (by kernel_rfl) (by kernel_rfl) (by rfl) ?hyb15 hHeld ?restb15
            case hyb15 => (intro w' hSw; go_simp; try with_reducible rfl)
            try simp only [Act.put, List.setIfInBounds_toArray, List.set_cons_zero, List.set_cons_succ]
            refine wpAnyH_done (by kernel_rfl) ?_ _
            refine NoPanic.normal ?_
            have HB4 : Hid (Below w2.heap.size w2 w4) := hid ((HS0.out _ (Ext.refl _)).trans (hb4.mono (HS0.out _ (Ext.refl _)).size))
            clear xl xb0 xb1 xb2 xb3 xc
            go_wp2_with fail
            go_ret3
            rw [HR.out]
            exact ⟨_, _, _, rfl, H1.out.on (Bt HB2.out HB4.out), Bt HB1.out (Bt HB2.out HB4.out)⟩
          · have t2 : decide (v < t.hi) = false := decide_eq_false g2
            rw [t2] at HQV
            clear g2
            refine reg_begin (by kernel_rfl) (fun w0c hx0c hHeld => ?_)
            have s0 : ∀ w', Ext w0c w' → Below w2.heap.size w2 w' := fun w' h => HB.out.trans ((hx0c.trans h).mono HB.out.size)
            have xa : ∀ w', Ext w0c w' → TBy w' p (t, .slice A1 t.fs.length c1, .slice A3 t.ts.length c3) := fun w' h => HX2.out.on (s0 w' h)
            have xl := fun w' (h : Ext w0c w') => run_loadTy (xa w' h)
            have xb0 : ∀ w', Ext w0c w' → w'.cell? ⟨p, 0, none⟩ = some (.string (bs t.nm)) := fun w' h => (xa w' h).cells.1
            have xb1 : ∀ w', Ext w0c w' → w'.cell? ⟨p, 1, none⟩ = some (.int .i64 t.lo) := fun w' h => (xa w' h).cells.2.1
            have xb2 : ∀ w', Ext w0c w' → w'.cell? ⟨p, 2, none⟩ = some (.slice A1 t.fs.length c1) := fun w' h => (xa w' h).cells.2.2.1
            have xb3 : ∀ w', Ext w0c w' → w'.cell? ⟨p, 3, none⟩ = some (.slice A3 t.ts.length c3) := fun w' h => (xa w' h).cells.2.2.2
            have xc := fun w' (h : Ext w0c w') => HC0.out w' (s0 w' h)
            dsimp only at xl
            have HS0 := hid s0
            clear xa s0
            refine reg_take 0 (v := ?vc0) at0 (by kernel_rfl) (by kernel_rfl) (by kernel_rfl) (by rfl) ?hyc0 hHeld ?restc0
            case hyc0 => (intro w' hSw; go_simp; try with_reducible rfl)
            try simp only [Act.put, List.setIfInBounds_toArray, List.set_cons_zero, List.set_cons_succ]
            refine reg_take 1 (v := ?vc1) (atS at0) (by kernel_rfl) (by kernel_rfl) (by kernel_rfl) (by rfl) ?hyc1 hHeld ?restc1
            case hyc1 => (intro w' hSw; go_simp; try with_reducible rfl)
            try simp only [Act.put, List.setIfInBounds_toArray, List.set_cons_zero, List.set_cons_succ]
            refine reg_take 2 (v := ?vc2) (atS (atS at0)) (by kernel_rfl) (by kernel_rfl) (by kernel_rfl) (by rfl) ?hyc2 hHeld ?restc2
            case hyc2 => (intro w' hSw; go_simp; try with_reducible rfl)
            try simp only [Act.put, List.setIfInBounds_toArray, List.set_cons_zero, List.set_cons_succ]
            refine reg_take 3 (v := ?vc3) (atS (atS (atS at0))) (by kernel_rfl) (by kernel_rfl) (by kernel_rfl) (by rfl) ?hyc3 hHeld ?restc3
            case hyc3 => (intro w' hSw; go_simp; try with_reducible rfl)
            try simp only [Act.put, List.setIfInBounds_toArray, List.set_cons_zero, List.set_cons_succ]
            refine reg_take 4 (v := ?vc4) (atS (atS (atS (atS at0)))) (by kernel_rfl) (by kernel_rfl) (by kernel_rfl) (by rfl) ?hyc4 hHeld ?restc4
            case hyc4 => (intro w' hSw; go_simp; try with_reducible rfl)
            try simp only [Act.put, List.setIfInBounds_toArray, List.set_cons_zero, List.set_cons_succ]
            refine reg_take 5 (v := ?vc5) (atS5 at0) (by kernel_rfl) (by kernel_rfl) (by kernel_rfl) (by rfl) ?hyc5 hHeld ?restc5
            case hyc5 => (intro w' hSw; go_simp; try with_reducible rfl)
            try simp only [Act.put, List.setIfInBounds_toArray, List.set_cons_zero, List.set_cons_succ]
            refine reg_take 6 (v := ?vc6) (atS5 (atS at0)) (by kernel_rfl) (by kernel_rfl) (by kernel_rfl) (by rfl) ?hyc6 hHeld ?restc6
            case hyc6 => (intro w' hSw; go_simp; try with_reducible rfl)
            try simp only [Act.put, List.setIfInBounds_toArray, List.set_cons_zero, List.set_cons_succ]
            refine reg_take 7 (v := ?vc7) (atS5 (atS (atS at0))) (by kernel_rfl) (by kernel_rfl) (by kernel_rfl) (by rfl) ?hyc7 hHeld ?restc7
            case hyc7 => (intro w' hSw; go_simp; try with_reducible rfl)
            try simp only [Act.put, List.setIfInBounds_toArray, List.set_cons_zero, List.set_cons_succ]
            refine reg_take 8 (v := ?vc8) (atS5 (atS (atS (atS at0)))) (by kernel_rfl) (by kernel_rfl) (by kernel_rfl) (by rfl) ?hyc8 hHeld ?restc8
            case hyc8 => (intro w' hSw; go_simp; try with_reducible rfl)
            try simp only [Act.put, List.setIfInBounds_toArray, List.set_cons_zero, List.set_cons_succ]
            refine reg_take 9 (v := ?vc9) (atS5 (atS (atS (atS (atS at0))))) (by kernel_rfl) (by kernel_rfl) (by kernel_rfl) (by rfl) ?hyc9 hHeld ?restc9
            case hyc9 => (intro w' hSw; go_simp; try with_reducible rfl)
            try simp only [Act.put, List.setIfInBounds_toArray, List.set_cons_zero, List.set_cons_succ]
            refine reg_take 10 (v := ?vc10) (atS5 (atS5 at0)) (by kernel_rfl) (by kernel_rfl) (by kernel_rfl) (by rfl) ?hyc10 hHeld ?restc10
            case hyc10 => (intro w' hSw; go_simp; try with_reducible rfl)
            try simp only [Act.put, List.setIfInBounds_toArray, List.set_cons_zero, List.set_cons_succ]
            refine reg_take 11 (v := ?vc11) (atS5 (atS5 (atS at0))) (by kernel_rfl) (by kernel_rfl) (by kernel_rfl) (by rfl) ?hyc11 hHeld ?restc11
            case hyc11 => (intro w' hSw; go_simp; try with_reducible rfl)
            try simp only [Act.put, List.setIfInBounds_toArray, List.set_cons_zero, List.set_cons_succ]
            refine reg_take 12 (v := ?vc12) (atS5 (atS5 (atS (atS at0)))) (by kernel_rfl) (by kernel_rfl) (by kernel_rfl) (by rfl) ?hyc12 hHeld ?restc12
            case hyc12 => (intro w' hSw; go_simp; try with_reducible rfl)
            try simp only [Act.put, List.setIfInBounds_toArray, List.set_cons_zero, List.set_cons_succ]
            refine wpAnyH_ready (rs := [13]) (by kernel_rfl) (by simp) ?_
            refine AllReadyH.cons (atS5 (atS5 (atS (atS (atS at0))))) (fun K hK => ?_) AllReadyH.nil
            go_simp
            refine (r9newest_any t.nm HLR.out HFL.out).mono ?_
            rintro e w4 ⟨rfl, hb4⟩
            rw [HNM.out]
            go_wp2_with fail
            refine hK.out _ _ hb4 (fun hHeld => ?_)
            clear hK K
            try simp only [Act.put, List.setIfInBounds_toArray, List.set_cons_zero, List.set_cons_succ]
            refine reg_on hb4 (fun hHeld => ?_)
            refine reg_take 14 (v := ?vc14) (atS5 (atS5 (atS (atS (atS (atS at0)))))) (by kernel_rfl) (by kernel_rfl) (by kernel_rfl) (by rfl) ?hyc14 hHeld ?restc14
            case hyc14 => (intro w' hSw; go_simp; try with_reducible rfl)
            try simp only [Act.put, List.setIfInBounds_toArray, List.set_cons_zero, List.set_cons_succ]
            refine reg_take 15 (v := ?vc15) (atS5 (atS5 (atS5 at0))) (by kernel_rfl) (by kernel_rfl) (by kernel_rfl) (by rfl) ?hyc15 hHeld ?restc15
            case hyc15 => (intro w' hSw; go_simp; try with_reducible rfl)
            try simp only [Act.put, List.setIfInBounds_toArray, List.set_cons_zero, List.set_cons_succ]
            refine wpAnyH_done (by kernel_rfl) ?_ _
            refine NoPanic.normal ?_
            have HB4 : Hid (Below w2.heap.size w2 w4) := hid ((HS0.out _ (Ext.refl _)).trans (hb4.mono (HS0.out _ (Ext.refl _)).size))
            clear xl xb0 xb1 xb2 xb3 xc
            go_wp2_with fail
            exact ⟨⟨j + 1, by omega, by go_num, hid (HNX.out (by rw [HQV.out]; rfl)), HB4⟩, by simp [intOf]; omega⟩
        · have t1 : decide (t.lo ≤ v) = false := decide_eq_false g1
          rw [t1] at HQV
          clear g1
          refine reg_begin (by kernel_rfl) (fun w0b hx0b hHeld => ?_)
          have s0 : ∀ w', Ext w0b w' → Below w2.heap.size w2 w' := fun w' h => HB.out.trans ((hx0b.trans h).mono HB.out.size)
          have xa : ∀ w', Ext w0b w' → TBy w' p (t, .slice A1 t.fs.length c1, .slice A3 t.ts.length c3) := fun w' h => HX2.out.on (s0 w' h)
          have xb1 : ∀ w', Ext w0b w' → w'.cell? ⟨p, 1, none⟩ = some (.int .i64 t.lo) := fun w' h => (xa w' h).cells.2.1
          have xc := fun w' (h : Ext w0b w') => HC0.out w' (s0 w' h)
          have HS0 := hid s0
          clear xa s0
          refine reg_take 0 (v := ?vd0) at0 (by kernel_rfl) (by kernel_rfl) (by kernel_rfl) (by rfl) ?hyd0 hHeld ?restd0
          case hyd0 => (intro w' hSw; go_simp; try with_reducible rfl)
          try simp only [Act.put, List.setIfInBounds_toArray, List.set_cons_zero, List.set_cons_succ]
          refine reg_take 1 (v := ?vd1) (atS at0) (by kernel_rfl) (by kernel_rfl) (by kernel_rfl) (by rfl) ?hyd1 hHeld ?restd1
          case hyd1 => (intro w' hSw; go_simp; try with_reducible rfl)
          try simp only [Act.put, List.setIfInBounds_toArray, List.set_cons_zero, List.set_cons_succ]
          refine reg_take 2 (v := ?vd2) (atS (atS at0)) (by kernel_rfl) (by kernel_rfl) (by kernel_rfl) (by rfl) ?hyd2 hHeld ?restd2
          case hyd2 => (intro w' hSw; go_simp; try with_reducible rfl)
          try simp only [Act.put, List.setIfInBounds_toArray, List.set_cons_zero, List.set_cons_succ]
          refine reg_take 3 (v := ?vd3) (atS (atS (atS at0))) (by kernel_rfl) (by kernel_rfl) (by kernel_rfl) (by rfl) ?hyd3 hHeld ?restd3
          case hyd3 => (intro w' hSw; go_simp; try with_reducible rfl)
          try simp only [Act.put, List.setIfInBounds_toArray, List.set_cons_zero, List.set_cons_succ]
          refine reg_take 4 (v := ?vd4) (atS (atS (atS (atS at0)))) (by kernel_rfl) (by kernel_rfl) (by kernel_rfl) (by rfl) ?hyd4 hHeld ?restd4
          case hyd4 => (intro w' hSw; go_simp; try with_reducible rfl)
          try simp only [Act.put, List.setIfInBounds_toArray, List.set_cons_zero, List.set_cons_succ]
          refine reg_take 5 (v := ?vd5) (atS5 at0) (by kernel_rfl) (by kernel_rfl) (by kernel_rfl) (by rfl) ?hyd5 hHeld ?restd5
          case hyd5 => (intro w' hSw; go_simp; try with_reducible rfl)
          try simp only [Act.put, List.setIfInBounds_toArray, List.set_cons_zero, List.set_cons_succ]
          refine reg_take 6 (v := ?vd6) (atS5 (atS at0)) (by kernel_rfl) (by kernel_rfl) (by kernel_rfl) (by rfl) ?hyd6 hHeld ?restd6
          case hyd6 => (intro w' hSw; go_simp; try with_reducible rfl)
          try simp only [Act.put, List.setIfInBounds_toArray, List.set_cons_zero, List.set_cons_succ]
          refine reg_take 7 (v := ?vd7) (atS5 (atS (atS at0))) (by kernel_rfl) (by kernel_rfl) (by kernel_rfl) (by rfl) ?hyd7 hHeld ?restd7
          case hyd7 => (intro w' hSw; go_simp; try with_reducible rfl)
          try simp only [Act.put, List.setIfInBounds_toArray, List.set_cons_zero, List.set_cons_succ]
          refine reg_skip 8 (atS5 (atS (atS (atS at0)))) (by kernel_rfl) (by kernel_rfl) (by kernel_rfl) (by rfl) hHeld ?_
          try simp only [Act.put, List.setIfInBounds_toArray, List.set_cons_zero, List.set_cons_succ]
          refine reg_skip 9 (atS5 (atS (atS (atS (atS at0))))) (by kernel_rfl) (by kernel_rfl) (by kernel_rfl) (by rfl) hHeld ?_
          try simp only [Act.put, List.setIfInBounds_toArray, List.set_cons_zero, List.set_cons_succ]
          refine reg_skip 10 (atS5 (atS5 at0)) (by kernel_rfl) (by kernel_rfl) (by kernel_rfl) (by rfl) hHeld ?_
          try simp only [Act.put, List.setIfInBounds_toArray, List.set_cons_zero, List.set_cons_succ]
          refine reg_skip 11 (atS5 (atS5 (atS at0))) (by kernel_rfl) (by kernel_rfl) (by kernel_rfl) (by rfl) hHeld ?_
          try simp only [Act.put, List.setIfInBounds_toArray, List.set_cons_zero, List.set_cons_succ]
          refine reg_skip 12 (atS5 (atS5 (atS (atS at0)))) (by kernel_rfl) (by kernel_rfl) (by kernel_rfl) (by rfl) hHeld ?_
          try simp only [Act.put, List.setIfInBounds_toArray, List.set_cons_zero, List.set_cons_succ]
          refine reg_skip 13 (atS5 (atS5 (atS (atS (atS at0))))) (by kernel_rfl) (by kernel_rfl) (by kernel_rfl) (by rfl) hHeld ?_
          try simp only [Act.put, List.setIfInBounds_toArray, List.set_cons_zero, List.set_cons_succ]
          refine reg_skip 14 (atS5 (atS5 (atS (atS (atS (atS at0)))))) (by kernel_rfl) (by kernel_rfl) (by kernel_rfl) (by rfl) hHeld ?_
          try simp only [Act.put, List.setIfInBounds_toArray, List.set_cons_zero, List.set_cons_succ]
          refine reg_take 15 (v := ?vd15) (atS5 (atS5 (atS5 at0))) (by kernel_rfl) (by kernel_rfl) (by kernel_rfl) (by rfl) ?hyd15 hHeld ?restd15
          case hyd15 => (intro w' hSw; go_simp; try with_reducible rfl)
          try simp only [Act.put, List.setIfInBounds_toArray, List.set_cons_zero, List.set_cons_succ]
          refine wpAnyH_done (by kernel_rfl) ?_ _
          refine NoPanic.normal ?_
          clear xb1 xc
          go_wp2_with fail
          exact ⟨⟨j + 1, by omega, by go_num, hid (HNX.out (by rw [HQV.out]; rfl)), hid (HS0.out _ (Ext.refl _))⟩, by simp [intOf]; omega⟩
      · have hji : ¬ ((j : Int) < m) := by omega
        have HANY : Hid (live.any (oldQ lo hi) = false) := hid (by
          rw [List.any_eq_false]
          intro v hv
          obtain ⟨x, hx⟩ := List.getElem?_of_mem hv
          have := HN.out x (by have := (List.getElem?_eq_some_iff.1 hx).1; have := HML.out; omega) v hx
          rw [this]; simp)
        have HR : Hid (retS l nm live = (l.set k (soleT t), (t.ts.length : Int), 0)) := hid (by rw [HE.out, HSEL.out, HANY.out]; rfl)
        obtain ⟨x0, x1, x2, x3⟩ := (HX2.out.on HB.out).cells
        dsimp only at x0 x1 x2 x3
        go_upto_region 11 with fail
        clear x0 x1 x2 x3
        have HH2 := hid (H1.out.on (Bt HB2.out HB.out))
        have HFS2 := hid (HFS.out.on (Bt HB2.out HB.out))
        have HXr := hid (HX2.out.on HB.out)
        have HBR : Hid (Below w.heap.size w wr) := hid (Bt HB1.out (Bt HB2.out HB.out))
        obtain ⟨b5, off5, hA1⟩ : ∃ b5 off5, A1 = some ⟨b5, off5, none⟩ := by
          obtain ⟨_, _, _, ps5, e5, h5, h6⟩ := HFS2.out
          cases e5
          obtain ⟨b5, off5, e, _⟩ := h5.2.2.2.2 (by omega)
          exact ⟨b5, off5, e⟩
        subst hA1
        have hcf : t.fs.length ≤ c1 := by
          obtain ⟨_, _, _, ps5, e5, h5, h6⟩ := HFS2.out
          cases e5
          exact h5.2.1
        have HTS1 := hid hts1
        have HSO : Hid (soleT t = ⟨nm, hi, t.fs.drop t.ts.length, []⟩) := hid (by rw [HHI.out]; unfold soleT; rw [HTN.out])
        have hle1 : t.ts.length ≤ t.fs.length := by omega
        have hne1 : ¬ (c1 = t.ts.length) := by omega
        refine reg_begin (by kernel_rfl) (fun w0d hx0d hHeld => ?_)
        have xa : ∀ w', Ext w0d w' → TBy w' p (t, .slice (some ⟨b5, off5, none⟩) t.fs.length c1, .slice A3 t.ts.length c3) := fun w' h => (HXr.out.on (Bt (B0 _) hx0d)).on h
        have xl := fun w' (h : Ext w0d w') => run_loadTy (xa w' h)
        have xb2 : ∀ w', Ext w0d w' → w'.cell? ⟨p, 2, none⟩ = some (.slice (some ⟨b5, off5, none⟩) t.fs.length c1) := fun w' h => (xa w' h).cells.2.2.1
        have xb0 : ∀ w', Ext w0d w' → w'.cell? ⟨p, 0, none⟩ = some (.string (bs t.nm)) := fun w' h => (xa w' h).cells.1
        have xb1 : ∀ w', Ext w0d w' → w'.cell? ⟨p, 1, none⟩ = some (.int .i64 t.lo) := fun w' h => (xa w' h).cells.2.1
        have xb3 : ∀ w', Ext w0d w' → w'.cell? ⟨p, 3, none⟩ = some (.slice A3 t.ts.length c3) := fun w' h => (xa w' h).cells.2.2.2
        dsimp only at xl
        clear xa
        refine reg_take 0 (v := ?vz1_0) at0 (by kernel_rfl) (by kernel_rfl) (by kernel_rfl) (by rfl) ?hyz1_0 hHeld ?restz1_0
        case hyz1_0 => (intro w' hSw; go_simp; try with_reducible rfl)
        try simp only [Act.put, List.setIfInBounds_toArray, List.set_cons_zero, List.set_cons_succ]
        refine reg_take 1 (v := ?vz2_1) (atS at0) (by kernel_rfl) (by kernel_rfl) (by kernel_rfl) (by rfl) ?hyz2_1 hHeld ?restz2_1
        case hyz2_1 => (intro w' hSw; go_simp; try with_reducible rfl)
        try simp only [Act.put, List.setIfInBounds_toArray, List.set_cons_zero, List.set_cons_succ]
        refine reg_take 3 (v := ?vz3_3) (atS (atS (atS at0))) (by kernel_rfl) (by kernel_rfl) (by kernel_rfl) (by rfl) ?hyz3_3 hHeld ?restz3_3
        case hyz3_3 => (intro w' hSw; go_simp; try with_reducible rfl)
        try simp only [Act.put, List.setIfInBounds_toArray, List.set_cons_zero, List.set_cons_succ]
        refine reg_take 4 (v := ?vz4_4) (atS (atS (atS (atS at0)))) (by kernel_rfl) (by kernel_rfl) (by kernel_rfl) (by rfl) ?hyz4_4 hHeld ?restz4_4
        case hyz4_4 => (intro w' hSw; go_simp; try with_reducible rfl)
        try simp only [Act.put, List.setIfInBounds_toArray, List.set_cons_zero, List.set_cons_succ]
        refine reg_take 5 (v := ?vz5_5) (atS5 at0) (by kernel_rfl) (by kernel_rfl) (by kernel_rfl) (by rfl) ?hyz5_5 hHeld ?restz5_5
        case hyz5_5 => (intro w' hSw; go_simp; try with_reducible rfl)
        try simp only [Act.put, List.setIfInBounds_toArray, List.set_cons_zero, List.set_cons_succ]
        refine reg_take 6 (v := ?vz6_6) (atS5 (atS at0)) (by kernel_rfl) (by kernel_rfl) (by kernel_rfl) (by rfl) ?hyz6_6 hHeld ?restz6_6
        case hyz6_6 => (intro w' hSw; go_simp; try with_reducible rfl)
        try simp only [Act.put, List.setIfInBounds_toArray, List.set_cons_zero, List.set_cons_succ]
        refine wpAnyH_ready (rs := [2, 8]) (by kernel_rfl) (by simp) ?_
        refine AllReadyH.cons (atS (atS at0)) (fun K hK => ?_) (AllReadyH.cons (atS5 (atS (atS (atS at0)))) (fun K hK => ?_) AllReadyH.nil)
        · skip
          go_simp
          refine (r9newest_any t.nm HLR.out HFL.out).mono ?_
          rintro e w6 ⟨rfl, hb6⟩
          rw [HNM.out]
          have HB6 : Hid (Below w0d.heap.size w0d w6) := hid (by first | exact hb6 | exact Bt (B1 _ _) hb6)
          first | (have HVB : Hid (TBy w6 w0d.heap.size (⟨[], 0, [], []⟩, .slice none 0 0, .slice none 0 0)) := hid ((TBy.new w0d (⟨[], 0, [], []⟩, .slice none 0 0, .slice none 0 0)).on hb6); have sf0 := row_frozen HVB.out 0; have sf1 := row_frozen HVB.out 1; have sf2 := row_frozen HVB.out 2; have sf3 := row_frozen HVB.out 3; have sv0 := HVB.out.cells.1; have sv1 := HVB.out.cells.2.1; have sv2 := HVB.out.cells.2.2.1; have sv3 := HVB.out.cells.2.2.2) | skip
          clear hb6
          go_wp2_with fail
          refine hK.out _ _ HB6.out (fun hHeld => ?_)
          clear hK K
          try simp only [Act.put, List.setIfInBounds_toArray, List.set_cons_zero, List.set_cons_succ]
          refine reg_take 7 (v := ?vz7_7) (atS5 (atS (atS at0))) (by kernel_rfl) (by kernel_rfl) (by kernel_rfl) (by rfl) ?hyz7_7 hHeld ?restz7_7
          case hyz7_7 => (intro w' hSw; go_simp; try with_reducible rfl)
          try simp only [Act.put, List.setIfInBounds_toArray, List.set_cons_zero, List.set_cons_succ]
          refine wpAnyH_ready (rs := [8]) (by kernel_rfl) (by simp) ?_
          refine AllReadyH.cons (atS5 (atS (atS (atS at0)))) (fun K hK => ?_) AllReadyH.nil
          go_simp
          skip
          refine hK.out _ _ (by first | exact Ba HB6.out _ | exact B1 _ _) (fun hHeld => ?_)
          clear hK K
          try simp only [Act.put, List.setIfInBounds_toArray, List.set_cons_zero, List.set_cons_succ]
          refine wpAnyH_ready (rs := [9]) (by kernel_rfl) (by simp) ?_
          refine AllReadyH.cons (atS5 (atS (atS (atS (atS at0))))) (fun K hK => ?_) AllReadyH.nil
          go_simp
          skip
          refine hK.out _ _ (by first | exact Ba HB6.out _ | exact B4c HB6.out (Nat.le_refl _) (.string (bs nm)) (.int .i64 t.hi) (.slice (some ⟨b5, off5 + t.ts.length, none⟩) (t.fs.length - t.ts.length) (c1 - t.ts.length)) (.slice none 0 0)) (fun hHeld => ?_)
          clear hK K
          try simp only [Act.put]
          refine wpAnyH_done (by kernel_rfl) ?_ _
          refine NoPanic.normal ?_
          clear xl xb0 xb1 xb2 xb3
          first
          | (obtain ⟨w7, hw7⟩ : ∃ w7, w7 = w6.alloc (.cells #[.string (bs nm), .int .i64 t.hi, .slice (some ⟨b5, off5 + t.ts.length, none⟩) (t.fs.length - t.ts.length) (c1 - t.ts.length), .slice none 0 0] 60) := ⟨_, rfl⟩
             obtain ⟨p3, hp3⟩ : ∃ p3, p3 = w6.heap.size := ⟨_, rfl⟩
             rw [← hw7, ← hp3]
             have HV7 : Hid (TBy w7 p3 (⟨nm, t.hi, [], []⟩, .slice (some ⟨b5, off5 + t.ts.length, none⟩) (t.fs.length - t.ts.length) (c1 - t.ts.length), .slice none 0 0)) := by rw [hw7, hp3]; exact hid (TBy.new w6 (⟨nm, t.hi, [], []⟩, .slice (some ⟨b5, off5 + t.ts.length, none⟩) (t.fs.length - t.ts.length) (c1 - t.ts.length), .slice none 0 0))
             have HB7 : Hid (Below w0d.heap.size w0d w7) := by rw [hw7]; exact hid (Ba HB6.out _)
             clear hw7 hp3)
          | (obtain ⟨w7, hw7⟩ : ∃ w7, w7 = (((w6.setCell ⟨w0d.heap.size, 0, none⟩ (.string (bs nm))).setCell ⟨w0d.heap.size, 1, none⟩ (.int .i64 t.hi)).setCell ⟨w0d.heap.size, 2, none⟩ (.slice (some ⟨b5, off5 + t.ts.length, none⟩) (t.fs.length - t.ts.length) (c1 - t.ts.length))).setCell ⟨w0d.heap.size, 3, none⟩ (.slice none 0 0) := ⟨_, rfl⟩
             obtain ⟨p3, hp3⟩ : ∃ p3, p3 = w0d.heap.size := ⟨_, rfl⟩
             rw [← hw7, ← hp3]
             have HV7 : Hid (TBy w7 p3 (⟨nm, t.hi, [], []⟩, .slice (some ⟨b5, off5 + t.ts.length, none⟩) (t.fs.length - t.ts.length) (c1 - t.ts.length), .slice none 0 0)) := by rw [hw7, hp3]; exact hid (HVB.out.set4 (q := (⟨nm, t.hi, [], []⟩, .slice (some ⟨b5, off5 + t.ts.length, none⟩) (t.fs.length - t.ts.length) (c1 - t.ts.length), .slice none 0 0)))
             have HB7 : Hid (Below w0d.heap.size w0d w7) := by rw [hw7]; exact hid (B4c HB6.out (Nat.le_refl _) _ _ _ _)
             clear hw7 hp3)
          have hfs7 : FsL w7 w7.heap.size (.slice (some ⟨b5, off5 + t.ts.length, none⟩) (t.fs.length - t.ts.length) (c1 - t.ts.length)) (soleT t).fs := (HFS2.out.on (Bt (Bt (B0 _) hx0d) HB7.out)).drop (by omega)
          have HD7 := hid (HH2.out.on (Bt (Bt (B0 _) hx0d) HB7.out))
          have HB8 : Hid (Below w.heap.size w w7) := hid (Bt HBR.out (Bt (Bt (B0 _) hx0d) HB7.out))
          have HFS7 := hid hfs7
          have HNMS : Hid ((soleT t).nm = nm ∧ (soleT t).lo = t.hi) := hid ⟨HTN.out, rfl⟩
          obtain ⟨z0, z1, z2, z3⟩ := HV7.out.cells
          dsimp only at z0 z1 z2 z3
          clear hfs7
          go_wp2_with fail
          refine (r9with_any HD7.out (by omega) hkn (t := ⟨nm, t.hi, (soleT t).fs, []⟩) HFS7.out (tsl_nil _ _)).mono ?_
          rintro e w8 ⟨A8, n8, c8, rfl, hd8, hb8⟩
          have HD8 := hid hd8
          have HBZ := hid (Bt HB8.out hb8)
          have HSO2 : Hid ((⟨nm, t.hi, (soleT t).fs, []⟩ : Ty) = soleT t) := hid (by rw [← HTN.out]; rfl)
          clear hd8 hb8
          go_wp2_with fail
          go_ret3
          rw [HR.out]
          rw [HSO2.out] at HD8
          exact ⟨_, _, _, rfl, HD8.out, HBZ.out⟩
        · skip
          go_simp
          skip
          refine hK.out _ _ (by first | exact Ba HB6.out _ | exact B1 _ _) (fun hHeld => ?_)
          clear hK K
          try simp only [Act.put, List.setIfInBounds_toArray, List.set_cons_zero, List.set_cons_succ]
          refine wpAnyH_ready (rs := [2]) (by kernel_rfl) (by simp) ?_
          refine AllReadyH.cons (atS (atS at0)) (fun K hK => ?_) AllReadyH.nil
          go_simp
          refine (r9newest_any t.nm HLR.out HFL.out).mono ?_
          rintro e w6 ⟨rfl, hb6⟩
          rw [HNM.out]
          have HB6 : Hid (Below w0d.heap.size w0d w6) := hid (by first | exact hb6 | exact Bt (B1 _ _) hb6)
          first | (have HVB : Hid (TBy w6 w0d.heap.size (⟨[], 0, [], []⟩, .slice none 0 0, .slice none 0 0)) := hid ((TBy.new w0d (⟨[], 0, [], []⟩, .slice none 0 0, .slice none 0 0)).on hb6); have sf0 := row_frozen HVB.out 0; have sf1 := row_frozen HVB.out 1; have sf2 := row_frozen HVB.out 2; have sf3 := row_frozen HVB.out 3; have sv0 := HVB.out.cells.1; have sv1 := HVB.out.cells.2.1; have sv2 := HVB.out.cells.2.2.1; have sv3 := HVB.out.cells.2.2.2) | skip
          clear hb6
          go_wp2_with fail
          refine hK.out _ _ HB6.out (fun hHeld => ?_)
          clear hK K
          try simp only [Act.put, List.setIfInBounds_toArray, List.set_cons_zero, List.set_cons_succ]
          refine reg_take 7 (v := ?vz9_7) (atS5 (atS (atS at0))) (by kernel_rfl) (by kernel_rfl) (by kernel_rfl) (by rfl) ?hyz9_7 hHeld ?restz9_7
          case hyz9_7 => (intro w' hSw; go_simp; try with_reducible rfl)
          try simp only [Act.put, List.setIfInBounds_toArray, List.set_cons_zero, List.set_cons_succ]
          refine wpAnyH_ready (rs := [9]) (by kernel_rfl) (by simp) ?_
          refine AllReadyH.cons (atS5 (atS (atS (atS (atS at0))))) (fun K hK => ?_) AllReadyH.nil
          go_simp
          skip
          refine hK.out _ _ (by first | exact Ba HB6.out _ | exact B4c HB6.out (Nat.le_refl _) (.string (bs nm)) (.int .i64 t.hi) (.slice (some ⟨b5, off5 + t.ts.length, none⟩) (t.fs.length - t.ts.length) (c1 - t.ts.length)) (.slice none 0 0)) (fun hHeld => ?_)
          clear hK K
          try simp only [Act.put]
          refine wpAnyH_done (by kernel_rfl) ?_ _
          refine NoPanic.normal ?_
          clear xl xb0 xb1 xb2 xb3
          first
          | (obtain ⟨w7, hw7⟩ : ∃ w7, w7 = w6.alloc (.cells #[.string (bs nm), .int .i64 t.hi, .slice (some ⟨b5, off5 + t.ts.length, none⟩) (t.fs.length - t.ts.length) (c1 - t.ts.length), .slice none 0 0] 60) := ⟨_, rfl⟩
             obtain ⟨p3, hp3⟩ : ∃ p3, p3 = w6.heap.size := ⟨_, rfl⟩
             rw [← hw7, ← hp3]
             have HV7 : Hid (TBy w7 p3 (⟨nm, t.hi, [], []⟩, .slice (some ⟨b5, off5 + t.ts.length, none⟩) (t.fs.length - t.ts.length) (c1 - t.ts.length), .slice none 0 0)) := by rw [hw7, hp3]; exact hid (TBy.new w6 (⟨nm, t.hi, [], []⟩, .slice (some ⟨b5, off5 + t.ts.length, none⟩) (t.fs.length - t.ts.length) (c1 - t.ts.length), .slice none 0 0))
             have HB7 : Hid (Below w0d.heap.size w0d w7) := by rw [hw7]; exact hid (Ba HB6.out _)
             clear hw7 hp3)
          | (obtain ⟨w7, hw7⟩ : ∃ w7, w7 = (((w6.setCell ⟨w0d.heap.size, 0, none⟩ (.string (bs nm))).setCell ⟨w0d.heap.size, 1, none⟩ (.int .i64 t.hi)).setCell ⟨w0d.heap.size, 2, none⟩ (.slice (some ⟨b5, off5 + t.ts.length, none⟩) (t.fs.length - t.ts.length) (c1 - t.ts.length))).setCell ⟨w0d.heap.size, 3, none⟩ (.slice none 0 0) := ⟨_, rfl⟩
             obtain ⟨p3, hp3⟩ : ∃ p3, p3 = w0d.heap.size := ⟨_, rfl⟩
             rw [← hw7, ← hp3]
             have HV7 : Hid (TBy w7 p3 (⟨nm, t.hi, [], []⟩, .slice (some ⟨b5, off5 + t.ts.length, none⟩) (t.fs.length - t.ts.length) (c1 - t.ts.length), .slice none 0 0)) := by rw [hw7, hp3]; exact hid (HVB.out.set4 (q := (⟨nm, t.hi, [], []⟩, .slice (some ⟨b5, off5 + t.ts.length, none⟩) (t.fs.length - t.ts.length) (c1 - t.ts.length), .slice none 0 0)))
             have HB7 : Hid (Below w0d.heap.size w0d w7) := by rw [hw7]; exact hid (B4c HB6.out (Nat.le_refl _) _ _ _ _)
             clear hw7 hp3)
          have hfs7 : FsL w7 w7.heap.size (.slice (some ⟨b5, off5 + t.ts.length, none⟩) (t.fs.length - t.ts.length) (c1 - t.ts.length)) (soleT t).fs := (HFS2.out.on (Bt (Bt (B0 _) hx0d) HB7.out)).drop (by omega)
          have HD7 := hid (HH2.out.on (Bt (Bt (B0 _) hx0d) HB7.out))
          have HB8 : Hid (Below w.heap.size w w7) := hid (Bt HBR.out (Bt (Bt (B0 _) hx0d) HB7.out))
          have HFS7 := hid hfs7
          have HNMS : Hid ((soleT t).nm = nm ∧ (soleT t).lo = t.hi) := hid ⟨HTN.out, rfl⟩
          obtain ⟨z0, z1, z2, z3⟩ := HV7.out.cells
          dsimp only at z0 z1 z2 z3
          clear hfs7
          go_wp2_with fail
          refine (r9with_any HD7.out (by omega) hkn (t := ⟨nm, t.hi, (soleT t).fs, []⟩) HFS7.out (tsl_nil _ _)).mono ?_
          rintro e w8 ⟨A8, n8, c8, rfl, hd8, hb8⟩
          have HD8 := hid hd8
          have HBZ := hid (Bt HB8.out hb8)
          have HSO2 : Hid ((⟨nm, t.hi, (soleT t).fs, []⟩ : Ty) = soleT t) := hid (by rw [← HTN.out]; rfl)
          clear hd8 hb8
          go_wp2_with fail
          go_ret3
          rw [HR.out]
          rw [HSO2.out] at HD8
          exact ⟨_, _, _, rfl, HD8.out, HBZ.out⟩
end Go.Proofs.YtaegencmnmjgbaaGreat
