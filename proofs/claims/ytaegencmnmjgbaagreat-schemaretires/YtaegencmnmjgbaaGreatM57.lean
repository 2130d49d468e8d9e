/-
  Retire of a catalogue.
-/
import Derived.Test.YtaegencmnmjgbaaGreatM54
import Derived.Test.YtaegencmnmjgbaaGreatM5

namespace Go.Proofs.YtaegencmnmjgbaaGreat
open Go.RowKit Go.Maps
set_option linter.unusedVariables false
set_option linter.unusedSimpArgs false
def oldB (lo : Int) (n : Nat) (v : Int) : Bool := decide (lo ≤ v) && decide (v < lo + (n : Int) - 1)
set_option maxHeartbeats 2000000 in
theorem isold_any {w : World} {p : Nat} {lo : Int} {A : Option Addr} {n c : Nat} (h : HBx w p lo A n c) (h0 : 0 ≤ lo ∧ lo ≤ 1000) (hn : n ≤ 1000) (v : Int) :
    Calls Tryz.prog 61 #[.int .i64 v, .pointer (some ⟨p, 0, none⟩)] w fun e w' => e = .returned (.bool (oldB lo n v)) ∧ Below w.heap.size w w' := by
  have c0 := h.cells.1
  have c1 := h.cells.2
  have HD : Hid (oldB lo n v = (decide (lo ≤ v) && decide (v < lo + (n : Int) - 1))) := hid rfl
  clear h
  go_enter Tryz.func61, Tryz.ntmps61
  by_cases g1 : lo ≤ v
  · have t1 : decide (lo ≤ v) = true := decide_eq_true g1
    rw [t1] at HD
    clear g1
    go_wp2_with fail
    refine (newest_any h0 hn).mono ?_
    rintro e w1 ⟨rfl, hb1⟩
    have HB1 := hid hb1
    clear c0 c1 hb1
    go_wp2_with fail
    go_ret
    exact ⟨by rw [HD.out]; simp, HB1.out⟩
  · have t1 : decide (lo ≤ v) = false := decide_eq_false g1
    rw [t1] at HD
    clear g1
    go_wp2_with fail
    go_ret
    exact ⟨by rw [HD.out]; rfl, B0 _⟩
set_option maxHeartbeats 2000000 in
theorem indexF_any {w : World} {A : Option Addr} {n c : Nat} {l : List Int} (h : RdI w w.heap.size A n c l) {p : Addr} {P : Int → Bool}
    (hF : ∀ w' v, Below w.heap.size w w' → Calls Tryz.prog 61 #[.int .i64 v, .pointer (some p)] w' fun e w2 => e = .returned (.bool (P v)) ∧ Below w'.heap.size w' w2) :
    Calls Tryz.prog 100 #[.slice A n c, .func (.func 61) #[] #[.pointer (some p)]] w fun e w' => ∃ i : Int, e = .returned (.int .i64 i) ∧ decide (0 ≤ i) = l.any P ∧ Below w.heap.size w w' := by
  have HL := hid h.1
  have hnm : (n : Int) ≤ 9223372036854775807 := by have := Nat.le_trans h.2.1 h.2.2.1; unfold maxLen at this; omega
  have H := hid h; have HF := hid hF; clear h hF
  go_enter Tryz.func100, Tryz.ntmps100
  go_wp2_with fail
  go_loopw [8] (fun i wr => ∃ j : Nat, j ≤ n ∧ i = .int .i64 j ∧ Hid (∀ m, m < j → ∀ x, l[m]? = some x → P x = false) ∧ Hid (Below w.heap.size w wr)) (fun i _ => n - (intOf i).toNat)
  case atStart => exact ⟨0, by omega, rfl, hid (fun m hm => absurd hm (by omega)), B0 w⟩
  case round =>
    obtain ⟨j, hj, rfl, HN, HB⟩ := hrel
    by_cases hlt : j < n
    · have hjl : j < l.length := by have := HL.out; omega
      obtain ⟨x, hx⟩ : ∃ x, l[j]? = some x := ⟨_, List.getElem?_eq_getElem hjl⟩
      obtain ⟨b, off, rfl, hbl, hc⟩ := H.out.2.2.2.2 (by omega)
      have c0 : wr.cell? ⟨b, off + j, none⟩ = some (.int .i64 x) := by
        have := (HB.out.cell (p := ⟨b, off + j, none⟩) hbl).trans (hc j hjl)
        rw [this]; rw [List.getElem?_eq_getElem hjl] at hx; cases hx; rfl
      have HX := hid hx
      have hji : (j : Int) < n := by omega
      have hj0 : (0 : Int) ≤ j := by omega
      clear hc hjl hx
      go_wp2_with fail
      refine (HF.out wr x HB.out).mono ?_
      rintro e w1 ⟨rfl, hb1⟩
      have HB1 : Hid (Below w.heap.size w w1) := hid (HB.out.trans (hb1.mono HB.out.size))
      cases hp : P x with
      | true =>
        have HE : Hid (l.any P = true) := hid (List.any_eq_true.2 ⟨x, List.mem_of_getElem? HX.out, hp⟩)
        clear hp
        go_wp2_with fail
        go_ret
        exact ⟨_, rfl, by rw [HE.out]; simp, HB1.out⟩
      | false =>
        have HP := hid hp
        clear hp
        go_wp2_with fail
        exact ⟨⟨j + 1, by omega, by go_num, hid (fun m hm x' hx' => by
          by_cases e : m = j
          · subst e; rw [HX.out] at hx'; cases hx'; exact HP.out
          · exact HN.out m (by omega) x' hx'), HB1⟩, by simp [intOf]; omega⟩
    · obtain rfl : j = n := by omega
      have HE : Hid (l.any P = false) := hid (by
        rw [List.any_eq_false]
        intro x hx
        obtain ⟨m, hm⟩ := List.getElem?_of_mem hx
        have := HN.out m (by have := (List.getElem?_eq_some_iff.1 hm).1; have := HL.out; omega) x hm
        rw [this]; simp)
      go_wp2_with fail
      go_ret
      exact ⟨_, rfl, by rw [HE.out]; rfl, HB.out⟩
set_option maxHeartbeats 2000000 in
theorem containsF_any {w : World} {A : Option Addr} {n c : Nat} {l : List Int} (h : RdI w w.heap.size A n c l) {p : Addr} {P : Int → Bool}
    (hF : ∀ w' v, Below w.heap.size w w' → Calls Tryz.prog 61 #[.int .i64 v, .pointer (some p)] w' fun e w2 => e = .returned (.bool (P v)) ∧ Below w'.heap.size w' w2) :
    Calls Tryz.prog 62 #[.slice A n c, .func (.func 61) #[] #[.pointer (some p)]] w fun e w' => e = .returned (.bool (l.any P)) ∧ Below w.heap.size w w' := by
  have H := hid h; have HF := hid hF; clear h hF
  go_enter Tryz.func62, Tryz.ntmps62
  go_wp2_with fail
  refine (indexF_any H.out HF.out).mono ?_
  rintro e w1 ⟨i, rfl, hi, hb1⟩
  have HI := hid hi
  clear hi
  go_wp2_with fail
  go_ret
  exact ⟨by rw [← HI.out]; rfl, hb1⟩
theorem retS_none {l : List Ty} {nm : List UInt8} {live : List Int} (h : atT l nm = none) : retS l nm live = (l, 0, 90) := by unfold retS; rw [findT_none.2 h]
theorem retS_some {l : List Ty} {nm : List UInt8} {live : List Int} {t : Ty} (h : atT l nm = some t) : ∃ k, l[k]? = some t ∧ t.nm = nm ∧
    retS l nm live = if live.any (fun v => decide (t.lo ≤ v) && decide (v < t.hi)) then (l, 0, 93) else (l.set k (soleT t), (t.ts.length : Int), 0) := by
  cases hf : findT l nm with
  | none => rw [findT_none.1 hf] at h; cases h
  | some k =>
    obtain ⟨u, h1, h2, h3⟩ := findT_at hf
    rw [h] at h3; cases h3
    refine ⟨k, h1, h2, ?_⟩
    unfold retS
    rw [hf]; dsimp only; rw [h1]
set_option maxRecDepth 20000 in
set_option maxHeartbeats 16000000 in
theorem retire_any {w : World} {c mb n B : Nat} {r : List UInt8 → Pl} {l : List Ty} (h : Cat w c mb n B r l) (hn : n ≤ 1000000) (nm : List UInt8) (hk : SK nm) {A : Option Addr} {m cp : Nat} {live : List Int} (hli : RdI w w.heap.size A m cp live) :
    Calls Tryz.prog 26 #[.pointer (some ⟨c, 0, none⟩), .string (bs nm), .slice A m cp] w fun e w' => e = .returned (.tuple #[.int .i64 (retS l nm live).2.1, .int .i64 (retS l nm live).2.2]) ∧ CatQ w c mb n B r l (retS l nm live).1 w' := by
  have H := hid h; have HLI := hid hli; have HK := hid hk; have HNN := hid hn
  clear h hli hk hn
  go_enter Tryz.func26, Tryz.ntmps26
  go_wp2_with fail
  refine (has_any H.out nm HK.out).mono ?_
  rintro e w3 ⟨rfl, hb3⟩
  have HB3 := hid hb3
  have HC3 := hid (H.out.on hb3)
  clear hb3
  cases ha : atT l nm with
  | none =>
    have HE := hid (retS_none (live := live) ha)
    clear ha
    go_wp2_with fail
    go_ret2
    exact ⟨by rw [HE.out]; rfl, by rw [HE.out]; exact CatQ.same H.out HB3.out⟩
  | some t =>
    obtain ⟨k, hk, htn, hE⟩ := retS_some (live := live) ha
    have HKK := hid hk; have HA := hid ha
    have HT := hid (HC3.out.ok.2.2 t (List.mem_of_getElem? hk))
    have HV := hid (HC3.out.ver t (List.mem_of_getElem? hk)).1
    rw [htn] at HV
    have hlk := HC3.out.mp.look Tryz.underlying84 (Tryz.zeroValue83 w3) HK.out
    have ecat : (catF l r nm).getD (.agg #[.int .i64 0, .slice none 0 0]) = hV t.lo (some ⟨(r nm).g, 0, none⟩) (t.ts.length + 1) (r nm).cap := by unfold catF; rw [ha]; rfl
    change (Instr.lookup 84 (.map (some mb)) (.string (bs nm)) false).run Tryz.prog w3 = .ok ((catF l r nm).getD (.agg #[.int .i64 0, .slice none 0 0])) w3 at hlk
    rw [ecat] at hlk
    obtain ⟨lo, hlo⟩ : ∃ lo, lo = t.lo := ⟨_, rfl⟩
    obtain ⟨g, hg⟩ : ∃ g, g = (r nm).g := ⟨_, rfl⟩
    obtain ⟨cap, hcap⟩ : ∃ cap, cap = (r nm).cap := ⟨_, rfl⟩
    obtain ⟨vn, hvn⟩ : ∃ vn, vn = t.ts.length + 1 := ⟨_, rfl⟩
    rw [← hlo, ← hg, ← hcap, ← hvn] at hlk
    have HLO := hid hlo; have HG := hid hg; have HCAP := hid hcap; have HVN := hid hvn; have HTN := hid htn; have HE := hid hE
    have h1 : 0 ≤ lo ∧ lo ≤ 1000 := by have a := HT.out.2.1; have b := HT.out.2.2.1; have c := HT.out.2.2.2.1; unfold Ty.hi at b; rw [hlo]; omega
    have h2 : vn ≤ 64 := by have a := HT.out.2.1; have b := HT.out.2.2.1; have c := HT.out.2.2.2.1; unfold Ty.hi at b; omega
    have HHI : Hid (lo + (vn : Int) - 1 = t.hi) := hid (by rw [hlo, hvn]; have c := HT.out.2.2.2.1; unfold Ty.hi; omega)
    have HHIST : Hid (Hist w3 lo (some ⟨g, 0, none⟩) vn cap (some t)) := hid ⟨hlo, by rw [hg, hcap, hvn]; exact HV.out.hist HT.out⟩
    have c0 : w3.cell? ⟨c, 0, none⟩ = some (.map (some mb)) := row_cell HC3.out.box 0
    obtain ⟨w4, hw4⟩ : ∃ w4, w4 = w3.alloc (.cells #[.int .i64 lo, .slice (some ⟨g, 0, none⟩) vn cap] 83) := ⟨_, rfl⟩
    obtain ⟨p, hp⟩ : ∃ p, p = w3.heap.size := ⟨_, rfl⟩
    have HW4 := hid hw4; have HP := hid hp
    have HX4 : Hid (HBx w4 p lo (some ⟨g, 0, none⟩) vn cap) := by rw [hw4, hp]; exact hid (HBx.new _ _ _ _ _)
    have HB4 : Hid (Below w3.heap.size w3 w4) := by rw [hw4]; exact hid (B1 _ _)
    unfold hV at hlk
    clear ha hk htn hE ecat hlo hg hcap hvn hw4 hp
    go_upto_region 4 with fail
    rw [← HW4.out, ← HP.out]
    clear hlk c0
    go_wp2_with fail
    refine (containsF_any (HLI.out.on (Bt HB3.out HB4.out)) (P := oldB lo vn) (fun w' v hb => isold_any (HX4.out.on hb) h1 (by omega) v)).mono ?_
    rintro e w5 ⟨rfl, hb5⟩
    have HB5 := hid (Bt HB4.out hb5)
    have HX5 := hid (HX4.out.on hb5)
    have HOB : Hid (live.any (oldB lo vn) = live.any (fun v => decide (t.lo ≤ v) && decide (v < t.hi))) := hid (by unfold oldB; rw [HHI.out, HLO.out])
    clear hb5
    cases hany : live.any (oldB lo vn) with
    | true =>
      have HR : Hid (retS l nm live = (l, 0, 93)) := hid (by rw [HE.out, ← HOB.out, hany]; rfl)
      clear hany
      go_wp2_with fail
      go_ret2
      exact ⟨by rw [HR.out]; rfl, by rw [HR.out]; exact CatQ.same H.out (Bt HB3.out HB5.out)⟩
    | false =>
      have HR : Hid (retS l nm live = (l.set k (soleT t), (t.ts.length : Int), 0)) := hid (by rw [HE.out, ← HOB.out, hany]; rfl)
      have HC5 := hid (HC3.out.on HB5.out)
      have HNE : Hid (c ≠ mb ∧ p ≠ mb) := hid ⟨HC3.out.ne, by have := HC3.out.mp.lt; have := HP.out; omega⟩
      clear hany
      go_upto_region 7 with fail
      refine reg_beginO (some mb) (by kernel_rfl) (fun w0a hh0a hx0a hHeld => ?_)
      have HB0a := hid (bH hx0a hh0a.out)
      have HC0a := hid (HC5.out.on HB0a.out)
      have HX0a := hid (HX5.out.on HB0a.out)
      have hcx : ∀ w', ExO (some mb) w0a w' → w'.cell? ⟨c, 0, none⟩ = some (.map (some mb)) := fun w' hx => row_cell ((hx.block c (row_lt HC0a.out.box) (by have := HNE.out.1; simp; exact this)).trans HC0a.out.box) 0
      have hpx : ∀ w', ExO (some mb) w0a w' → HBx w' p lo (some ⟨g, 0, none⟩) vn cap := fun w' hx => (hx.block p (row_lt HX0a.out) (by have := HNE.out.2; simp; exact this)).trans HX0a.out
      have hp1 := fun w' (hx : ExO (some mb) w0a w') => run_loadHB (hpx w' hx)
      have hp2 := fun w' (hx : ExO (some mb) w0a w') => (hpx w' hx).cells.1
      have hp3 := fun w' (hx : ExO (some mb) w0a w') => (hpx w' hx).cells.2
      have HPX := hid hpx
      clear hpx
      refine reg_takeO 0 (v := ?vb0) at0 (by kernel_rfl) (by kernel_rfl) (by kernel_rfl) (by rfl) ?hyb0 hHeld ?restb0
      case hyb0 => (intro w' hSw; go_simp; try with_reducible rfl)
      try simp only [Act.put, List.setIfInBounds_toArray, List.set_cons_zero, List.set_cons_succ]
      refine reg_takeO 1 (v := ?vb1) (atS at0) (by kernel_rfl) (by kernel_rfl) (by kernel_rfl) (by rfl) ?hyb1 hHeld ?restb1
      case hyb1 => (intro w' hSw; go_simp; try with_reducible rfl)
      try simp only [Act.put, List.setIfInBounds_toArray, List.set_cons_zero, List.set_cons_succ]
      refine reg_takeO 2 (v := ?vb2) (atS (atS at0)) (by kernel_rfl) (by kernel_rfl) (by kernel_rfl) (by rfl) ?hyb2 hHeld ?restb2
      case hyb2 => (intro w' hSw; go_simp; try with_reducible rfl)
      try simp only [Act.put, List.setIfInBounds_toArray, List.set_cons_zero, List.set_cons_succ]
      refine reg_takeO 3 (v := ?vb3) (atS (atS (atS at0))) (by kernel_rfl) (by kernel_rfl) (by kernel_rfl) (by rfl) ?hyb3 hHeld ?restb3
      case hyb3 => (intro w' hSw; go_simp; try with_reducible rfl)
      try simp only [Act.put, List.setIfInBounds_toArray, List.set_cons_zero, List.set_cons_succ]
      refine reg_takeO 4 (v := ?vb4) (atS (atS (atS (atS at0)))) (by kernel_rfl) (by kernel_rfl) (by kernel_rfl) (by rfl) ?hyb4 hHeld ?restb4
      case hyb4 => (intro w' hSw; go_simp; try with_reducible rfl)
      try simp only [Act.put, List.setIfInBounds_toArray, List.set_cons_zero, List.set_cons_succ]
      refine reg_takeO 5 (v := ?vb5) (atS5 at0) (by kernel_rfl) (by kernel_rfl) (by kernel_rfl) (by rfl) ?hyb5 hHeld ?restb5
      case hyb5 => (intro w' hSw; go_simp; try with_reducible rfl)
      try simp only [Act.put, List.setIfInBounds_toArray, List.set_cons_zero, List.set_cons_succ]
      refine reg_takeO 7 (v := ?vb7) (atS5 (atS (atS at0))) (by kernel_rfl) (by kernel_rfl) (by kernel_rfl) (by rfl) ?hyb7 hHeld ?restb7
      case hyb7 => (intro w' hSw; go_simp; try with_reducible rfl)
      try simp only [Act.put, List.setIfInBounds_toArray, List.set_cons_zero, List.set_cons_succ]
      refine wpAnyH_ready (rs := [6]) (by kernel_rfl) (by simp) ?_
      refine AllReadyH.cons (atS5 (atS at0)) (fun K hK => ?_) AllReadyH.nil
      go_simp
      refine (newest_any h1 (by omega)).mono ?_
      rintro e w6 ⟨rfl, hb6⟩
      rw [HHI.out]
      go_wp2_with fail
      refine hK.out _ _ (gbB hb6 _) (fun hHeld => ?_)
      clear hK K
      try simp only [Act.put, List.setIfInBounds_toArray, List.set_cons_zero, List.set_cons_succ]
      refine reg_onO (gbB hb6 _) (fun hHeld => ?_)
      have HB6 := hid hb6
      have hcx : ∀ w', ExO (some mb) w6 w' → w'.cell? ⟨c, 0, none⟩ = some (.map (some mb)) := fun w' hx => hcx w' ((gbB hb6 (some mb)).trans hx)
      have hp1 := fun w' (hx : ExO (some mb) w6 w') => run_loadHB (HPX.out w' ((gbB HB6.out (some mb)).trans hx))
      have hp2 := fun w' (hx : ExO (some mb) w6 w') => (HPX.out w' ((gbB HB6.out (some mb)).trans hx)).cells.1
      have hp3 := fun w' (hx : ExO (some mb) w6 w') => (HPX.out w' ((gbB HB6.out (some mb)).trans hx)).cells.2
      refine wpAnyH_ready (rs := [8]) (by kernel_rfl) (by simp) ?_
      refine AllReadyH.cons (atS5 (atS (atS (atS at0)))) (fun K hK => ?_) AllReadyH.nil
      go_simp
      refine (hfields_any (HHIST.out.on (Bt HB5.out (Bt HB0a.out HB6.out))) HT.out).mono ?_
      rintro e w7 ⟨A7, n7, c7, rfl, hr7, hb7⟩
      go_wp2_with fail
      refine hK.out _ _ (gbB hb7 _) (fun hHeld => ?_)
      clear hK K
      try simp only [Act.put, List.setIfInBounds_toArray, List.set_cons_zero, List.set_cons_succ]
      refine reg_onO (gbB hb7 _) (fun hHeld => ?_)
      refine wpAnyH_ready (rs := [9]) (by kernel_rfl) (by simp) ?_
      refine AllReadyH.cons (atS5 (atS (atS (atS (atS at0))))) (fun K hK => ?_) AllReadyH.nil
      go_simp
      refine (begin_any t.hi A7 n7 c7).mono ?_
      rintro e w8 ⟨g8, rfl, hg8, hrow8, hb8⟩
      go_wp2_with fail
      refine hK.out _ _ (gbB hb8 _) (fun hHeld => ?_)
      clear hK K
      try simp only [Act.put, List.setIfInBounds_toArray, List.set_cons_zero, List.set_cons_succ]
      refine reg_onO (gbB hb8 _) (fun hHeld => ?_)
      have HC8 := hid (HC0a.out.on (Bt HB6.out (Bt hb7 hb8)))
      obtain ⟨w9, hrun9, hm9, ht9⟩ := HC8.out.mp.store Tryz.underlying84 (by have := HNN.out; unfold maxLen; omega) HK.out (hV t.hi (some ⟨g8, 0, none⟩) 1 1)
      have hg9 : ExO (some mb) w8 w9 := ht9.grown
      refine wpAnyH_ready (rs := [10]) (by kernel_rfl) (by simp) ?_
      refine AllReadyH.cons (atS5 (atS5 at0)) (fun K hK => ?_) AllReadyH.nil
      refine step_storeMS (by rfl) (.tmp 27) (.tmp 28) (.tmp 33) (by rfl) (by rfl) (by rfl) (by rfl) hrun9 ?_
      refine hK.out _ _ hg9 (fun hHeld => ?_)
      clear hK K
      try simp only [Act.put]
      refine wpAnyH_done (by kernel_rfl) ?_ _
      refine NoPanic.normal ?_
      have HX9 := hid (HPX.out w9 (((gbB HB6.out (some mb)).trans (gbB (Bt hb7 hb8) (some mb))).trans hg9))
      have HR7 := hid (hr7.on hb8)
      have HB8 : Hid (Below w3.heap.size w3 w8) := hid (Bt HB5.out (Bt HB0a.out (Bt HB6.out (Bt hb7 hb8))))
      have HQ9 : Hid (CatQ w3 c mb n B r l (l.set k (soleT t)) w9) := hid (by
        obtain ⟨_, hfs, _⟩ := okTy_sole HT.out
        have hok := retS_ok HC3.out.ok nm live
        rw [HR.out] at hok
        have hf9 : FrG (fun b => b = mb) w8 w9 := FrG.grown hg9 (.inr HC8.out.mp.isMap)
        have hs : ∀ (W : World), Cat W c mb n B r l → ∀ b, (b = mb ∨ ∃ t0 ∈ l, t0.nm = nm ∧ b = (r nm).g) → TuB W b := fun W hW b hb => by
          rcases hb with rfl | ⟨t0, h0, e0, e⟩
          · exact .inr hW.mp.isMap
          · rw [e, ← e0]; exact .inl ⟨_, _, (hW.ver t0 h0).1.row⟩
        have hsole : soleT t = ⟨nm, t.hi, [t.last], []⟩ := by rw [← hfs]; unfold soleT; rw [HTN.out]
        refine Cat.store (nm := nm) (t' := soleT t) (p := ⟨g8, 1, [(.slice none 0 0, .slice A7 n7 c7, .slice none 0 0)]⟩) HC3.out ?_ ?_ hok (fun j => ?_) (fun u hu => ?_) HTN.out ?_ (.inl ?_)
        · exact (FrG.below HB8.out (hs w3 HC3.out)).grow hg9 (.inl (.inl rfl))
        · rw [hsole]; exact hm9
        · have := set_at (u := soleT t) HC3.out.ok.1 HKK.out rfl j
          rw [HTN.out] at this; exact this
        · rw [← HTN.out]; exact set_mem_ne HC3.out.ok.1 HKK.out hu
        · rw [hsole]
          refine Ver.fr (Ver.one nm t.hi hrow8 HR7.out) hf9 (fun e => ?_)
          have e' : g8 = mb := e
          have a1 := HC3.out.mp.lt
          have a2 := (Bt HB5.out (Bt HB0a.out (Bt HB6.out hb7))).size
          omega
        · show w3.heap.size ≤ g8
          exact Nat.le_trans (Bt HB5.out (Bt HB0a.out (Bt HB6.out hb7))).size hg8)
      have HCNT : Hid (t.hi - lo = (t.ts.length : Int)) := hid (by have := HHI.out; have := HVN.out; omega)
      have HI64 : Hid (0 ≤ t.hi ∧ t.hi ≤ 64) := hid (by have := HHI.out; have := HT.out.2.2.1; have := HVN.out; omega)
      clear hr7 hb7 hrow8 hg8 hb8 hrun9 hm9 ht9 hg9 hcx hp1 hp2 hp3
      go_upto_region 8 with fail
      refine reg_begin (by kernel_rfl) (fun w0b hx0b hHeld => ?_)
      have x9 : ∀ w', Ext w0b w' → HBx w' p lo (some ⟨g, 0, none⟩) vn cap := fun w' h => (HX9.out.on (Bt (B0 _) hx0b)).on h
      have x0 := fun w' h => (x9 w' h).cells.1
      have x1 := fun w' h => (x9 w' h).cells.2
      have y1 := fun w' (h : Ext w0b w') => run_loadHB (x9 w' h)
      clear x9
      refine reg_take 0 (v := ?vc0) at0 (by kernel_rfl) (by kernel_rfl) (by kernel_rfl) (by rfl) ?hyc0 hHeld ?restc0
      case hyc0 => (intro w' hSw; go_simp; try with_reducible rfl)
      try simp only [Act.put, List.setIfInBounds_toArray, List.set_cons_zero, List.set_cons_succ]
      refine reg_take 2 (v := ?vc2) (atS (atS at0)) (by kernel_rfl) (by kernel_rfl) (by kernel_rfl) (by rfl) ?hyc2 hHeld ?restc2
      case hyc2 => (intro w' hSw; go_simp; try with_reducible rfl)
      try simp only [Act.put, List.setIfInBounds_toArray, List.set_cons_zero, List.set_cons_succ]
      refine reg_take 3 (v := ?vc3) (atS (atS (atS at0))) (by kernel_rfl) (by kernel_rfl) (by kernel_rfl) (by rfl) ?hyc3 hHeld ?restc3
      case hyc3 => (intro w' hSw; go_simp; try with_reducible rfl)
      try simp only [Act.put, List.setIfInBounds_toArray, List.set_cons_zero, List.set_cons_succ]
      refine wpAnyH_ready (rs := [1]) (by kernel_rfl) (by simp) ?_
      refine AllReadyH.cons (atS at0) (fun K hK => ?_) AllReadyH.nil
      go_simp
      refine (newest_any h1 (by omega)).mono ?_
      rintro e w10 ⟨rfl, hb10⟩
      rw [HHI.out]
      go_wp2_with fail
      refine hK.out _ _ hb10 (fun hHeld => ?_)
      clear hK K
      try simp only [Act.put, List.setIfInBounds_toArray, List.set_cons_zero, List.set_cons_succ]
      refine reg_on hb10 (fun hHeld => ?_)
      refine reg_take 4 (v := ?vc4) (atS (atS (atS (atS at0)))) (by kernel_rfl) (by kernel_rfl) (by kernel_rfl) (by rfl) ?hyc4 hHeld ?restc4
      case hyc4 => (intro w' hSw; go_simp; try with_reducible rfl)
      try simp only [Act.put, List.setIfInBounds_toArray, List.set_cons_zero, List.set_cons_succ]
      refine reg_take 5 (v := ?vc5) (atS5 at0) (by kernel_rfl) (by kernel_rfl) (by kernel_rfl) (by rfl) ?hyc5 hHeld ?restc5
      case hyc5 => (intro w' hSw; go_simp; try with_reducible rfl)
      try simp only [Act.put, List.setIfInBounds_toArray, List.set_cons_zero, List.set_cons_succ]
      refine reg_take 6 (v := ?vc6) (atS5 (atS at0)) (by kernel_rfl) (by kernel_rfl) (by kernel_rfl) (by rfl) ?hyc6 hHeld ?restc6
      case hyc6 => (intro w' hSw; go_simp; try with_reducible rfl)
      try simp only [Act.put, List.setIfInBounds_toArray, List.set_cons_zero, List.set_cons_succ]
      refine wpAnyH_done (by kernel_rfl) ?_ _
      refine NoPanic.normal ?_
      clear x0 x1 y1
      have HWR : Hid (IntKind.i64.wrap (t.hi - lo) = (t.ts.length : Int)) := hid (by rw [HCNT.out, IntKind.wrap_i64]; have := HVN.out; omega)
      rw [HWR.out]
      have HB10 : Hid (Below w9.heap.size w9 w10) := hid (Bt hx0b hb10)
      go_wp2_with fail
      go_ret2
      exact ⟨by rw [HR.out]; rfl, by rw [HR.out]; exact CatQ.pre H.out HB3.out (HQ9.out.on HB10.out)⟩
end Go.Proofs.YtaegencmnmjgbaaGreat
