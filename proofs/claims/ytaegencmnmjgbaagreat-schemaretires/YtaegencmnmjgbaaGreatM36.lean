/-
  The program's Right of layer 7.
  slices.Clone and slices.Equal of fields; the program's Same of layer 7.
  slices.Equal of fields; the program's Same of layer 7.
-/
import Derived.Test.YtaegencmnmjgbaaGreatM35
import Derived.Test.YtaegencmnmjgbaaGreatM27

namespace Go.Proofs.YtaegencmnmjgbaaGreat
open Go.RowKit
set_option linter.unusedVariables false
set_option linter.unusedSimpArgs false
set_option maxRecDepth 20000 in
set_option maxHeartbeats 8000000 in
theorem p7right_any {w : World} {v : Value} {T : Tb} (h : RdT w w.heap.size v T) (hs : shortT T) :
    Calls Tryz.prog 90 #[v] w fun e w' => e = .returned (.bool (rightT T)) ∧ Below w.heap.size w w' := by
  obtain ⟨A, n, c, A2, n2, c2, A3, n3, c3, rfl, h1, h2, h3⟩ := h
  obtain ⟨w0, hw0⟩ : ∃ w0, w0 = w.alloc (.cells #[.slice A n c, .slice A2 n2 c2, .slice A3 n3 c3] 92) := ⟨_, rfl⟩
  have HW0 := hid hw0
  have HB0 : Hid (Below w.heap.size w w0) := by rw [hw0]; exact B1 _ _
  obtain ⟨bx, hbx⟩ : ∃ bx, bx = w.heap.size := ⟨_, rfl⟩
  have HBX := hid hbx
  have HT0 : Hid (TBx w0 bx (.slice A n c) (.slice A2 n2 c2) (.slice A3 n3 c3) 92) := by rw [hw0, hbx]; exact tb_new w _ _ _ _
  have hnm2 : (n2 : Int) ≤ 9223372036854775807 := by have := Nat.le_trans h2.2.1 h2.2.2.1; unfold maxLen at this; omega
  have hnm3 : (n3 : Int) ≤ 9223372036854775807 := by have := Nat.le_trans h3.2.1 h3.2.2.1; unfold maxLen at this; omega
  have H1 := hid (h1.on HB0.out); have H2 := hid (h2.on HB0.out); have H3 := hid (h3.on HB0.out); have HS := hid hs.1; have HS2 := hid hs.2
  clear h1 h2 h3 hs hw0 hbx
  have L2 : Hid (T.nw.length = n2) := H2.out.1
  have L3 : Hid (T.mv.length = n3) := H3.out.1
  go_enter Tryz.func90, Tryz.ntmps90
  go_wp2_with fail
  rw [← HW0.out, ← HBX.out]
  refine (p6right_any H1.out HS.out).mono ?_
  rintro e w1 ⟨rfl, hb1⟩
  obtain ⟨r1, hr1⟩ : ∃ r1, r1 = rightL T.o := ⟨_, rfl⟩
  obtain ⟨r2, hr2⟩ : ∃ r2, r2 = rightL T.nw := ⟨_, rfl⟩
  rw [← hr1]
  have HR1 := hid hr1; have HR2 := hid hr2; have HB1 := hid hb1
  obtain ⟨c0, cc1, cc2⟩ := (HT0.out.on hb1).cells
  clear hr1 hr2 hb1
  cases r1 with
  | false =>
    have HE : Hid (rightT T = false) := by show _ = _; unfold rightT; rw [← HR1.out]; rfl
    go_wp2_with fail
    go_ret
    exact ⟨by rw [HE.out]; rfl, Bt HB0.out HB1.out⟩
  | true =>
    go_wp2_with fail
    refine (p6right_any (H2.out.on HB1.out) HS2.out).mono ?_
    rintro e w2 ⟨rfl, hb2⟩
    rw [← HR2.out]
    have HB2 := hid (Bt HB1.out hb2)
    clear c0 cc1 cc2
    obtain ⟨c0, cc1, cc2⟩ := (HT0.out.on HB2.out).cells
    clear hb2
    cases r2 with
    | false =>
      have HE : Hid (rightT T = false) := by show _ = _; unfold rightT; rw [← HR1.out, ← HR2.out]; rfl
      go_wp2_with fail
      go_ret
      exact ⟨by rw [HE.out]; rfl, Bt HB0.out HB2.out⟩
    | true =>
      by_cases hlen : n3 = n2
      · subst hlen
        go_wp2_with fail
        refine (askMoves_any w2 A n c).mono ?_
        rintro e w3 ⟨rfl, hw3⟩
        obtain ⟨p, hp⟩ : ∃ p, p = w2.heap.size := ⟨_, rfl⟩
        rw [← hp]
        have HP3 : Hid (w3.heap[p]? = some (.cells #[.slice A n c] 32 (0, 0))) := by rw [hw3, hp]; exact hid (heap_alloc_new _ _)
        have HB3 : Hid (Below w0.heap.size w0 w3) := by rw [hw3]; exact hid (Ba HB2.out _)
        clear hw3 hp c0 cc1 cc2
        obtain ⟨c0, cc1, cc2⟩ := (HT0.out.on HB3.out).cells
        go_wp2_with fail
        go_loopw [30] (fun i wr => ∃ j : Nat, j ≤ n3 ∧ i = .int .i64 j ∧ Hid (∀ (x : Nat) m f, x < j → T.mv[x]? = some m → T.nw[x]? = some f → mvB T.o m f = true) ∧ Hid (Below w3.heap.size w3 wr)) (fun i _ => n3 - (intOf i).toNat)
        case atStart => exact ⟨0, by omega, rfl, hid (fun x _ _ hm => absurd hm (by omega)), hid (B0 _)⟩
        case round =>
          obtain ⟨j, hj, rfl, HA, HB⟩ := hrel
          by_cases hlt : j < n3
          · obtain ⟨m, hm⟩ : ∃ m, T.mv[j]? = some m := ⟨_, List.getElem?_eq_getElem (by have := L3.out; omega)⟩
            obtain ⟨f, hf⟩ : ∃ f, T.nw[j]? = some f := ⟨_, List.getElem?_eq_getElem (by have := L2.out; omega)⟩
            obtain ⟨_, hf64, hk64, hnu, b, off, rfl, hc⟩ := H3.out.at hm
            obtain ⟨_, hfk, hfg, hfn, b2, off2, rfl, hc2⟩ := H2.out.at hf
            have HM := hid hm; have HF := hid hf; have HC := hid hc; have HC2 := hid hc2
            have hji : (j : Int) < n3 := by omega
            have hj0 : (0 : Int) ≤ j := by omega
            clear hm hf hc hc2
            have HNX : Hid (mvB T.o m f = true → ∀ (x : Nat) m f, x < j + 1 → T.mv[x]? = some m → T.nw[x]? = some f → mvB T.o m f = true) := hid (fun hh x m' f' hx hm' hf' => by
              by_cases e : x = j
              · subst e; rw [HM.out] at hm'; cases hm'; rw [HF.out] at hf'; cases hf'; exact hh
              · exact HA.out x m' f' (by omega) hm' hf')
            have HNO : Hid (mvB T.o m f = false → rightT T = false) := hid (fun hh => rightT_no HM.out HF.out hh)
            obtain ⟨mb, hmb⟩ : ∃ mb, mb = mvB T.o m f := ⟨_, rfl⟩
            have HMB := hid hmb
            rw [← hmb] at HNX HNO
            clear hmb
            go_wp2_with fail
            refine reg_begin (by kernel_rfl) (fun w0a hx0a hHeld => ?_)
            have s0 : ∀ w', Ext w0a w' → Below w0.heap.size w0 w' := fun w' h => (HB3.out.trans ((HB.out.trans (hx0a.mono HB.out.size)).mono HB3.out.size)).trans (h.mono (Nat.le_trans HB3.out.size (Nat.le_trans HB.out.size hx0a.size)))
            have t0 : ∀ w', Ext w0a w' → TBx w' bx (.slice A n c) (.slice (some ⟨b2, off2, none⟩) n3 c2) (.slice (some ⟨b, off, none⟩) n3 c3) 92 := fun w' h => HT0.out.on (s0 w' h)
            have t1 := fun w' h => (t0 w' h).cells.2.1
            have t2 := fun w' h => (t0 w' h).cells.2.2
            have m0 : ∀ w', Ext w0a w' → MvC w' b (off + j * 4) m := fun w' h => HC.out w' (s0 w' h)
            have m1 := fun w' h => (m0 w' h).1
            have m2 := fun w' h => (m0 w' h).2.1
            have m3 := fun w' h => (m0 w' h).2.2.1
            have m4 := fun w' h => (m0 w' h).2.2.2
            have y0 : ∀ w', Ext w0a w' → FdC w' b2 (off2 + j * 3) f := fun w' h => HC2.out w' (s0 w' h)
            have y1 := fun w' h => (y0 w' h).1
            have y2 := fun w' h => (y0 w' h).2.1
            have y3 := fun w' h => (y0 w' h).2.2
            have HPA : Hid (w0a.heap[p]? = some (.cells #[.slice A n c] 32 (0, 0))) := hid ((hx0a.block _ (Nat.lt_of_lt_of_le (row_lt HP3.out) HB.out.size)).trans ((HB.out.block _ (row_lt HP3.out)).trans HP3.out))
            have HS0 := hid s0
            clear t0 m0 y0 s0
            refine reg_take 0 (v := ?vb0) at0 (by kernel_rfl) (by kernel_rfl) (by kernel_rfl) (by rfl) ?hyb0 hHeld ?restb0
            case hyb0 => (intro w' hSw; go_simp; try with_reducible rfl)
            try simp only [Act.put, List.setIfInBounds_toArray, List.set_cons_zero, List.set_cons_succ]
            refine reg_take 1 (v := ?vb1) (atS at0) (by kernel_rfl) (by kernel_rfl) (by kernel_rfl) (by rfl) ?hyb1 hHeld ?restb1
            case hyb1 => (intro w' hSw; go_simp; try with_reducible rfl)
            try simp only [Act.put, List.setIfInBounds_toArray, List.set_cons_zero, List.set_cons_succ]
            refine reg_take 2 (v := ?vb2) (atS (atS at0)) (by kernel_rfl) (by kernel_rfl) (by kernel_rfl) (by rfl) ?hyb2 hHeld ?restb2
            case hyb2 => (intro w' hSw; go_simp; try with_reducible rfl)
            try simp only [Act.put, List.setIfInBounds_toArray, List.set_cons_zero, List.set_cons_succ]
            refine reg_take 3 (v := ?vb3) (atS (atS (atS at0))) (by kernel_rfl) (by kernel_rfl) (by kernel_rfl) (by rfl) ?hyb3 hHeld ?restb3
            case hyb3 => (intro w' hSw; go_simp; try with_reducible rfl)
            try simp only [Act.put, List.setIfInBounds_toArray, List.set_cons_zero, List.set_cons_succ]
            refine reg_take 4 (v := ?vb4) (atS (atS (atS (atS at0)))) (by kernel_rfl) (by kernel_rfl) (by kernel_rfl) (by rfl) ?hyb4 hHeld ?restb4
            case hyb4 => (intro w' hSw; go_simp; try with_reducible rfl)
            try simp only [Act.put, List.setIfInBounds_toArray, List.set_cons_zero, List.set_cons_succ]
            refine reg_take 5 (v := ?vb5) (atS5 at0) (by kernel_rfl) (by kernel_rfl) (by kernel_rfl) (by rfl) ?hyb5 hHeld ?restb5
            case hyb5 => (intro w' hSw; go_simp; try with_reducible rfl)
            try simp only [Act.put, List.setIfInBounds_toArray, List.set_cons_zero, List.set_cons_succ]
            refine reg_take 6 (v := ?vb6) (atS5 (atS at0)) (by kernel_rfl) (by kernel_rfl) (by kernel_rfl) (by rfl) ?hyb6 hHeld ?restb6
            case hyb6 => (intro w' hSw; go_simp; try with_reducible rfl)
            try simp only [Act.put, List.setIfInBounds_toArray, List.set_cons_zero, List.set_cons_succ]
            refine reg_take 7 (v := ?vb7) (atS5 (atS (atS at0))) (by kernel_rfl) (by kernel_rfl) (by kernel_rfl) (by rfl) ?hyb7 hHeld ?restb7
            case hyb7 => (intro w' hSw; go_simp; try with_reducible rfl)
            try simp only [Act.put, List.setIfInBounds_toArray, List.set_cons_zero, List.set_cons_succ]
            refine reg_take 8 (v := ?vb8) (atS5 (atS (atS (atS at0)))) (by kernel_rfl) (by kernel_rfl) (by kernel_rfl) (by rfl) ?hyb8 hHeld ?restb8
            case hyb8 => (intro w' hSw; go_simp; try with_reducible rfl)
            try simp only [Act.put, List.setIfInBounds_toArray, List.set_cons_zero, List.set_cons_succ]
            refine reg_take 9 (v := ?vb9) (atS5 (atS (atS (atS (atS at0))))) (by kernel_rfl) (by kernel_rfl) (by kernel_rfl) (by rfl) ?hyb9 hHeld ?restb9
            case hyb9 => (intro w' hSw; go_simp; try with_reducible rfl)
            try simp only [Act.put, List.setIfInBounds_toArray, List.set_cons_zero, List.set_cons_succ]
            refine reg_take 10 (v := ?vb10) (atS5 (atS5 at0)) (by kernel_rfl) (by kernel_rfl) (by kernel_rfl) (by rfl) ?hyb10 hHeld ?restb10
            case hyb10 => (intro w' hSw; go_simp; try with_reducible rfl)
            try simp only [Act.put, List.setIfInBounds_toArray, List.set_cons_zero, List.set_cons_succ]
            refine wpAnyH_ready (rs := [11]) (by kernel_rfl) (by simp) ?_
            refine AllReadyH.cons (atS5 (atS5 (atS at0))) (fun K hK => ?_) AllReadyH.nil
            go_simp
            refine (ask1_any (H1.out.on (HS0.out _ (Ext.refl _))) m f hnu HPA.out).mono ?_
            rintro e w4 ⟨rfl, hb4⟩
            rw [← HMB.out]
            go_wp2_with fail
            refine hK.out _ _ hb4 (fun hHeld => ?_)
            clear hK K
            try simp only [Act.put, List.setIfInBounds_toArray, List.set_cons_zero, List.set_cons_succ]
            refine reg_on hb4 (fun hHeld => ?_)
            refine reg_take 12 (v := ?vb12) (atS5 (atS5 (atS (atS at0)))) (by kernel_rfl) (by kernel_rfl) (by kernel_rfl) (by rfl) ?hyb12 hHeld ?restb12
            case hyb12 => (intro w' hSw; go_simp; try with_reducible rfl)
            try simp only [Act.put, List.setIfInBounds_toArray, List.set_cons_zero, List.set_cons_succ]
            refine wpAnyH_done (by kernel_rfl) ?_ _
            refine NoPanic.normal ?_
            clear t1 t2 m1 m2 m3 m4 y1 y2 y3
            have HB4 : Hid (Below w3.heap.size w3 w4) := hid (HB.out.trans (Below.mono (show Below wr.heap.size wr w4 from Ext.trans hx0a hb4) HB.out.size))
            cases mb
            · have HE : Hid (rightT T = false) := hid (HNO.out rfl)
              go_wp2_with fail
              go_ret
              exact ⟨by rw [HE.out]; rfl, Bt HB0.out (HB3.out.trans (HB4.out.mono HB3.out.size))⟩
            · go_wp2_with fail
              exact ⟨⟨j + 1, by omega, by go_num, hid (HNX.out rfl), HB4⟩, by simp [intOf]; omega⟩
          · obtain rfl : j = n3 := by omega
            have HE : Hid (rightT T = true) := hid (rightT_iff.2 ⟨HR1.out.symm, HR2.out.symm, by rw [L2.out, L3.out], fun x m f hm hf => HA.out x m f (by have := (List.getElem?_eq_some_iff.1 hm).1; have := L3.out; omega) hm hf⟩)
            go_wp2_with fail
            go_ret
            exact ⟨by rw [HE.out]; rfl, Bt HB0.out (HB3.out.trans (HB.out.mono HB3.out.size))⟩
      · have hn23 : ¬ (n3 : Int) = n2 := by omega
        have HE : Hid (rightT T = false) := by
          cases hr : rightT T with
          | false => exact hid rfl
          | true => have := (rightT_iff.1 hr).2.2.1; rw [L2.out, L3.out] at this; exact absurd this hlen
        go_wp2_with fail
        go_ret
        exact ⟨by rw [HE.out]; rfl, Bt HB0.out HB2.out⟩
end Go.Proofs.YtaegencmnmjgbaaGreat

namespace Go.Proofs.YtaegencmnmjgbaaGreat
open Go.RowKit
set_option linter.unusedVariables false
set_option linter.unusedSimpArgs false
theorem cellsFd_one (l : List Fd) : ∀ u ∈ cellsFd l, u.oneCell' = true := fun u hu => by
  unfold cellsFd at hu
  rw [List.mem_flatten] at hu
  obtain ⟨cs, hcs, hu⟩ := hu
  rw [List.mem_map] at hcs
  obtain ⟨f, _, rfl⟩ := hcs
  simp [Fd.cells] at hu
  rcases hu with rfl | rfl | rfl <;> rfl
theorem RdF.cellsAt {w : World} {B n cap b off : Nat} {l : List Fd} (h : RdF w B (some ⟨b, off, none⟩) n cap l) (j : Nat) (u : Value) (hj : (cellsFd l)[j]? = some u) : w.cell? ⟨b, off + j, none⟩ = some u := by
  have hlt : j < (cellsFd l).length := (List.getElem?_eq_some_iff.1 hj).1
  rw [cellsFd_length] at hlt
  have hi : j / 3 < l.length := by omega
  obtain ⟨b', off', e, _, hc⟩ := h.2.2.2.2 (by have := h.1; omega)
  cases e
  obtain ⟨c0, c1, c2⟩ := hc (j / 3) hi
  have hg := cellsFd_get l (j / 3) hi (j % 3) (by omega)
  rw [show j / 3 * 3 + j % 3 = j by omega, hj] at hg
  have h3 : j % 3 = 0 ∨ j % 3 = 1 ∨ j % 3 = 2 := by omega
  rcases h3 with e | e | e
  · rw [e] at hg; simp [Fd.cells] at hg; rw [hg, show off + j = off + j / 3 * 3 by omega]; exact c0
  · rw [e] at hg; simp [Fd.cells] at hg; rw [hg, show off + j = off + j / 3 * 3 + 1 by omega]; exact c1
  · rw [e] at hg; simp [Fd.cells] at hg; rw [hg, show off + j = off + j / 3 * 3 + 2 by omega]; exact c2
theorem RdF.cellsOf {w : World} {B n cap : Nat} {ad : Addr} {l : List Fd} (h : RdF w B (some ad) n cap l) (j : Nat) (u : Value) (hj : (cellsFd l)[j]? = some u) : w.cell? (ad.add j) = some u := by
  by_cases hn : 0 < n
  · obtain ⟨b, off, e, _⟩ := h.2.2.2.2 hn
    cases e
    rw [add_plain]; exact h.cellsAt j u hj
  · have hl : l = [] := List.eq_nil_of_length_eq_zero (by have := h.1; omega)
    subst hl
    simp [cellsFd] at hj
theorem run_appFds {w : World} {base : Nat} {v : Value} {xs : List Fd} (ho : OwF w base v xs) {ad : Addr} {n cap : Nat} {l : List Fd} (h : RdF w w.heap.size (some ad) n cap l) (hb : base ≤ w.heap.size) (hlen : xs.length + n ≤ 1000000) (ty : TypeId) :
    ∃ v' w', (Builtin.append_ #[32, 32] ty #[v, .slice (some ad) n cap]).run Tryz.prog w = .ok v' w' ∧ OwF w' base v' (xs ++ l) ∧ w.grownBy w' v.ownBlock := by
  have hi8 := infoFd
  cases hi : Tryz.prog.info? 68 with
  | none => rw [hi] at hi8; cases hi8
  | some i =>
    rw [hi] at hi8
    simp only [Option.map_some, Option.some.injEq, Prod.mk.injEq] at hi8
    obtain ⟨hz, hsz, hby⟩ := hi8
    obtain ⟨v', W', hr, ho2, hg, hnil⟩ := run_append_own (P := Tryz.prog) w base 32 ty 68 i (.agg #[.string ⟨#[]⟩, .int .i64 0, .int .i64 0]) 3 32 Tryz.underlying32 hi hz hsz hby rfl (by omega) v xs.length (cellsFd xs) ho ad n cap (cellsFd l) (by rw [cellsFd_length, h.1]) (fun j u hj => h.cellsOf j u hj) (cellsFd_one l) (by unfold maxLen; omega) (by omega) hb
    refine ⟨v', W', hr, ?_, hg⟩
    unfold OwF
    have e : cellsFd (xs ++ l) = cellsFd xs ++ cellsFd l := by simp [cellsFd]
    rw [List.length_append, e, h.1]; exact ho2
theorem ownF_empty (w : World) : OwF (w.alloc (.cells #[] 68)) w.heap.size (.slice (some ⟨w.heap.size, 0, none⟩) 0 0) [] :=
  ⟨rfl, .inr ⟨w.heap.size, 0, #[], rfl, Nat.le_refl _, heap_alloc_new w _, Nat.le_refl _, by unfold maxLen; omega, rfl, rfl⟩⟩
set_option maxHeartbeats 1000000 in
theorem fclone_any {w : World} {A : Option Addr} {n cap : Nat} {l : List Fd} (h : RdF w w.heap.size A n cap l) (hm : n ≤ 1000000) :
    Calls Tryz.prog 34 #[.slice A n cap] w fun e w' => ∃ v, e = .returned v ∧ OwF w' w.heap.size v l ∧ Below w.heap.size w w' := by
  have hq := fun W => Lib.run_eql_slice_nil (P := Tryz.prog) W 32 68 A n cap 0 0 Tryz.underlying32
  rcases A with _ | ad
  · have hn0 : n = 0 := by
      by_cases c : 0 < n
      · obtain ⟨_, _, e, _⟩ := h.2.2.2.2 c; cases e
      · omega
    subst hn0
    have hl : l = [] := List.eq_nil_of_length_eq_zero h.1
    subst hl
    clear h
    go_enter Tryz.func34, Tryz.ntmps34
    go_wp2_with fail
    go_ret
    exact ⟨_, rfl, World.ownsRow_nil _ _ _ _, B0 _⟩
  · obtain ⟨v', w', hrun, hown, hgr⟩ := run_appFds (ownF_empty w) (h.on (B1 w (.cells #[] 68))) (B1 w (.cells #[] 68)).size (by simp; omega) 32
    have HRUN := hid hrun; have HOWN := hid hown
    have HBL : Hid (Below w.heap.size w w') := hid ((B1 w (.cells #[] 68)).grown hgr (by simp) (fun k hk => by cases hk; exact Nat.le_refl _))
    clear hrun hown hgr h
    go_enter Tryz.func34, Tryz.ntmps34
    go_wp2_with (at_builtin; refine wpList_appG rfl _ _ rfl rfl rfl HRUN.out ?_)
    go_ret
    exact ⟨_, rfl, by simpa using HOWN.out, HBL.out⟩
end Go.Proofs.YtaegencmnmjgbaaGreat

namespace Go.Proofs.YtaegencmnmjgbaaGreat
open Go.RowKit
set_option linter.unusedVariables false
set_option linter.unusedSimpArgs false
set_option maxHeartbeats 2000000 in
theorem fequal_any {w : World} {A A2 : Option Addr} {n n2 c c2 : Nat} {l l2 : List Fd} (h : RdF w w.heap.size A n c l) (h2 : RdF w w.heap.size A2 n2 c2 l2) :
    Calls Tryz.prog 139 #[.slice A n c, .slice A2 n2 c2] w fun e w' => e = .returned (.bool (decide (l = l2))) ∧ Below w.heap.size w w' := by
  have HL := hid h.1; have HL2 := hid h2.1
  have hnm : (n : Int) ≤ 9223372036854775807 := by have := Nat.le_trans h.2.1 h.2.2.1; unfold maxLen at this; omega
  have H := hid h; have H2 := hid h2; clear h h2
  by_cases hne : n = n2
  · subst hne
    go_enter Tryz.func139, Tryz.ntmps139
    go_wp2_with fail
    go_loopw [13] (fun i wr => ∃ j : Nat, j ≤ n ∧ i = .int .i64 j ∧ Hid (∀ m, m < j → l[m]? = l2[m]?) ∧ Hid (Below w.heap.size w wr)) (fun i _ => n - (intOf i).toNat)
    case atStart => exact ⟨0, by omega, rfl, hid (fun m hm => absurd hm (by omega)), B0 w⟩
    case round =>
      obtain ⟨j, hj, rfl, HA, hb⟩ := hrel
      by_cases hlt : j < n
      · have hjl : j < l.length := by have := HL.out; omega
        obtain ⟨f, hf⟩ : ∃ f, l[j]? = some f := ⟨_, List.getElem?_eq_getElem hjl⟩
        obtain ⟨g, hg⟩ : ∃ g, l2[j]? = some g := ⟨_, List.getElem?_eq_getElem (by have := HL2.out; omega)⟩
        obtain ⟨_, hk64, hg64, hnl, b, off, rfl, hc⟩ := H.out.at hf
        obtain ⟨_, _, _, _, b2, off2, rfl, hc2⟩ := H2.out.at hg
        obtain ⟨c0, cc1, cc2⟩ := hc wr hb.out
        obtain ⟨d0, dd1, dd2⟩ := hc2 wr hb.out
        have hji : (j : Int) < n := by omega
        have hj0 : (0 : Int) ≤ j := by omega
        have HFG := hid (And.intro hf hg)
        clear hc hc2 hjl hf hk64 hg64 hnl hg
        by_cases hfg : f = g
        · subst hfg
          go_wp2_with fail
          go_quiet (fail)
          go_wp2_with fail
          exact ⟨⟨j + 1, by omega, by go_num, hid (fun m hm => by
            by_cases e : m = j
            · subst e; rw [HFG.out.1, HFG.out.2]
            · exact HA.out m (by omega)), Bd hb.out nq⟩, by simp [intOf]; omega⟩
        · have HE : Hid (decide (l = l2) = false) := hid (decide_eq_false (fun e => hfg (by have := HFG.out; rw [e] at this; exact Option.some.inj (this.1.symm.trans this.2))))
          have HFN := hid hfg
          clear hfg
          by_cases e1 : f.nm = g.nm
          · by_cases e2 : f.k = g.k
            · have e3 : ¬ f.g = g.g := fun e3 => HFN.out (by cases f; cases g; simp_all)
              have t3 : (f.g == g.g) = false := by simpa using e3
              have t2 : (f.k == g.k) = true := by simpa using e2
              go_wp2_with fail
              go_quiet (fail)
              go_wp2_with fail
              go_ret
              exact ⟨by rw [HE.out]; rfl, Bd hb.out nq⟩
            · have t2 : (f.k == g.k) = false := by simpa using e2
              go_wp2_with fail
              go_quiet (fail)
              go_wp2_with fail
              go_ret
              exact ⟨by rw [HE.out]; rfl, Bd hb.out nq⟩
          · go_wp2_with fail
            go_quiet (fail)
            go_wp2_with fail
            go_ret
            exact ⟨by rw [HE.out]; rfl, Bd hb.out nq⟩
      · obtain rfl : j = n := by omega
        have HE : Hid (decide (l = l2) = true) := hid (decide_eq_true (List.ext_getElem? (fun m => by
          by_cases c : m < j
          · exact HA.out m c
          · rw [List.getElem?_eq_none (by have := HL.out; omega), List.getElem?_eq_none (by have := HL2.out; omega)])))
        go_wp2_with fail
        go_ret
        exact ⟨by rw [HE.out]; rfl, hb.out⟩
  · have hni : ¬ (n : Int) = n2 := by omega
    have HE : Hid (decide (l = l2) = false) := hid (decide_eq_false (fun e => hne (by rw [← HL.out, ← HL2.out, e])))
    go_enter Tryz.func139, Tryz.ntmps139
    go_wp2_with fail
    go_ret
    exact ⟨by rw [HE.out]; rfl, B0 w⟩
theorem ret_TBp {fn : Func} {p : Tmp} (hf : fn.results = #[.cell p 92]) {R : Ending → World → Prop} {a : Act} {w : World} {b : Nat} {v1 v2 v3 : Value} (hp : a.tmps.getD p undef = .pointer (some ⟨b, 0, none⟩)) (hv : TBx w b v1 v2 v3 92)
    (hd : a.defers = []) (hR : R (.returned (.agg #[v1, v2, v3])) w) : bodyPost Tryz.prog fn R .ret a w :=
  bodyPost_ret_by (results_cell_row hf a.tmps w b 92 _ (0, 0) _ hp hv Tryz.underlying92 rfl (by kernel_rfl)) hd hR
theorem run_loadTBp {w : World} {b : Nat} {v1 v2 v3 : Value} (h : TBx w b v1 v2 v3 92) : (loadVar 92 ⟨b, 0, none⟩).run Tryz.prog w = .ok (.agg #[v1, v2, v3]) w :=
  run_loadVar_row w b 92 92 #[v1, v2, v3] (0, 0) _ h Tryz.underlying92 rfl (by kernel_rfl)
theorem ret_TBpe {fn : Func} {p u : Tmp} (hf : fn.results = #[.cell p 92, .tmp u]) {R : Ending → World → Prop} {a : Act} {w : World} {b : Nat} {v1 v2 v3 x : Value} (hp : a.tmps.getD p undef = .pointer (some ⟨b, 0, none⟩)) (hv : TBx w b v1 v2 v3 92)
    (hx : a.tmps.getD u undef = x) (hd : a.defers = []) (hR : R (.returned (.tuple #[.agg #[v1, v2, v3], x])) w) : bodyPost Tryz.prog fn R .ret a w :=
  bodyPost_ret_by (by rw [results_cell_tmp hf, hp, hx]; simp [asAddr, Result.andThen, run_loadTBp hv]) hd hR
def OwT (w : World) (base : Nat) (v : Value) (T : Tb) : Prop := ∃ v1 v2 v3 B2, v = .agg #[v1, v2, v3] ∧ OwF w base v1 T.o ∧ OwF w B2 v2 T.nw ∧ OwM w base 161 v3 T.mv ∧ base ≤ B2 ∧ B2 ≤ w.heap.size ∧ ∀ r, v1.ownBlock = some r → r < B2
theorem OwT.rd {w : World} {base : Nat} {v : Value} {T : Tb} (h : OwT w base v T) (ho : ∀ f ∈ T.o, I64 f.k ∧ I64 f.g ∧ f.nm.length ≤ nmMax) (hn : ∀ f ∈ T.nw, I64 f.k ∧ I64 f.g ∧ f.nm.length ≤ nmMax) (hm : ∀ m ∈ T.mv, I64 m.fr ∧ I64 m.k ∧ U64 m.n) : RdT w w.heap.size v T := by
  obtain ⟨v1, v2, v3, B2, rfl, h1, h2, h3, _⟩ := h
  obtain ⟨A, c, rfl, r1⟩ := h1.rd ho
  obtain ⟨A2, c2, rfl, r2⟩ := h2.rd hn
  obtain ⟨A3, c3, rfl, r3⟩ := h3.rd hm
  exact ⟨_, _, _, _, _, _, _, _, _, rfl, r1, r2, r3⟩
set_option maxRecDepth 20000 in
set_option maxHeartbeats 8000000 in
theorem p7same_any {w : World} {A : Option Addr} {n c : Nat} {l : List Fd} (h : RdF w w.heap.size A n c l) (hs : short l) :
    Calls Tryz.prog 103 #[.slice A n c] w fun e w' => ∃ v, e = .returned v ∧ OwT w' w.heap.size v (sameT l) ∧ Below w.heap.size w w' := by
  have HL := hid h.1
  have H := hid h; have HS := hid hs; clear h hs
  obtain ⟨w0, hw0⟩ : ∃ w0, w0 = w.alloc (.cells #[.slice none 0 0, .slice none 0 0, .slice none 0 0] 92) := ⟨_, rfl⟩
  have HW0 := hid hw0
  have HB0 : Hid (Below w.heap.size w w0) := by rw [hw0]; exact B1 _ _
  obtain ⟨r, hr⟩ : ∃ r, r = w.heap.size := ⟨_, rfl⟩
  have HR := hid hr
  have HT0 : Hid (TBx w0 r (.slice none 0 0) (.slice none 0 0) (.slice none 0 0) 92) := by rw [hw0, hr]; exact tb_new w _ _ _ _
  clear hw0 hr
  go_enter Tryz.func103, Tryz.ntmps103
  go_wp2_with fail
  rw [← HW0.out, ← HR.out]
  refine (p6right_any (H.out.on HB0.out) HS.out).mono ?_
  rintro e w1 ⟨rfl, hb1⟩
  have HT1 := hid (HT0.out.on hb1)
  have HB1 := hid (Bt HB0.out hb1)
  have HLT : Hid (r < w1.heap.size) := hid HT1.out.lt
  have fz := HT1.out.frozen 0; have fz1 := HT1.out.frozen 1; have fz2 := HT1.out.frozen 2
  obtain ⟨c0, cc1, cc2⟩ := HT1.out.cells
  have hrs : w.heap.size ≤ r := Nat.le_of_eq HR.out.symm
  clear hb1
  cases hr : rightL l with
  | false =>
    have HE : Hid (sameT l = Tb.none) := sameT_wrong hr
    clear hr
    go_wp2_with fail
    refine ret_TBp (by rfl) (by rfl) (HT1.out.set3 _ _ _) (by rfl) ⟨_, rfl, ?_, B3 HB1.out hrs _ _ _⟩
    rw [HE.out]
    exact ⟨_, _, _, w.heap.size, rfl, OwF.nil _ _, OwF.nil _ _, OwM.nil _ _ _, Nat.le_refl _, by simp only [size_set]; exact HB1.out.size, fun r e => by simp [Value.ownBlock] at e⟩
  | true =>
    have HE : Hid (sameT l = ⟨l, l, selfL l.length⟩) := sameT_right hr
    have hn16 : n ≤ 16 := by have := right_len hr; have := HL.out; omega
    have hn16i : (n : Int) ≤ 16 := by omega
    clear hr c0 cc1 cc2 fz fz1 fz2
    go_wp2_with fail
    refine (fclone_any (H.out.on HB1.out) (by omega)).mono ?_
    rintro e w2 ⟨v1, rfl, ho1, hb2⟩
    obtain ⟨Av, nv, cv, rfl⟩ := ho1.shape
    have HO1 := hid ho1; have HB2 := hid hb2
    clear ho1 hb2
    go_wp2_with fail
    refine (fclone_any (H.out.on (Bt HB1.out HB2.out)) (by omega)).mono ?_
    rintro e w3 ⟨v2, rfl, ho2, hb3⟩
    obtain ⟨Ax, nx, cx, rfl⟩ := ho2.shape
    have HO12 : Hid (OwF w3 w1.heap.size (.slice Av nv cv) l) := hid (HO1.out.on hb3)
    have HO2 := hid ho2
    have HB3 : Hid (Below w1.heap.size w1 w3) := hid (Bt HB2.out hb3)
    have HAP : Hid (∀ r, (Value.slice Av nv cv).ownBlock = some r → r < w2.heap.size) := hid (fun x e1 => by
      obtain ⟨_, cs, hc⟩ := HO1.out.blk2 x e1
      exact row_lt hc)
    have HS23 : Hid (w2.heap.size ≤ w3.heap.size) := hid hb3.size
    clear ho2 hb3
    obtain ⟨w4, hw4⟩ : ∃ w4, w4 = w3.alloc (.cells #[.slice Av nv cv, .slice Ax nx cx, .slice none 0 0] 92) := ⟨_, rfl⟩
    obtain ⟨q, hq⟩ : ∃ q, q = w3.heap.size := ⟨_, rfl⟩
    have HMK : Hid (MkT w3 w4 q 92 161 (.slice Av nv cv) (.slice Ax nx cx) (.slice none 0 0) (q + 1) (selfL 0)) := by
      rw [hw4, hq]
      exact hid ⟨tb_new w3 _ _ _ _, OwM.nil _ _ _, B1 _ _, by omega, Nat.le_refl _, by simp⟩
    have HW4 := hid hw4; have HQ := hid hq
    have HT3 := hid (HT1.out.on HB3.out)
    clear hw4 hq
    go_upto_region 5 with fail
    rw [← HW4.out, ← HQ.out]
    go_loopw [16] (fun i wr => ∃ j : Nat, j ≤ n ∧ i = .int .i64 j ∧ Hid (∃ v, MkT w3 wr q 92 161 (.slice Av nv cv) (.slice Ax nx cx) v (q + 1) (selfL j))) (fun i _ => n - (intOf i).toNat)
    case atStart => exact ⟨0, by omega, rfl, hid ⟨_, HMK.out⟩⟩
    case round =>
      obtain ⟨j, hj, rfl, ⟨v, hm⟩⟩ := hrel
      have HM := hid hm
      obtain ⟨c0, cc1, cc2⟩ := hm.tb.cells
      by_cases hlt : j < n
      · have hji : (j : Int) < n := by omega
        have hj0 : (0 : Int) ≤ j := by omega
        obtain ⟨v', w5, hrun, hown, hgr⟩ := run_appMv Tryz.underlying90 infoMp hm.ow (selfM j) (by rw [selfL_length]; omega) hm.az 90
        have hmk := (hm.on (B1 _ (.cells #[.int .i64 (selfM j).fr, .int .i64 (selfM j).k, .int .u64 (selfM j).n, .string (selfM j).t] 161))).app hgr hown
        rw [← selfL_succ] at hmk
        have htb := (HM.out.on (B1 _ (.cells #[.int .i64 (selfM j).fr, .int .i64 (selfM j).k, .int .u64 (selfM j).n, .string (selfM j).t] 161))).tb.grown hgr (fun e => by have := (hm.ow.blk2 q e.symm).1; have := hm.qb; omega)
        have fz := htb.frozen 2
        have ct := htb.cells.2.2
        obtain ⟨A3, n3, c3, rfl⟩ := hown.shape
        have HRUN := hid hrun; have HMK2 := hid hmk
        clear hrun hown hgr hmk hm htb
        go_wp2_with (at_builtin; refine wpList_appG rfl _ _ rfl rfl rfl HRUN.out ?_)
        exact ⟨⟨j + 1, by omega, by go_num, hid ⟨_, HMK2.out⟩⟩, by simp [intOf]; omega⟩
      · obtain rfl : j = n := by omega
        have HTZ : Hid (TBx wr r (.slice none 0 0) (.slice none 0 0) (.slice none 0 0) 92) := hid (HT3.out.on hm.bl)
        have fz := HTZ.out.frozen 0; have fz1 := HTZ.out.frozen 1; have fz2 := HTZ.out.frozen 2
        obtain ⟨r0, r1, r2⟩ := HTZ.out.cells
        obtain ⟨A3, n3, c3, hv⟩ := hm.ow.shape
        subst hv
        clear hm
        go_wp2_with fail
        have hB : Below w.heap.size w wr := Bt HB1.out (HB3.out.trans (HM.out.bl.mono HB3.out.size))
        refine ret_TBp (by rfl) (by rfl) (HTZ.out.set3 _ _ _) (by rfl) ⟨_, rfl, ?_, B3 hB hrs _ _ _⟩
        rw [HE.out, HL.out]
        have hr1 : r < w1.heap.size := HLT.out
        have hr2 : r < w2.heap.size := Nat.lt_of_lt_of_le hr1 HB2.out.size
        have hr3 : r < q + 1 := by have := HQ.out; have := HB3.out.size; omega
        have hw1 : w.heap.size ≤ w1.heap.size := HB1.out.size
        have o1 := HO12.out.on HM.out.bl
        have o2 := HO2.out.on HM.out.bl
        exact ⟨_, _, _, w2.heap.size, rfl, (((o1.set hr1 0 _).set hr1 1 _).set hr1 2 _).less hw1, (((o2.set hr2 0 _).set hr2 1 _).set hr2 2 _),
          (((HM.out.ow.set hr3 0 _).set hr3 1 _).set hr3 2 _).less (by omega), Nat.le_trans hw1 HB2.out.size, by simp only [size_set]; exact Nat.le_trans HS23.out HM.out.bl.size, HAP.out⟩
end Go.Proofs.YtaegencmnmjgbaaGreat
