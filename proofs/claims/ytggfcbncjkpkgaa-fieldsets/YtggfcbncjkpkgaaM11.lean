/-
  The program's Refs, New of layer 6.
-/
import Derived.Test.YtggfcbncjkpkgaaM10

namespace Go.Proofs.Ytggfcbncjkpkgaa
open Go.RowKit
set_option linter.unusedVariables false
attribute [local go_sem] Oper.semAt_some

theorem plc_refs (l : List Fd) : refP 0 (l.take (plcL l).length) = refL l := by
  cases hr : rightL l with
  | false => rw [plcL_wrong hr]; show refP 0 (l.take 0) = refL l; rw [List.take_zero]; simp [refL, hr, refP]
  | true => rw [plcL_length hr, List.take_length]; simp [refL, hr]
structure RefSt (w W : World) (B : Nat) (l : List Fd) (k : Nat) (v : Value) : Prop where
  cl : W.heap[w.heap.size]? = some (.cells #[v] 25 (0, 0))
  ow : OwI W B v (refP 0 (l.take k))
  bl : Below w.heap.size w W
  az : B ≤ W.heap.size
theorem RefSt.on {w W W' : World} {B k : Nat} {l : List Fd} {v : Value} (h : RefSt w W B l k v) (hb : Below W.heap.size W W') : RefSt w W' B l k v :=
  ⟨(hb.block _ (row_lt h.cl)).trans h.cl, h.ow.on hb, h.bl.trans (hb.mono h.bl.size), Nat.le_trans h.az hb.size⟩
theorem RefSt.keep {w W W' : World} {B k : Nat} {l : List Fd} {v : Value} {row : Option Nat} (h : RefSt w W B l k v) (hg : W.grownBy W' row) (hr : ∀ r, row = some r → w.heap.size ≤ r ∧ ∃ o : Obj, W.heap[r]? = some o ∧ o.isCells = false) : RefSt w W' B l k v :=
  ⟨cells_keep h.cl hg (fun r e => (hr r e).2), h.ow.keep hg (fun r e => (hr r e).2), h.bl.grown hg (h.bl.size) (fun r e => (hr r e).1), Nat.le_trans h.az hg.size⟩

set_option maxRecDepth 100000 in
set_option maxHeartbeats 8000000 in
theorem p6refs_any {w : World} {A : Option Addr} {n c : Nat} {l : List Fd} (h : RdF w w.heap.size A n c l) (hs : short l) :
    Calls Try.prog 18 #[.slice A n c] w fun e w' => ∃ v, e = .returned v ∧ OwI w' w.heap.size v (refL l) ∧ Below w.heap.size w w' := by
  have HL := hid h.1
  have H := hid h; have HS := hid hs; clear h hs
  refine (callsIn_wide (n := 5)).1 (callsIn_of_wp_marks Try.func18 rfl trivial ?_ rfl)
  simp only [Try.ntmps18, List.size_toArray, List.length_cons, List.length_nil, Nat.reduceAdd, Nat.reduceSub, Array.replicate_succ, Array.replicate_zero, List.push_toArray, List.append_toArray, List.nil_append, List.cons_append]
  gi_wp2_with (fail)
  obtain ⟨w2, hw2⟩ : ∃ w2, w2 = w.alloc (.cells #[.slice none 0 0] 25) := ⟨_, rfl⟩
  rw [← hw2]
  have hs2 : w2.heap.size = w.heap.size + 1 := by rw [hw2]; simp
  have hb2 : Below w.heap.size w w2 := by rw [hw2]; exact B1 w _
  have y0 : w2.heap[w.heap.size]? = some (.cells #[.slice none 0 0] 25 (0, 0)) := by rw [hw2]; exact heap_alloc_new w _
  clear hw2
  refine ⟨trivial, callsIn_wide.2 ((places_any _ _ _ _).mono ?_)⟩
  rintro e W0 ⟨rfl, hW0⟩
  have hs0 : W0.heap.size = w.heap.size + 2 := by rw [hW0]; simp [hs2]
  have hb0 : Below w2.heap.size w2 W0 := by rw [hW0]; exact B1 _ _
  have z0 := (hb0.block _ (row_lt y0)).trans y0
  have yB : W0.heap[w2.heap.size]? = some (.cells #[.slice A n c] 22 (0, 0)) := by rw [hW0]; exact heap_alloc_new _ _
  have hB0 : Below w.heap.size w W0 := Bt hb2 hb0
  have hit := places_iter (w := W0) yB (H.out.below hB0) HS.out (by omega)
  have hL0 : RefSt w W0 W0.heap.size l 0 (.slice none 0 0) := ⟨z0, OwI.nil _ _, hB0, Nat.le_refl _⟩
  have HS0 := hid hs0
  clear hW0 y0 z0 hb2 hb0 yB hs2
  gi_wp2_with (fail)
  obtain ⟨I, HI1⟩ : ∃ I : Nat → World → Prop, Hid (I = fun k W => ∃ v, RefSt w W W0.heap.size l k v) := ⟨_, hid rfl⟩
  refine range_any (gf := 51) (lb := #[.pointer (some ⟨w2.heap.size, 0, none⟩)]) rfl (enters_of Try.func51 (by kernel_rfl) rfl)
    hit (fun h k => KeepF.trans h k) (fun W l o o' hl h hc => KeepF.put (by have := HS0.out; omega) W l o o' hl h hc) (fun _ => rfl) I (fun _ _ _ => False)
    (by
      rw [HI1.out]
      rintro s A C row ⟨v, hs⟩ hg hr
      exact ⟨v, hs.keep hg (fun r e => ⟨by have := (hr r e).1; have := HS0.out; omega, (hr r e).2⟩)⟩)
    (fun c s A C row hs _ _ => hs)
    (by rw [HI1.out]; exact ⟨_, hL0⟩) ?_ ?_ ?_
  · rintro ll k x W1 hki hi1 hll hll2
    obtain ⟨f, P⟩ := x
    obtain ⟨hrt, hfk, hpk, hPe⟩ := plcL_at hki
    dsimp only at hfk hpk hPe
    have HRT := hid hrt; have HFK := hid hfk; have HPK := hid hpk; have HPE := hid hPe
    clear hrt hfk hpk hPe hki
    have hi1' := hi1
    rw [HI1.out] at hi1'
    obtain ⟨v1, hst1⟩ := hi1'
    dsimp only [fv]
    gi_wp2_with (fail)
    refine ⟨kf_below (B1 _ _), KeepF.below (B1 _ _) (by have := hst1.bl.size; omega), by rw [HI1.out]; exact ⟨_, hst1.on (B1 _ _)⟩, ?_⟩
    rintro W2 hg2 hi2
    rw [HI1.out] at hi2
    obtain ⟨v, hst⟩ := hi2
    have hfb : FB W2 W1.heap.size (bs f.nm) f.k f.g := (hg2.block _ (by simp) (by simp; omega)).trans (heap_alloc_new W1 _)
    obtain ⟨q, hq⟩ : ∃ q, q = W1.heap.size := ⟨_, rfl⟩
    rw [← hq] at hfb ⊢
    have HQQ := hid hq
    clear hq
    obtain ⟨g0, g1, g2⟩ := hfb.cells
    have HST := hid hst
    by_cases h11 : f.k = 11
    · have t1 : (f.k == 11) = true := by rw [h11]; rfl
      have hrt := HRT.out; have hfk := HFK.out; have hpk := HPK.out; have hPe := HPE.out
      have hlen : (refP 0 (l.take k)).length ≤ 1000000 := by
        have := refP_le (l.take k) 0; rw [List.length_take] at this; have := right_len hrt; omega
      obtain ⟨v3, w3, hrun, hown, hgr⟩ := run_appI2 hst.ow P hlen hst.az 25
      obtain ⟨A3, n3, cc3, rfl⟩ := hown.shape
      have c0 : W2.cell? ⟨w.heap.size, 0, none⟩ = some v := by rw [row_cell hst.cl]; rfl
      have hb3 : Below W2.heap.size W2 (W2.alloc (.cells #[.int .i64 P] 3)) := B1 _ _
      have hrow : ∀ r, v.ownBlock = some r → W0.heap.size ≤ r ∧ ∃ cs, (W2.alloc (.cells #[.int .i64 P] 3)).heap[r]? = some (.cells cs 3 (0, 0)) := fun r e => by
        obtain ⟨h1, cs, h2⟩ := hst.ow.blk2 r e
        exact ⟨h1, cs, (hb3.block _ (row_lt h2)).trans h2⟩
      have hsz3 : W2.heap.size + 1 ≤ w3.heap.size := by have := hgr.size; simpa using this
      have hcl3 : w3.heap[w.heap.size]? = some (.cells #[v] 25 (0, 0)) := (hgr.block _ (by have := row_lt hst.cl; simp; omega) (fun e => by have := (hrow _ e.symm).1; have := HS0.out; omega)).trans ((hb3.block _ (row_lt hst.cl)).trans hst.cl)
      have hkf3 : KeepsFrom W0.heap.size W2 w3 := (kf_below hb3).trans (kf_grown hgr (fun r e => by obtain ⟨_, cs, hc⟩ := hrow r e; exact ⟨_, _, hc⟩))
      have hkp3 : KeepF w.heap.size W2 w3 := (KeepF.below hb3 (by have := hst.bl.size; omega)).trans (KeepF.grown hgr (fun r e => by obtain ⟨h1, cs, hc⟩ := hrow r e; exact ⟨by have := HS0.out; omega, _, _, hc, by decide⟩) (by have := hst.bl.size; simp; omega))
      have fz3 := row_frozen hcl3 0
      have cz3 : w3.cell? ⟨w.heap.size, 0, none⟩ = some v := by rw [row_cell hcl3]; rfl
      have how4 : OwI (w3.setCell ⟨w.heap.size, 0, none⟩ (.slice A3 n3 cc3)) W0.heap.size (.slice A3 n3 cc3) (refP 0 (l.take (k + 1))) := by
        rw [refP_take hfk, ← hPe, if_pos h11]; exact hown.set (by have := HS0.out; omega) 0 _
      have HRUN := hid hrun; have HCL3 := hid hcl3; have HKF3 := hid hkf3; have HKP3 := hid hkp3; have HOW4 := hid how4
      have HSZ3 := hid hsz3
      clear hrun hown hgr hb3 hrow hcl3 hkf3 hkp3 how4 hst hfb hg2 hi1 hst1 hlen hrt hfk hpk hPe hL0 hB0 hit hsz3 h11
      gi_wp2_with (gi_at_builtin; refine wpListIn_app rfl _ _ rfl rfl rfl HRUN.out ?_)
      refine ⟨HKF3.out.trans (kf_set HCL3.out 0 _), HKP3.out.trans (KeepF.set HCL3.out (Nat.le_refl _) (by decide) 0 _), ?_⟩
      rw [HI1.out]
      exact ⟨_, row_set HCL3.out 0 _, HOW4.out, (HST.out.bl.trans HKP3.out.1).setCell (p := ⟨w.heap.size, 0, none⟩) (Nat.le_refl _) _, by have := HST.out.az; have := HSZ3.out; simp; omega⟩
    · have t1 : (f.k == 11) = false := by simpa using h11
      have HR1 : Hid (refP 0 (l.take (k + 1)) = refP 0 (l.take k)) := by show _ = _; rw [refP_take HFK.out, if_neg h11, List.append_nil]
      clear hst hfb hg2 hi1 hst1 hL0 hB0 hit h11
      gi_wp2_with (fail)
      refine ⟨KeepsFrom.refl _ _, KeepF.refl _ _, ?_⟩
      rw [HI1.out]
      exact ⟨v, HST.out.cl, by rw [HR1.out]; exact HST.out.ow, HST.out.bl, HST.out.az⟩
  · rintro D W1 hD hi1 hdf
    rw [HI1.out] at hi1
    obtain ⟨v, hst⟩ := hi1
    obtain ⟨A3, n3, cc3, rfl⟩ := hst.ow.shape
    have HST := hid hst
    have HDF := hid hdf
    have HLE := hid (plc_refs l)
    have c1 : W1.cell? ⟨w.heap.size, 0, none⟩ = some (.slice A3 n3 cc3) := by rw [row_cell hst.cl]; rfl
    clear hst hdf hL0 hit
    gi_wp2_with (fail)
    refine ⟨by simp, .inl ⟨_, _, rfl, run_takeDeferred HDF.out, ?_⟩⟩
    refine ⟨_, results_tmp rfl _ _ _, _, rfl, ?_, below_put HST.out.bl (by have := HS0.out; omega) HDF.out rfl⟩
    rw [← HLE.out]
    exact (HST.out.ow.keep (grownBy_putObj' _ D (.deferred none)) (fun r e => by cases e; exact ⟨_, HDF.out, rfl⟩)).less (by have := HS0.out; omega)
  · rintro D c k W1 hD hk hi1 hdf
    exact hi1.elim

theorem p6new_any {w : World} {A : Option Addr} {n c : Nat} {l : List Fd} (h : RdF w w.heap.size A n c l) (hs : short l) :
    Calls Try.prog 20 #[.slice A n c] w fun e w' => ∃ v, e = .returned v ∧ Own w' w.heap.size v (List.replicate (layT l).toNat 0) ∧ Below w.heap.size w w' := by
  have H := hid h; have HS := hid hs; clear h hs
  obtain ⟨hT0, hT1⟩ := layT_bd l
  obtain ⟨T, hT⟩ : ∃ T : Nat, (T : Int) = layT l := ⟨(layT l).toNat, by omega⟩
  have HT : Hid ((layT l).toNat = T) := show _ = _ by omega
  have hT2 : T ≤ 1160 := by omega
  have HTT := hid hT
  clear hT0 hT1 hT
  go_enter Try.func20, Try.ntmps20
  go_wp2_with fail
  refine (p6layout_any H.out HS.out).mono ?_
  rintro e w1 ⟨v1, rfl, ho1, hb1⟩
  rw [← HTT.out]
  have hm := fun w => run_make8 T (T : Int) rfl (by omega) w
  have HB1 := hid hb1
  clear ho1 hb1
  go_wp2_with fail
  go_ret
  rw [HT.out]
  refine ⟨_, rfl, ?_, Ba HB1.out _⟩
  refine own_row (g := w1.heap.size) (m := T) ?_ HB1.out.size (by simp) (by unfold maxLen; omega)
  have := heap_alloc_new w1 (.cells (zrow T).toArray 5)
  rw [show zrow T = (List.replicate T (0 : UInt8)).map bv by simp [zrow]] at this ⊢
  exact this
end Go.Proofs.Ytggfcbncjkpkgaa
