/-
  wal: save.
-/
import Derived.Test.YteggkojlpgkhbaaGreatWalT
namespace Go.Proofs.YteggkojlpgkhbaaGreat
open Go.RowKit Go.Maps Go.Shelf
set_option linter.unusedVariables false
attribute [local go_sem] Oper.semAt_some

/-- The steps that save words: each is written; a flush of all; a fence. -/
def saveP (first : Int) (l : List UInt8) (k : Nat) : List Stp := (List.range k).map fun (i : Nat) => .wr (first + (i : Int)) ((l.drop (i * 8)).take 8)
def saveS (first : Int) (l : List UInt8) : List Stp := saveP first l (l.length / 8) ++ [.fl first (l.length / 8 : Nat), .fe]
theorem saveP_length (first : Int) (l : List UInt8) (k : Nat) : (saveP first l k).length = k := by simp [saveP]
theorem saveP_succ (first : Int) (l : List UInt8) (k : Nat) : saveP first l (k + 1) = saveP first l k ++ [.wr (first + k) ((l.drop (k * 8)).take 8)] := by simp [saveP, List.range_succ]

set_option maxRecDepth 100000 in
set_option maxHeartbeats 8000000 in
theorem save_any {w : World} {lo d q off c m : Nat} (at_ words from_ : Int) {l : List UInt8} {cs : Array Value} (hl : l.length = m * 8) (hm : 1 ≤ m) (hc : l.length ≤ c) (hcm : c ≤ maxLen) (hmax : m ≤ 100000) (h0 : 0 ≤ at_ + from_) (h1 : at_ + from_ ≤ 100000) (hlo : lo ≤ w.heap.size) (hq : lo ≤ q)
    (hb : w.heap[q]? = some (.cells cs 5 (0, 0))) (hcs : ∀ i (h : i < l.length), cs[off + i]? = some (bv l[i])) :
    Calls Tryz.prog 36 #[.agg (regC d at_ words), .int .i64 from_, .slice (some ⟨q, off, none⟩) l.length c] w fun e w' => ∃ v, e = .returned v ∧ StR w' lo d w.heap.size v (saveS (at_ + from_) l) ∧ Below w.heap.size w w' := by
  obtain ⟨first, hfirst⟩ : ∃ first, first = at_ + from_ := ⟨_, rfl⟩
  rw [← hfirst] at h0 h1 ⊢
  have q1 : IntKind.i64.wrap (at_ + from_) = first := by rw [← hfirst, IntKind.wrap_i64]; omega
  obtain ⟨n, hn⟩ : ∃ n, n = l.length := ⟨_, rfl⟩
  have HL := hid hl; have HLO := hid hlo; have HB := hid hb; have HCS := hid hcs; have HN := hid hn; have HQ := hid hq
  rw [← hn] at hc HL ⊢
  have hmax' : n ≤ 1000000 := by have := HL.out; omega
  clear hl hlo hb hcs hn hq hfirst
  unfold regC
  refine (callsIn_wide (n := 5)).1 (callsIn_of_wp_marks Tryz.func36 rfl trivial ?_ rfl)
  simp only [Tryz.ntmps36, List.size_toArray, List.length_cons, List.length_nil, Nat.reduceAdd, Nat.reduceSub, Array.replicate_succ, Array.replicate_zero, List.push_toArray, List.append_toArray, List.nil_append, List.cons_append]
  gi_wp2_with (fail)
  obtain ⟨W3, hW3, hs3, hB3, z0, z1, z2⟩ := alloc3 w (.cells #[.pointer (some ⟨d, 0, none⟩), .int .i64 at_, .int .i64 words] 73) (.cells #[.int .i64 first] 3) (.cells #[.slice none 0 0] 43)
  rw [← hW3]
  clear hW3
  refine ⟨trivial, callsIn_wide.2 ((chunk_make _ _ _ 8 (by omega)).mono ?_)⟩
  rintro e w1 ⟨rfl, rfl⟩
  obtain ⟨W0, hW0, hs0, hB0', y3, y4⟩ := alloc2 W3 (.cells #[.slice (some ⟨q, off, none⟩) n c] 22) (.cells #[.int .i64 8] 3)
  rw [← hW0]
  clear hW0
  have hB0 : Below w.heap.size w W0 := Bt hB3 hB0'
  have y0 := (hB0'.block _ (row_lt z0)).trans z0
  have y1 := (hB0'.block _ (row_lt z1)).trans z1
  have y2 := (hB0'.block _ (row_lt z2)).trans z2
  have hq0 := (hB0.block _ (row_lt HB.out)).trans HB.out
  obtain ⟨rb, hrb⟩ : ∃ rb, rb = w.heap.size := ⟨_, rfl⟩
  obtain ⟨fx, hfx⟩ : ∃ fx, fx = w.heap.size + 1 := ⟨_, rfl⟩
  obtain ⟨bx, hbx⟩ : ∃ bx, bx = w.heap.size + 1 + 1 := ⟨_, rfl⟩
  rw [← hbx] at y2 ⊢
  rw [← hfx] at y1 ⊢
  rw [← hrb] at y0 ⊢
  have HRB := hid hrb; have HBX := hid hbx; have HFX := hid hfx; have HQ0 := hid hq0
  clear hrb hbx hfx hq0 z0 z1 z2
  have HS0 : Hid (W0.heap.size = w.heap.size + 5) := by show W0.heap.size = w.heap.size + 5; omega
  have y4' : W0.heap[W3.heap.size + 1]? = some (.cells #[.int .i64 (8 : Nat)] 3 (0, 0)) := y4
  have hit := chunk_iter (w := W0) y3 y4' HL.out (by omega) hc hmax'
  clear y4'
  clear hs3 hs0
  gi_wp2_with (fail)
  obtain ⟨I, HI1⟩ : ∃ I : Nat → World → Prop, Hid (I = fun k W => (∃ v, W.heap[bx]? = some (.cells #[v] 43 (0, 0)) ∧ StR W lo d W0.heap.size v (saveP first l k)) ∧ (W.heap[rb]? = some (.cells #[.pointer (some ⟨d, 0, none⟩), .int .i64 at_, .int .i64 words] 73 (0, 0)) ∧ W.heap[fx]? = some (.cells #[.int .i64 first] 3 (0, 0)) ∧ W.heap[q]? = some (.cells cs 5 (0, 0))) ∧ Below w.heap.size w W ∧ W0.heap.size ≤ W.heap.size) := ⟨_, hid rfl⟩
  refine range_any (gf := 84) (lb := #[.pointer (some ⟨W3.heap.size, 0, none⟩), .pointer (some ⟨W3.heap.size + 1, 0, none⟩)]) rfl (enters_of Tryz.func84 (by kernel_rfl) rfl)
    hit (fun h k => KeepC.trans h k) (fun W l o o' _ h hc => KeepC.put W l o o' h hc) (fun _ => rfl) I (fun _ _ _ => False)
    (by
      rw [HI1.out]
      refine OwnFrom.and (fun s A C row hs hg hr => by obtain ⟨v, h1, h2⟩ := hs; exact ⟨v, blk_keep h1 hg (fun r e => (hr r e).2), h2.non hg (fun r e => (hr r e).2)⟩) (OwnFrom.and (fun s A C row hs hg hr => ⟨blk_keep hs.1 hg (fun r e => (hr r e).2), blk_keep hs.2.1 hg (fun r e => (hr r e).2), blk_keep hs.2.2 hg (fun r e => (hr r e).2)⟩) (OwnFrom.and (ownFrom_below (Nat.le_refl _) (by have := HS0.out; omega)) (fun s A C row hs hg hr => Nat.le_trans hs hg.size))))
    (fun c s A C row hs _ _ => hs)
    (by rw [HI1.out]; exact ⟨⟨_, y2, StR.nil _ _ _ _⟩, ⟨y0, y1, HQ0.out⟩, hB0, Nat.le_refl _⟩) ?_ ?_ ?_
  · rintro ll k i W1 hki hi1 hll hll2
    gi_wp2_with (fail)
    refine ⟨KeepsFrom.refl _ _, KeepC.refl _, hi1, ?_⟩
    rintro W2 hg2 hi2
    have hi : i = k ∧ k < m := by
      have := hki
      rw [List.getElem?_eq_some_iff] at this
      obtain ⟨h1, h2⟩ := this
      simp at h1 h2; omega
    obtain ⟨rfl, him⟩ := hi
    rw [HI1.out] at hi2
    obtain ⟨⟨v, hv1, hv2⟩, ⟨hv3, hv4, hv5⟩, hb2, hz2⟩ := hi2
    obtain ⟨A, cc, rfl⟩ := hv2.shape
    rw [saveP_length] at hv1 hv2
    have hst : Hid (SSt w W2 W2 W0.heap.size bx lo d W0.heap.size (.slice A i cc) (saveP first l i)) := (⟨hv1, by have := HBX.out; omega, by have := HS0.out; omega, hz2, hv2, hb2, KeepsFrom.refl _ _, Below.refl _ _, KeepC.refl _⟩ : SSt w W2 W2 W0.heap.size bx lo d W0.heap.size _ _)
    have HRR := hid hv3; have HFF := hid hv4; have HQQ := hid hv5; have HW2 := hid hv5
    have hrblt : rb < W2.heap.size := row_lt hv3
    have hfxlt : fx < W2.heap.size := row_lt hv4
    have OB : Hid (∀ (v : Value) (W : World) (ss : List Stp) (b : Nat) (cs : Array Value) (t : TypeId), StR W lo d W0.heap.size v ss → W.heap[b]? = some (.cells cs t (0, 0)) → t ≠ 1 → some b ≠ v.ownBlock) := by
      intro v W ss b cs t h hb ht e
      obtain ⟨_, cs', hc⟩ := h.row b e.symm
      rw [hc] at hb; cases hb; exact ht rfl
    have hlen : i * 8 + 8 ≤ n := by rw [HL.out]; omega
    have HC8 : Hid (((l.drop (i * 8)).take 8).length = 8 ∧ ∀ j (h : j < ((l.drop (i * 8)).take 8).length), cs[off + i * 8 + j]? = some (bv ((l.drop (i * 8)).take 8)[j])) := by
      have hln := HN.out
      refine ⟨by simp; omega, fun j hj => ?_⟩
      simp at hj
      have := HCS.out (i * 8 + j) (by omega)
      rw [Nat.add_assoc, this]; simp
    have q2 : IntKind.i64.wrap (first + i) = first + i := by rw [IntKind.wrap_i64]; omega
    have hnb : fx ≠ bx := by have := HFX.out; have := HBX.out; omega
    have hnb2 : rb ≠ bx := by have := HRB.out; have := HBX.out; omega
    have HIM : Hid (i + 1 ≤ 1000000) := show _ ≤ _ by omega
    clear hv1 hv2 hv3 hv4 hv5 hi1 hg2 hb2 y0 y1 y2 y3 y4 hki hz2 hlen
    gi_wp2_with (fail)
    refine reg_begin2 fx rb (by kernel_rfl) (by kernel_rfl) hfxlt hrblt (fun w0a hh0a hx0a hHeld => ?_)
    have c1 : ∀ w', Two fx rb w0a w' → w'.cell? ⟨fx, 0, none⟩ = some (.int .i64 first) := fun w' h => by rw [row_cell (h.h1.trans (by rw [hh0a.out]; exact HFF.out))]; rfl
    have c3 : ∀ w', Two fx rb w0a w' → w'.cell? ⟨rb, 0, none⟩ = some (.pointer (some ⟨d, 0, none⟩)) := fun w' h => by rw [row_cell (h.h2.trans (by rw [hh0a.out]; exact HRR.out))]; rfl
    have c4 : ∀ w', Two fx rb w0a w' → w'.cell? ⟨rb, 1, none⟩ = some (.int .i64 at_) := fun w' h => by rw [row_cell (h.h2.trans (by rw [hh0a.out]; exact HRR.out))]; rfl
    have c5 : ∀ w', Two fx rb w0a w' → w'.cell? ⟨rb, 2, none⟩ = some (.int .i64 words) := fun w' h => by rw [row_cell (h.h2.trans (by rw [hh0a.out]; exact HRR.out))]; rfl
    have C1 : Hid (∀ w', Two fx rb w0a w' → w'.heap[fx]? = some (.cells #[.int .i64 first] 3 (0, 0))) := fun w' h => h.h1.trans (by rw [hh0a.out]; exact HFF.out)
    have C2 : Hid (∀ w', Two fx rb w0a w' → w'.heap[rb]? = some (.cells #[.pointer (some ⟨d, 0, none⟩), .int .i64 at_, .int .i64 words] 73 (0, 0))) := fun w' h => h.h2.trans (by rw [hh0a.out]; exact HRR.out)
    have hst := hid (hst.out.on hx0a)
    have HQQ := hid ((hx0a.block _ (row_lt HQQ.out)).trans HQQ.out)
    refine reg_take2 1 (v := ?vy1_1) (atS at0) (by kernel_rfl) (by kernel_rfl) (by kernel_rfl) (by rfl) ?hyy1_1 hHeld ?resty1_1
    case hyy1_1 => (intro w' hSw; go_simp; try with_reducible rfl)
    try simp only [Act.put, List.setIfInBounds_toArray, List.set_cons_zero, List.set_cons_succ]
    refine reg_take2 2 (v := ?vy2_2) (atS (atS at0)) (by kernel_rfl) (by kernel_rfl) (by kernel_rfl) (by rfl) ?hyy2_2 hHeld ?resty2_2
    case hyy2_2 => (intro w' hSw; go_simp; try with_reducible rfl)
    try simp only [Act.put, List.setIfInBounds_toArray, List.set_cons_zero, List.set_cons_succ]
    refine reg_take2 6 (v := ?vy3_6) (atS5 (atS at0)) (by kernel_rfl) (by kernel_rfl) (by kernel_rfl) (by rfl) ?hyy3_6 hHeld ?resty3_6
    case hyy3_6 => (intro w' hSw; go_simp; try with_reducible rfl)
    try simp only [Act.put, List.setIfInBounds_toArray, List.set_cons_zero, List.set_cons_succ]
    refine wpAnyH_ready (rs := [0, 3]) (by kernel_rfl) (by simp) ?_
    refine AllReadyH.cons at0 (fun K hK => ?_) (AllReadyH.cons (atS (atS (atS at0))) (fun K hK => ?_) AllReadyH.nil)
    · skip
      have hbx0 := hst.out.cell
      go_simp
      refine hK.out _ _ hHeld (fun hHeld => ?_)
      clear hK K
      try simp only [Act.put, List.setIfInBounds_toArray, List.set_cons_zero, List.set_cons_succ]
      refine wpAnyH_ready (rs := [3]) (by kernel_rfl) (by simp) ?_
      refine AllReadyH.cons (atS (atS (atS at0))) (fun K hK => ?_) AllReadyH.nil
      have hbx3 := hst.out.cell
      go_simp
      refine hK.out _ _ hHeld (fun hHeld => ?_)
      clear hK K
      try simp only [Act.put, List.setIfInBounds_toArray, List.set_cons_zero, List.set_cons_succ]
      refine reg_take2 4 (v := ?vy4_4) (atS (atS (atS (atS at0)))) (by kernel_rfl) (by kernel_rfl) (by kernel_rfl) (by rfl) ?hyy4_4 hHeld ?resty4_4
      case hyy4_4 => (intro w' hSw; go_simp; try with_reducible rfl)
      try simp only [Act.put, List.setIfInBounds_toArray, List.set_cons_zero, List.set_cons_succ]
      refine reg_take2 5 (v := ?vy5_5) (atS5 at0) (by kernel_rfl) (by kernel_rfl) (by kernel_rfl) (by rfl) ?hyy5_5 hHeld ?resty5_5
      case hyy5_5 => (intro w' hSw; go_simp; try with_reducible rfl)
      try simp only [Act.put, List.setIfInBounds_toArray, List.set_cons_zero, List.set_cons_succ]
      refine wpAnyH_ready (rs := [7]) (by kernel_rfl) (by simp) ?_
      refine AllReadyH.cons (atS5 (atS (atS at0))) (fun K hK => ?_) AllReadyH.nil
      go_simp
      refine (write_step (lo := lo) (by have := HLO.out; have := hst.out.lt; omega) d at_ words (first + i) HC8.out.1 (Nat.le_refl 8) (by unfold maxLen; omega) HQ.out HQQ.out HC8.out.2).mono ?_
      rintro e w7a ⟨r7, a7, b7, rfl, hs7, hb7⟩
      have HS7 := hid hs7
      have HQQ := hid ((hb7.block _ (row_lt HQQ.out)).trans HQQ.out)
      have hst := hid (hst.out.on hb7)
      clear hs7
      go_wp2_with fail
      refine hK.out _ _ (hHeld.on hb7) (fun hHeld => ?_)
      clear hK K
      try simp only [Act.put, List.setIfInBounds_toArray, List.set_cons_zero, List.set_cons_succ]
      refine wpAnyH_ready (rs := [8]) (by kernel_rfl) (by simp) ?_
      refine AllReadyH.cons (atS5 (atS (atS (atS at0)))) (fun K hK => ?_) AllReadyH.nil
      go_simp
      obtain ⟨w8a, hw12⟩ : ∃ w', w' = w7a.alloc (.cells #[.func (.func 85) #[] #[.pointer (some ⟨r7, 0, none⟩), .pointer (some ⟨a7, 0, none⟩), .pointer (some ⟨b7, 0, none⟩)]] 1) := ⟨_, rfl⟩
      obtain ⟨q12, hq12⟩ : ∃ q12, q12 = w7a.heap.size := ⟨_, rfl⟩
      rw [← hw12]
      try rw [← hq12]
      have hb12 : Below w7a.heap.size w7a w8a := by rw [hw12]; exact B1 _ _
      have hc12 : w8a.heap[q12]? = some (.cells #[.func (.func 85) #[] #[.pointer (some ⟨r7, 0, none⟩), .pointer (some ⟨a7, 0, none⟩), .pointer (some ⟨b7, 0, none⟩)]] 1 (0, 0)) := by rw [hw12, hq12]; exact heap_alloc_new _ _
      have HC12 := hid hc12
      have HQQ := hid ((hb12.block _ (row_lt HQQ.out)).trans HQQ.out)
      have HS7 := hid (HS7.out.keep (KeepT.below hb12))
      have hst := hid (hst.out.on hb12)
      clear hc12 hw12 hq12
      refine hK.out _ _ (hHeld.on hb12) (fun hHeld => ?_)
      clear hK K
      try simp only [Act.put, List.setIfInBounds_toArray, List.set_cons_zero, List.set_cons_succ]
      refine wpAnyH_ready (rs := [9]) (by kernel_rfl) (by simp) ?_
      refine AllReadyH.cons (atS5 (atS (atS (atS (atS at0))))) (fun K hK => ?_) AllReadyH.nil
      obtain ⟨v13, w9a, hrun13, ho13, hg13⟩ := run_appF (c := 1) (ss' := [.wr (first + i) ((l.drop (i * 8)).take 8)]) hst.out.ow (q := q12) (m := 1) (news := [.func (.func 85) #[] #[.pointer (some ⟨r7, 0, none⟩), .pointer (some ⟨a7, 0, none⟩), .pointer (some ⟨b7, 0, none⟩)]]) rfl (by intro j u hj; rw [row_cell HC12.out]; match j, hj with | 0, h => exact h) (by intro u hu; simp at hu; rcases hu with rfl; rfl) (by rw [saveP_length]; exact HIM.out) hst.out.az rfl (by intro i s hi; match i, hi with | 0, h => (cases h; exact ⟨_, rfl, HS7.out⟩)) 43
      obtain ⟨n13, A13, cc13, rfl⟩ : ∃ n13 A13 cc13, v13 = .slice A13 n13 cc13 := by obtain ⟨A, c, h⟩ := ho13.shape; exact ⟨_, A, c, h⟩
      refine step_appF (by rfl) (.tmp 17) (.tmp 25) (by rfl) (by rfl) (by rfl) hrun13 ?_
      have hst5 := hst.out.app hg13 ho13
      have HS5 := hid hst5.1
      have hc13 := hst5.2.1
      have hf13 := hst5.2.2
      clear hst5
      refine hK.out _ _ (hHeld.by hg13 (OB.out _ _ _ _ _ _ hst.out.ow (C1.out _ hHeld) (by decide)) (OB.out _ _ _ _ _ _ hst.out.ow (C2.out _ hHeld) (by decide))) (fun hHeld => ?_)
      clear hK K
      try simp only [Act.put, List.setIfInBounds_toArray, List.set_cons_zero, List.set_cons_succ]
      refine wpAnyH_ready (rs := [10]) (by kernel_rfl) (by simp) ?_
      refine AllReadyH.cons (atS5 (atS5 at0)) (fun K hK => ?_) AllReadyH.nil
      go_simp
      go_simp
      go_wp2_with fail
      refine hK.out _ _ (hHeld.by (grownBy_setCell' _ _ _) (by simpa using hnb) (by simpa using hnb2)) (fun hHeld => ?_)
      clear hK K
      try simp only [Act.put]
      refine wpAnyH_done (by kernel_rfl) ?_ _
      refine NoPanic.normal ?_
      refine Only.normal ?_
      have hrr := C2.out _ hHeld
      have hff := C1.out _ hHeld
      gi_wp2_with (fail)
      refine ⟨HS5.out.kf, HS5.out.kc, ?_⟩
      rw [HI1.out]
      refine ⟨⟨_, HS5.out.bo, ?_⟩, ⟨hrr, hff, ?_⟩, HS5.out.bl, HS5.out.az⟩
      · rw [saveP_succ]
        exact HS5.out.ow
      · exact HS5.out.kc.2 _ _ _ HW2.out (by decide) (by decide) (by decide)
    · skip
      have hbx3 := hst.out.cell
      go_simp
      refine hK.out _ _ hHeld (fun hHeld => ?_)
      clear hK K
      try simp only [Act.put, List.setIfInBounds_toArray, List.set_cons_zero, List.set_cons_succ]
      refine reg_take2 4 (v := ?vy6_4) (atS (atS (atS (atS at0)))) (by kernel_rfl) (by kernel_rfl) (by kernel_rfl) (by rfl) ?hyy6_4 hHeld ?resty6_4
      case hyy6_4 => (intro w' hSw; go_simp; try with_reducible rfl)
      try simp only [Act.put, List.setIfInBounds_toArray, List.set_cons_zero, List.set_cons_succ]
      refine reg_take2 5 (v := ?vy7_5) (atS5 at0) (by kernel_rfl) (by kernel_rfl) (by kernel_rfl) (by rfl) ?hyy7_5 hHeld ?resty7_5
      case hyy7_5 => (intro w' hSw; go_simp; try with_reducible rfl)
      try simp only [Act.put, List.setIfInBounds_toArray, List.set_cons_zero, List.set_cons_succ]
      refine wpAnyH_ready (rs := [0, 7]) (by kernel_rfl) (by simp) ?_
      refine AllReadyH.cons at0 (fun K hK => ?_) (AllReadyH.cons (atS5 (atS (atS at0))) (fun K hK => ?_) AllReadyH.nil)
      · skip
        have hbx0 := hst.out.cell
        go_simp
        refine hK.out _ _ hHeld (fun hHeld => ?_)
        clear hK K
        try simp only [Act.put, List.setIfInBounds_toArray, List.set_cons_zero, List.set_cons_succ]
        refine wpAnyH_ready (rs := [7]) (by kernel_rfl) (by simp) ?_
        refine AllReadyH.cons (atS5 (atS (atS at0))) (fun K hK => ?_) AllReadyH.nil
        go_simp
        refine (write_step (lo := lo) (by have := HLO.out; have := hst.out.lt; omega) d at_ words (first + i) HC8.out.1 (Nat.le_refl 8) (by unfold maxLen; omega) HQ.out HQQ.out HC8.out.2).mono ?_
        rintro e w7a ⟨r7, a7, b7, rfl, hs7, hb7⟩
        have HS7 := hid hs7
        have HQQ := hid ((hb7.block _ (row_lt HQQ.out)).trans HQQ.out)
        have hst := hid (hst.out.on hb7)
        clear hs7
        go_wp2_with fail
        refine hK.out _ _ (hHeld.on hb7) (fun hHeld => ?_)
        clear hK K
        try simp only [Act.put, List.setIfInBounds_toArray, List.set_cons_zero, List.set_cons_succ]
        refine wpAnyH_ready (rs := [8]) (by kernel_rfl) (by simp) ?_
        refine AllReadyH.cons (atS5 (atS (atS (atS at0)))) (fun K hK => ?_) AllReadyH.nil
        go_simp
        obtain ⟨w8a, hw12⟩ : ∃ w', w' = w7a.alloc (.cells #[.func (.func 85) #[] #[.pointer (some ⟨r7, 0, none⟩), .pointer (some ⟨a7, 0, none⟩), .pointer (some ⟨b7, 0, none⟩)]] 1) := ⟨_, rfl⟩
        obtain ⟨q12, hq12⟩ : ∃ q12, q12 = w7a.heap.size := ⟨_, rfl⟩
        rw [← hw12]
        try rw [← hq12]
        have hb12 : Below w7a.heap.size w7a w8a := by rw [hw12]; exact B1 _ _
        have hc12 : w8a.heap[q12]? = some (.cells #[.func (.func 85) #[] #[.pointer (some ⟨r7, 0, none⟩), .pointer (some ⟨a7, 0, none⟩), .pointer (some ⟨b7, 0, none⟩)]] 1 (0, 0)) := by rw [hw12, hq12]; exact heap_alloc_new _ _
        have HC12 := hid hc12
        have HQQ := hid ((hb12.block _ (row_lt HQQ.out)).trans HQQ.out)
        have HS7 := hid (HS7.out.keep (KeepT.below hb12))
        have hst := hid (hst.out.on hb12)
        clear hc12 hw12 hq12
        refine hK.out _ _ (hHeld.on hb12) (fun hHeld => ?_)
        clear hK K
        try simp only [Act.put, List.setIfInBounds_toArray, List.set_cons_zero, List.set_cons_succ]
        refine wpAnyH_ready (rs := [9]) (by kernel_rfl) (by simp) ?_
        refine AllReadyH.cons (atS5 (atS (atS (atS (atS at0))))) (fun K hK => ?_) AllReadyH.nil
        obtain ⟨v13, w9a, hrun13, ho13, hg13⟩ := run_appF (c := 1) (ss' := [.wr (first + i) ((l.drop (i * 8)).take 8)]) hst.out.ow (q := q12) (m := 1) (news := [.func (.func 85) #[] #[.pointer (some ⟨r7, 0, none⟩), .pointer (some ⟨a7, 0, none⟩), .pointer (some ⟨b7, 0, none⟩)]]) rfl (by intro j u hj; rw [row_cell HC12.out]; match j, hj with | 0, h => exact h) (by intro u hu; simp at hu; rcases hu with rfl; rfl) (by rw [saveP_length]; exact HIM.out) hst.out.az rfl (by intro i s hi; match i, hi with | 0, h => (cases h; exact ⟨_, rfl, HS7.out⟩)) 43
        obtain ⟨n13, A13, cc13, rfl⟩ : ∃ n13 A13 cc13, v13 = .slice A13 n13 cc13 := by obtain ⟨A, c, h⟩ := ho13.shape; exact ⟨_, A, c, h⟩
        refine step_appF (by rfl) (.tmp 17) (.tmp 25) (by rfl) (by rfl) (by rfl) hrun13 ?_
        have hst5 := hst.out.app hg13 ho13
        have HS5 := hid hst5.1
        have hc13 := hst5.2.1
        have hf13 := hst5.2.2
        clear hst5
        refine hK.out _ _ (hHeld.by hg13 (OB.out _ _ _ _ _ _ hst.out.ow (C1.out _ hHeld) (by decide)) (OB.out _ _ _ _ _ _ hst.out.ow (C2.out _ hHeld) (by decide))) (fun hHeld => ?_)
        clear hK K
        try simp only [Act.put, List.setIfInBounds_toArray, List.set_cons_zero, List.set_cons_succ]
        refine wpAnyH_ready (rs := [10]) (by kernel_rfl) (by simp) ?_
        refine AllReadyH.cons (atS5 (atS5 at0)) (fun K hK => ?_) AllReadyH.nil
        go_simp
        go_simp
        go_wp2_with fail
        refine hK.out _ _ (hHeld.by (grownBy_setCell' _ _ _) (by simpa using hnb) (by simpa using hnb2)) (fun hHeld => ?_)
        clear hK K
        try simp only [Act.put]
        refine wpAnyH_done (by kernel_rfl) ?_ _
        refine NoPanic.normal ?_
        refine Only.normal ?_
        have hrr := C2.out _ hHeld
        have hff := C1.out _ hHeld
        gi_wp2_with (fail)
        refine ⟨HS5.out.kf, HS5.out.kc, ?_⟩
        rw [HI1.out]
        refine ⟨⟨_, HS5.out.bo, ?_⟩, ⟨hrr, hff, ?_⟩, HS5.out.bl, HS5.out.az⟩
        · rw [saveP_succ]
          exact HS5.out.ow
        · exact HS5.out.kc.2 _ _ _ HW2.out (by decide) (by decide) (by decide)
      · skip
        go_simp
        refine (write_step (lo := lo) (by have := HLO.out; have := hst.out.lt; omega) d at_ words (first + i) HC8.out.1 (Nat.le_refl 8) (by unfold maxLen; omega) HQ.out HQQ.out HC8.out.2).mono ?_
        rintro e w7a ⟨r7, a7, b7, rfl, hs7, hb7⟩
        have HS7 := hid hs7
        have HQQ := hid ((hb7.block _ (row_lt HQQ.out)).trans HQQ.out)
        have hst := hid (hst.out.on hb7)
        clear hs7
        go_wp2_with fail
        refine hK.out _ _ (hHeld.on hb7) (fun hHeld => ?_)
        clear hK K
        try simp only [Act.put, List.setIfInBounds_toArray, List.set_cons_zero, List.set_cons_succ]
        refine wpAnyH_ready (rs := [0, 8]) (by kernel_rfl) (by simp) ?_
        refine AllReadyH.cons at0 (fun K hK => ?_) (AllReadyH.cons (atS5 (atS (atS (atS at0)))) (fun K hK => ?_) AllReadyH.nil)
        · skip
          have hbx0 := hst.out.cell
          go_simp
          refine hK.out _ _ hHeld (fun hHeld => ?_)
          clear hK K
          try simp only [Act.put, List.setIfInBounds_toArray, List.set_cons_zero, List.set_cons_succ]
          refine wpAnyH_ready (rs := [8]) (by kernel_rfl) (by simp) ?_
          refine AllReadyH.cons (atS5 (atS (atS (atS at0)))) (fun K hK => ?_) AllReadyH.nil
          go_simp
          obtain ⟨w8a, hw12⟩ : ∃ w', w' = w7a.alloc (.cells #[.func (.func 85) #[] #[.pointer (some ⟨r7, 0, none⟩), .pointer (some ⟨a7, 0, none⟩), .pointer (some ⟨b7, 0, none⟩)]] 1) := ⟨_, rfl⟩
          obtain ⟨q12, hq12⟩ : ∃ q12, q12 = w7a.heap.size := ⟨_, rfl⟩
          rw [← hw12]
          try rw [← hq12]
          have hb12 : Below w7a.heap.size w7a w8a := by rw [hw12]; exact B1 _ _
          have hc12 : w8a.heap[q12]? = some (.cells #[.func (.func 85) #[] #[.pointer (some ⟨r7, 0, none⟩), .pointer (some ⟨a7, 0, none⟩), .pointer (some ⟨b7, 0, none⟩)]] 1 (0, 0)) := by rw [hw12, hq12]; exact heap_alloc_new _ _
          have HC12 := hid hc12
          have HQQ := hid ((hb12.block _ (row_lt HQQ.out)).trans HQQ.out)
          have HS7 := hid (HS7.out.keep (KeepT.below hb12))
          have hst := hid (hst.out.on hb12)
          clear hc12 hw12 hq12
          refine hK.out _ _ (hHeld.on hb12) (fun hHeld => ?_)
          clear hK K
          try simp only [Act.put, List.setIfInBounds_toArray, List.set_cons_zero, List.set_cons_succ]
          refine wpAnyH_ready (rs := [9]) (by kernel_rfl) (by simp) ?_
          refine AllReadyH.cons (atS5 (atS (atS (atS (atS at0))))) (fun K hK => ?_) AllReadyH.nil
          obtain ⟨v13, w9a, hrun13, ho13, hg13⟩ := run_appF (c := 1) (ss' := [.wr (first + i) ((l.drop (i * 8)).take 8)]) hst.out.ow (q := q12) (m := 1) (news := [.func (.func 85) #[] #[.pointer (some ⟨r7, 0, none⟩), .pointer (some ⟨a7, 0, none⟩), .pointer (some ⟨b7, 0, none⟩)]]) rfl (by intro j u hj; rw [row_cell HC12.out]; match j, hj with | 0, h => exact h) (by intro u hu; simp at hu; rcases hu with rfl; rfl) (by rw [saveP_length]; exact HIM.out) hst.out.az rfl (by intro i s hi; match i, hi with | 0, h => (cases h; exact ⟨_, rfl, HS7.out⟩)) 43
          obtain ⟨n13, A13, cc13, rfl⟩ : ∃ n13 A13 cc13, v13 = .slice A13 n13 cc13 := by obtain ⟨A, c, h⟩ := ho13.shape; exact ⟨_, A, c, h⟩
          refine step_appF (by rfl) (.tmp 17) (.tmp 25) (by rfl) (by rfl) (by rfl) hrun13 ?_
          have hst5 := hst.out.app hg13 ho13
          have HS5 := hid hst5.1
          have hc13 := hst5.2.1
          have hf13 := hst5.2.2
          clear hst5
          refine hK.out _ _ (hHeld.by hg13 (OB.out _ _ _ _ _ _ hst.out.ow (C1.out _ hHeld) (by decide)) (OB.out _ _ _ _ _ _ hst.out.ow (C2.out _ hHeld) (by decide))) (fun hHeld => ?_)
          clear hK K
          try simp only [Act.put, List.setIfInBounds_toArray, List.set_cons_zero, List.set_cons_succ]
          refine wpAnyH_ready (rs := [10]) (by kernel_rfl) (by simp) ?_
          refine AllReadyH.cons (atS5 (atS5 at0)) (fun K hK => ?_) AllReadyH.nil
          go_simp
          go_simp
          go_wp2_with fail
          refine hK.out _ _ (hHeld.by (grownBy_setCell' _ _ _) (by simpa using hnb) (by simpa using hnb2)) (fun hHeld => ?_)
          clear hK K
          try simp only [Act.put]
          refine wpAnyH_done (by kernel_rfl) ?_ _
          refine NoPanic.normal ?_
          refine Only.normal ?_
          have hrr := C2.out _ hHeld
          have hff := C1.out _ hHeld
          gi_wp2_with (fail)
          refine ⟨HS5.out.kf, HS5.out.kc, ?_⟩
          rw [HI1.out]
          refine ⟨⟨_, HS5.out.bo, ?_⟩, ⟨hrr, hff, ?_⟩, HS5.out.bl, HS5.out.az⟩
          · rw [saveP_succ]
            exact HS5.out.ow
          · exact HS5.out.kc.2 _ _ _ HW2.out (by decide) (by decide) (by decide)
        · skip
          go_simp
          obtain ⟨w8a, hw12⟩ : ∃ w', w' = w7a.alloc (.cells #[.func (.func 85) #[] #[.pointer (some ⟨r7, 0, none⟩), .pointer (some ⟨a7, 0, none⟩), .pointer (some ⟨b7, 0, none⟩)]] 1) := ⟨_, rfl⟩
          obtain ⟨q12, hq12⟩ : ∃ q12, q12 = w7a.heap.size := ⟨_, rfl⟩
          rw [← hw12]
          try rw [← hq12]
          have hb12 : Below w7a.heap.size w7a w8a := by rw [hw12]; exact B1 _ _
          have hc12 : w8a.heap[q12]? = some (.cells #[.func (.func 85) #[] #[.pointer (some ⟨r7, 0, none⟩), .pointer (some ⟨a7, 0, none⟩), .pointer (some ⟨b7, 0, none⟩)]] 1 (0, 0)) := by rw [hw12, hq12]; exact heap_alloc_new _ _
          have HC12 := hid hc12
          have HQQ := hid ((hb12.block _ (row_lt HQQ.out)).trans HQQ.out)
          have HS7 := hid (HS7.out.keep (KeepT.below hb12))
          have hst := hid (hst.out.on hb12)
          clear hc12 hw12 hq12
          refine hK.out _ _ (hHeld.on hb12) (fun hHeld => ?_)
          clear hK K
          try simp only [Act.put, List.setIfInBounds_toArray, List.set_cons_zero, List.set_cons_succ]
          refine wpAnyH_ready (rs := [0]) (by kernel_rfl) (by simp) ?_
          refine AllReadyH.cons at0 (fun K hK => ?_) AllReadyH.nil
          have hbx0 := hst.out.cell
          go_simp
          refine hK.out _ _ hHeld (fun hHeld => ?_)
          clear hK K
          try simp only [Act.put, List.setIfInBounds_toArray, List.set_cons_zero, List.set_cons_succ]
          refine wpAnyH_ready (rs := [9]) (by kernel_rfl) (by simp) ?_
          refine AllReadyH.cons (atS5 (atS (atS (atS (atS at0))))) (fun K hK => ?_) AllReadyH.nil
          obtain ⟨v13, w9a, hrun13, ho13, hg13⟩ := run_appF (c := 1) (ss' := [.wr (first + i) ((l.drop (i * 8)).take 8)]) hst.out.ow (q := q12) (m := 1) (news := [.func (.func 85) #[] #[.pointer (some ⟨r7, 0, none⟩), .pointer (some ⟨a7, 0, none⟩), .pointer (some ⟨b7, 0, none⟩)]]) rfl (by intro j u hj; rw [row_cell HC12.out]; match j, hj with | 0, h => exact h) (by intro u hu; simp at hu; rcases hu with rfl; rfl) (by rw [saveP_length]; exact HIM.out) hst.out.az rfl (by intro i s hi; match i, hi with | 0, h => (cases h; exact ⟨_, rfl, HS7.out⟩)) 43
          obtain ⟨n13, A13, cc13, rfl⟩ : ∃ n13 A13 cc13, v13 = .slice A13 n13 cc13 := by obtain ⟨A, c, h⟩ := ho13.shape; exact ⟨_, A, c, h⟩
          refine step_appF (by rfl) (.tmp 17) (.tmp 25) (by rfl) (by rfl) (by rfl) hrun13 ?_
          have hst5 := hst.out.app hg13 ho13
          have HS5 := hid hst5.1
          have hc13 := hst5.2.1
          have hf13 := hst5.2.2
          clear hst5
          refine hK.out _ _ (hHeld.by hg13 (OB.out _ _ _ _ _ _ hst.out.ow (C1.out _ hHeld) (by decide)) (OB.out _ _ _ _ _ _ hst.out.ow (C2.out _ hHeld) (by decide))) (fun hHeld => ?_)
          clear hK K
          try simp only [Act.put, List.setIfInBounds_toArray, List.set_cons_zero, List.set_cons_succ]
          refine wpAnyH_ready (rs := [10]) (by kernel_rfl) (by simp) ?_
          refine AllReadyH.cons (atS5 (atS5 at0)) (fun K hK => ?_) AllReadyH.nil
          go_simp
          go_simp
          go_wp2_with fail
          refine hK.out _ _ (hHeld.by (grownBy_setCell' _ _ _) (by simpa using hnb) (by simpa using hnb2)) (fun hHeld => ?_)
          clear hK K
          try simp only [Act.put]
          refine wpAnyH_done (by kernel_rfl) ?_ _
          refine NoPanic.normal ?_
          refine Only.normal ?_
          have hrr := C2.out _ hHeld
          have hff := C1.out _ hHeld
          gi_wp2_with (fail)
          refine ⟨HS5.out.kf, HS5.out.kc, ?_⟩
          rw [HI1.out]
          refine ⟨⟨_, HS5.out.bo, ?_⟩, ⟨hrr, hff, ?_⟩, HS5.out.bl, HS5.out.az⟩
          · rw [saveP_succ]
            exact HS5.out.ow
          · exact HS5.out.kc.2 _ _ _ HW2.out (by decide) (by decide) (by decide)
  · rintro D W1 hD hi1 hdf
    rw [HI1.out] at hi1
    obtain ⟨⟨v, hv1, hv2⟩, ⟨hv3, hv4, hv5⟩, hb1, hz1⟩ := hi1
    rw [List.length_range] at hv2
    obtain ⟨A, cc, rfl⟩ := hv2.shape
    rw [saveP_length] at hv1 hv2
    have HV1 := hid hv1; have HV2 := hid hv2; have HV3 := hid hv3; have HV4 := hid hv4
    have HBB : Hid (bx < W0.heap.size ∧ rb < W0.heap.size ∧ fx < W0.heap.size) := by have := HBX.out; have := HRB.out; have := HFX.out; have := HS0.out; exact ⟨by omega, by omega, by omega⟩
    have HDD := hid hdf
    clear hv1 hv2 hv3 hv4 hv5 y0 y1 y2 y3 y4
    gi_wp2_with (fail)
    refine wpIn_wide.2 ?_
    refine reg_beginB (W0.heap.size) (by kernel_rfl) (fun w0z hh0z hx0z hHeld => ?_)
    have c1 : ∀ w', ExB W0.heap.size w0z w' → w'.cell? ⟨bx, 0, none⟩ = some (.slice A m cc) := fun w' h => by rw [row_cell ((Below.block h _ HBB.out.1).trans (by rw [hh0z.out]; exact HV1.out))]; rfl
    have c2 : ∀ w', ExB W0.heap.size w0z w' → w'.cell? ⟨fx, 0, none⟩ = some (.int .i64 first) := fun w' h => by rw [row_cell ((Below.block h _ HBB.out.2.2).trans (by rw [hh0z.out]; exact HV4.out))]; rfl
    have c3 : ∀ w', ExB W0.heap.size w0z w' → w'.cell? ⟨rb, 0, none⟩ = some (.pointer (some ⟨d, 0, none⟩)) := fun w' h => by rw [row_cell ((Below.block h _ HBB.out.2.1).trans (by rw [hh0z.out]; exact HV3.out))]; rfl
    have c4 : ∀ w', ExB W0.heap.size w0z w' → w'.cell? ⟨rb, 1, none⟩ = some (.int .i64 at_) := fun w' h => by rw [row_cell ((Below.block h _ HBB.out.2.1).trans (by rw [hh0z.out]; exact HV3.out))]; rfl
    have c5 : ∀ w', ExB W0.heap.size w0z w' → w'.cell? ⟨rb, 2, none⟩ = some (.int .i64 words) := fun w' h => by rw [row_cell ((Below.block h _ HBB.out.2.1).trans (by rw [hh0z.out]; exact HV3.out))]; rfl
    have hbz : Below W1.heap.size W1 w0z := ⟨by rw [show w0z.os = W1.os from Below.os hx0z], by rw [show w0z.tape = W1.tape from Below.tape hx0z], by rw [show w0z.output = W1.output from Below.output hx0z], by rw [hh0z.out]; exact Nat.le_refl _, fun i _ => by rw [hh0z.out]⟩
    have HZ := hid hbz
    clear hbz
    refine reg_takeB 0 (v := ?vb0) at0 (by kernel_rfl) (by kernel_rfl) (by kernel_rfl) (by rfl) ?hyb0 hHeld ?restb0
    case hyb0 => (intro w' hSw; go_simp; try with_reducible rfl)
    try simp only [Act.put, List.setIfInBounds_toArray, List.set_cons_zero, List.set_cons_succ]
    refine reg_takeB 1 (v := ?vb1) (atS at0) (by kernel_rfl) (by kernel_rfl) (by kernel_rfl) (by rfl) ?hyb1 hHeld ?restb1
    case hyb1 => (intro w' hSw; go_simp; try with_reducible rfl)
    try simp only [Act.put, List.setIfInBounds_toArray, List.set_cons_zero, List.set_cons_succ]
    refine reg_takeB 2 (v := ?vb2) (atS (atS at0)) (by kernel_rfl) (by kernel_rfl) (by kernel_rfl) (by rfl) ?hyb2 hHeld ?restb2
    case hyb2 => (intro w' hSw; go_simp; try with_reducible rfl)
    try simp only [Act.put, List.setIfInBounds_toArray, List.set_cons_zero, List.set_cons_succ]
    refine reg_takeB 3 (v := ?vb3) (atS (atS (atS at0))) (by kernel_rfl) (by kernel_rfl) (by kernel_rfl) (by rfl) ?hyb3 hHeld ?restb3
    case hyb3 => (intro w' hSw; go_simp; try with_reducible rfl)
    try simp only [Act.put, List.setIfInBounds_toArray, List.set_cons_zero, List.set_cons_succ]
    refine reg_takeB 4 (v := ?vb4) (atS (atS (atS (atS at0)))) (by kernel_rfl) (by kernel_rfl) (by kernel_rfl) (by rfl) ?hyb4 hHeld ?restb4
    case hyb4 => (intro w' hSw; go_simp; try with_reducible rfl)
    try simp only [Act.put, List.setIfInBounds_toArray, List.set_cons_zero, List.set_cons_succ]
    refine reg_takeB 6 (v := ?vb6) (atS5 (atS at0)) (by kernel_rfl) (by kernel_rfl) (by kernel_rfl) (by rfl) ?hyb6 hHeld ?restb6
    case hyb6 => (intro w' hSw; go_simp; try with_reducible rfl)
    try simp only [Act.put, List.setIfInBounds_toArray, List.set_cons_zero, List.set_cons_succ]
    refine reg_takeB 7 (v := ?vb7) (atS5 (atS (atS at0))) (by kernel_rfl) (by kernel_rfl) (by kernel_rfl) (by rfl) ?hyb7 hHeld ?restb7
    case hyb7 => (intro w' hSw; go_simp; try with_reducible rfl)
    try simp only [Act.put, List.setIfInBounds_toArray, List.set_cons_zero, List.set_cons_succ]
    refine reg_takeB 8 (v := ?vb8) (atS5 (atS (atS (atS at0)))) (by kernel_rfl) (by kernel_rfl) (by kernel_rfl) (by rfl) ?hyb8 hHeld ?restb8
    case hyb8 => (intro w' hSw; go_simp; try with_reducible rfl)
    try simp only [Act.put, List.setIfInBounds_toArray, List.set_cons_zero, List.set_cons_succ]
    refine wpAnyH_ready (rs := [5]) (by kernel_rfl) (by simp) ?_
    refine AllReadyH.cons (atS5 at0) (fun K hK => ?_) AllReadyH.nil
    go_simp
    refine (flush_step (lo := lo) (by have := HLO.out; have := hb1.size; have := HZ.out.size; omega) d at_ words first m).mono ?_
    rintro e w5 ⟨r5, a5, b5, rfl, hs5, hb5⟩
    have HS5 := hid hs5
    have hz5 : W0.heap.size ≤ w5.heap.size := by have := hb5.size; have := HZ.out.size; omega
    clear hs5
    go_wp2_with fail
    refine hK.out _ _ (Below.trans hHeld (hb5.mono (by have := HZ.out.size; omega))) (fun hHeld => ?_)
    clear hK K
    try simp only [Act.put, List.setIfInBounds_toArray, List.set_cons_zero, List.set_cons_succ]
    refine wpAnyH_ready (rs := [9]) (by kernel_rfl) (by simp) ?_
    refine AllReadyH.cons (atS5 (atS (atS (atS (atS at0))))) (fun K hK => ?_) AllReadyH.nil
    go_simp
    obtain ⟨w9, hw9⟩ : ∃ w', w' = w5.alloc (.cells #[.func (.func 86) #[] #[.pointer (some ⟨r5, 0, none⟩), .pointer (some ⟨a5, 0, none⟩), .pointer (some ⟨b5, 0, none⟩)], .func (.func 53) #[.pointer (some ⟨d, 0, none⟩)] #[]] 1) := ⟨_, rfl⟩
    obtain ⟨q9, hq9⟩ : ∃ q9, q9 = w5.heap.size := ⟨_, rfl⟩
    rw [← hw9]
    try rw [← hq9]
    have hb9 : Below w5.heap.size w5 w9 := by rw [hw9]; exact B1 _ _
    have hc9 : w9.heap[q9]? = some (.cells #[.func (.func 86) #[] #[.pointer (some ⟨r5, 0, none⟩), .pointer (some ⟨a5, 0, none⟩), .pointer (some ⟨b5, 0, none⟩)], .func (.func 53) #[.pointer (some ⟨d, 0, none⟩)] #[]] 1 (0, 0)) := by rw [hw9, hq9]; exact heap_alloc_new _ _
    have HC9 := hid hc9
    have HS5 := hid (HS5.out.keep (KeepT.below hb9))
    have HV9 := hid ((HV2.out.on (Bt HZ.out hb5)).on hb9)
    clear hc9 hw9 hq9
    refine hK.out _ _ (Below.trans hHeld (hb9.mono hz5)) (fun hHeld => ?_)
    clear hK K
    try simp only [Act.put, List.setIfInBounds_toArray, List.set_cons_zero, List.set_cons_succ]
    refine wpAnyH_ready (rs := [10]) (by kernel_rfl) (by simp) ?_
    refine AllReadyH.cons (atS5 (atS5 at0)) (fun K hK => ?_) AllReadyH.nil
    obtain ⟨v13, w10, hrun13, ho13, hg13⟩ := run_appF (c := 2) (ss' := [.fl first m, .fe]) HV9.out (q := q9) (m := 2) (news := [.func (.func 86) #[] #[.pointer (some ⟨r5, 0, none⟩), .pointer (some ⟨a5, 0, none⟩), .pointer (some ⟨b5, 0, none⟩)], .func (.func 53) #[.pointer (some ⟨d, 0, none⟩)] #[]]) rfl (by intro j u hj; rw [row_cell HC9.out]; match j, hj with | 0, h => exact h | 1, h => exact h) (by intro u hu; simp at hu; rcases hu with rfl | rfl <;> rfl) (by rw [saveP_length]; omega) (by have := hb9.size; omega) rfl (by intro i s hi; match i, hi with | 0, h => (cases h; exact ⟨_, rfl, HS5.out⟩) | 1, h => (cases h; exact ⟨_, rfl, rfl⟩)) 43
    refine step_appF (by rfl) (.tmp 27) (.tmp 36) (by rfl) (by rfl) (by rfl) hrun13 ?_
    have HG := hid hg13; have HO := hid ho13
    refine hK.out _ _ (Below.trans hHeld ((Below.refl _ w9).grown hg13 (by have := hb9.size; omega) (fun j hj => (HV9.out.row j hj).1))) (fun hHeld => ?_)
    clear hK K
    try simp only [Act.put, List.setIfInBounds_toArray, List.set_cons_zero, List.set_cons_succ]
    refine reg_takeB 11 (v := ?vb11) (atS5 (atS5 (atS at0))) (by kernel_rfl) (by kernel_rfl) (by kernel_rfl) (by rfl) ?hyb11 hHeld ?restb11
    case hyb11 => (intro w' hSw; go_simp; try with_reducible rfl)
    try simp only [Act.put, List.setIfInBounds_toArray, List.set_cons_zero, List.set_cons_succ]
    refine wpAnyH_done (by kernel_rfl) ?_ _
    refine NoPanic.normal ?_
    have hb10 : Below w.heap.size w w10 := (hb1.trans ((Bt (Bt HZ.out hb5) hb9).mono hb1.size)).grown HG.out (by have := hb1.size; have := (Bt (Bt HZ.out hb5) hb9).size; omega) (fun j hj => by have := (HV9.out.row j hj).1; have := HS0.out; omega)
    have hdf9 : w9.heap[D]? = some (.deferred (some [])) := ((Bt (Bt HZ.out hb5) hb9).block D (Array.getElem?_eq_some_iff.1 HDD.out).1).trans HDD.out
    have hdf3 : w10.heap[D]? = some (.deferred (some [])) := (HG.out.block D (Array.getElem?_eq_some_iff.1 hdf9).1 (fun e => by
      obtain ⟨_, cs, hc⟩ := HV9.out.row D e.symm; rw [hc] at hdf9; cases hdf9)).trans hdf9
    gi_wp2_with (fail)
    refine ⟨by simp, .inl ⟨_, _, rfl, run_takeDeferred hdf3, ?_⟩⟩
    refine ⟨_, results_tmp rfl _ _ _, v13, rfl, ?_, hb10.trans (belowK_b (w := w) (Nat.le_refl _) _ D _ _ (by have := HS0.out; omega) hdf3 rfl rfl)⟩
    have hm8 : l.length / 8 = m := by rw [← HN.out, HL.out]; omega
    unfold saveS
    rw [hm8]
    exact (HO.out.non (grownBy_putObj' w10 D (.deferred none)) (fun r e => by cases e; exact ⟨_, hdf3, rfl⟩)).less (by have := HS0.out; omega)
  · rintro D c k W1 hD hk hi1 hdf
    exact hi1.elim
end Go.Proofs.YteggkojlpgkhbaaGreat
