/-
  Change of a catalogue.
-/
import Derived.Test.YtaegencmnmjgbaaGreatM52
import Derived.Test.YtaegencmnmjgbaaGreatM53

namespace Go.Proofs.YtaegencmnmjgbaaGreat
open Go.RowKit Go.Maps
set_option linter.unusedVariables false
set_option linter.unusedSimpArgs false
section
variable {G : Nat → Prop} {w w' w2 : World}
theorem FrG.setN (h : FrG G w w') {p : Nat} (hp : w.heap.size ≤ p) (i : Nat) (u : Value) : FrG G w (w'.setCell ⟨p, i, none⟩ u) :=
  ⟨h.os, h.tape, h.output, by simp only [size_set]; exact h.size, fun b hb hn => (Below.heap_setCell w' ⟨p, i, none⟩ u b (show b ≠ p by omega)).trans (h.blk b hb hn), h.sl⟩
theorem FrG.grow (h : FrG G w w') {g : Nat} (hg : w'.grownBy w2 (some g)) (hG : G g ∨ w.heap.size ≤ g) : FrG G w w2 :=
  ⟨hg.os.trans h.os, hg.tape.trans h.tape, hg.output.trans h.output, Nat.le_trans h.size hg.size, fun b hb hn => (hg.block b (Nat.lt_of_lt_of_le hb h.size) (fun e => by
    cases e
    rcases hG with e | e
    · exact hn e
    · omega)).trans (h.blk b hb hn), h.sl⟩
theorem CatQ.pre {c mb n B : Nat} {r : List UInt8 → Pl} {l l' : List Ty} (h : Cat w c mb n B r l) (hb : Below w.heap.size w w') (hq : CatQ w' c mb n B r l l' w2) : CatQ w c mb n B r l l' w2 := by
  obtain ⟨r', h1, h2, h3⟩ := hq
  exact ⟨r', h1, (FrG.below hb h.sl).trans h2 (fun b hb => .inl hb), fun b hb' => by
    rcases h3 b hb' with e | e
    · exact .inl e
    · exact .inr (Nat.le_trans hb.size e)⟩
theorem RdF.hbox {A : Option Addr} {n c : Nat} {l : List Fd} (h : RdF w w.heap.size A n c l) {p : Nat} {lo : Int} {A2 : Option Addr} {n2 c2 : Nat} (hp : HBx w p lo A2 n2 c2) (i : Nat) (u : Value) : RdF (w.setCell ⟨p, i, none⟩ u) (w.setCell ⟨p, i, none⟩ u).heap.size A n c l := by
  refine ⟨h.1, h.2.1, h.2.2.1, h.2.2.2.1, fun hn => ?_⟩
  obtain ⟨b, off, e, hlt, hc⟩ := h.2.2.2.2 hn
  have hne : b ≠ p := fun e => by
    subst e
    have h0 := (hc 0 (by have := h.1; omega)).1
    rw [Nat.zero_mul, Nat.add_zero, row_cell hp] at h0
    rcases off with _ | _ | off <;> simp at h0
  have hb := Below.heap_setCell w ⟨p, i, none⟩ u b hne
  refine ⟨b, off, e, by simpa using hlt, fun j hj => ?_⟩
  obtain ⟨c1, c2, c3⟩ := hc j hj
  exact ⟨(cell_cong (p := ⟨b, _, none⟩) hb).trans c1, (cell_cong (p := ⟨b, _, none⟩) hb).trans c2, (cell_cong (p := ⟨b, _, none⟩) hb).trans c3⟩
theorem RdM.hbox {A : Option Addr} {n c : Nat} {l : List Mv} (h : RdM w w.heap.size A n c l) {p : Nat} {lo : Int} {A2 : Option Addr} {n2 c2 : Nat} (hp : HBx w p lo A2 n2 c2) (i : Nat) (u : Value) : RdM (w.setCell ⟨p, i, none⟩ u) (w.setCell ⟨p, i, none⟩ u).heap.size A n c l := by
  refine ⟨h.1, h.2.1, h.2.2.1, h.2.2.2.1, fun hn => ?_⟩
  obtain ⟨b, off, e, hlt, hc⟩ := h.2.2.2.2 hn
  have hne : b ≠ p := fun e => by
    subst e
    have h0 := (hc 0 (by have := h.1; omega)).2.2.2
    rw [Nat.zero_mul, Nat.add_zero, row_cell hp] at h0
    simp at h0
  have hb := Below.heap_setCell w ⟨p, i, none⟩ u b hne
  refine ⟨b, off, e, by simpa using hlt, fun j hj => ?_⟩
  obtain ⟨c1, c2, c3, c4⟩ := hc j hj
  exact ⟨(cell_cong (p := ⟨b, _, none⟩) hb).trans c1, (cell_cong (p := ⟨b, _, none⟩) hb).trans c2, (cell_cong (p := ⟨b, _, none⟩) hb).trans c3, (cell_cong (p := ⟨b, _, none⟩) hb).trans c4⟩
theorem RdT.hbox {v : Value} {T : Tb} (h : RdT w w.heap.size v T) {p : Nat} {lo : Int} {A2 : Option Addr} {n2 c2 : Nat} (hp : HBx w p lo A2 n2 c2) (i : Nat) (u : Value) : RdT (w.setCell ⟨p, i, none⟩ u) (w.setCell ⟨p, i, none⟩ u).heap.size v T := by
  obtain ⟨A, n, c, A2, n2, c2, A3, n3, c3, e, h1, h2, h3⟩ := h
  exact ⟨A, n, c, A2, n2, c2, A3, n3, c3, e, h1.hbox hp i u, h2.hbox hp i u, h3.hbox hp i u⟩
end
theorem Ver.snoc {w : World} {g cap : Nat} {ps : List V3} {q : V3} {t : Ty} {T : Tb} (hok : okTy t) (h : TRow w g cap (ps ++ [q])) (hl : ps.length = t.ts.length + 1)
    (h1 : ∀ (i : Nat) p U, ps[i]? = some p → (verL t)[i]? = some U → RdT w w.heap.size (.agg #[p.1, p.2.1, p.2.2]) U) (h2 : RdT w w.heap.size (.agg #[q.1, q.2.1, q.2.2]) T) : Ver w ⟨g, cap, ps ++ [q]⟩ (moreT t T) := by
  have hne : t.fs ≠ [] := fun e => by have := hok.2.2.2.1; rw [e] at this; simp at this
  refine ⟨h, by show (ps ++ [q]).length = (t.ts ++ [T]).length + 1; simp [hl], fun i p U hp hU => ?_⟩
  rw [verL_more t T hne] at hU
  change (ps ++ [q])[i]? = some p at hp
  by_cases c : i < ps.length
  · rw [List.getElem?_append_left c] at hp
    rw [List.getElem?_append_left (by rw [verL_length]; omega)] at hU
    exact h1 i p U hp hU
  · rw [List.getElem?_append_right (by omega)] at hp
    rw [List.getElem?_append_right (by rw [verL_length]; omega)] at hU
    have e1 : i - ps.length = 0 := by
      by_cases e : i - ps.length = 0
      · exact e
      · rw [List.getElem?_eq_none (by simp; omega)] at hp; cases hp
    rw [e1] at hp
    rw [verL_length, ← hl, e1] at hU
    simp at hp hU
    rw [← hp, ← hU]; exact h2
theorem CatQ.on {w w' w2 : World} {c mb n B : Nat} {r : List UInt8 → Pl} {l l' : List Ty} (h : CatQ w c mb n B r l l' w') (hb : Below w'.heap.size w' w2) : CatQ w c mb n B r l l' w2 := by
  obtain ⟨r', h1, h2, h3⟩ := h; exact ⟨r', h1.on hb, h2.on hb, h3⟩
theorem set_mem_ne {l : List Ty} {k : Nat} {t u x : Ty} (h : rise l) (hk : l[k]? = some t) (hx : x ∈ l.set k u) : x = u ∨ (x ∈ l ∧ x.nm ≠ t.nm) := by
  obtain ⟨i, hi⟩ := List.getElem?_of_mem hx
  rw [List.getElem?_set] at hi
  by_cases c : k = i
  · rw [if_pos c] at hi
    split at hi
    · cases hi; exact .inl rfl
    · cases hi
  · rw [if_neg c] at hi
    obtain ⟨h1, h2⟩ := List.getElem?_eq_some_iff.1 hi
    obtain ⟨h3, h4⟩ := List.getElem?_eq_some_iff.1 hk
    refine .inr ⟨List.mem_of_getElem? hi, ?_⟩
    have hp := List.pairwise_iff_getElem.1 h
    rcases Nat.lt_or_gt_of_ne c with c | c
    · have := hp k i h3 h1 c
      rw [h2, h4] at this; exact fun e => ahead_ne this e.symm
    · have := hp i k h1 h3 c
      rw [h2, h4] at this; exact ahead_ne this
theorem chgS_none {l : List Ty} {nm : List UInt8} {cs : List Ch} (h : atT l nm = none) : chgS l nm cs = (l, 0, 90) := by unfold chgS; rw [findT_none.2 h]
theorem chgS_some {l : List Ty} {nm : List UInt8} {cs : List Ch} {t : Ty} (h : atT l nm = some t) : ∃ k, l[k]? = some t ∧ t.nm = nm ∧
    chgS l nm cs = if 64 ≤ t.hi then (l, 0, 91) else if (all8 t.last cs).2 ≠ 0 then (l, 0, (all8 t.last cs).2) else (l.set k (moreT t (all8 t.last cs).1), t.hi + 1, 0) := by
  cases hf : findT l nm with
  | none => rw [findT_none.1 hf] at h; cases h
  | some k =>
    obtain ⟨u, h1, h2, h3⟩ := findT_at hf
    rw [h] at h3; cases h3
    refine ⟨k, h1, h2, ?_⟩
    unfold chgS
    rw [hf]; dsimp only; rw [h1]
set_option maxRecDepth 20000 in
set_option maxHeartbeats 16000000 in
theorem change_any {w : World} {c mb n B : Nat} {r : List UInt8 → Pl} {l : List Ty} (h : Cat w c mb n B r l) (hn : n ≤ 1000000) (nm : List UInt8) (hk : SK nm) {A : Option Addr} {m cp : Nat} {cs : List Ch} (hcs : RdC w w.heap.size A m cp cs) (hsc : ∀ x ∈ cs, x.to.nm.length ≤ 140737488351232) :
    Calls Tryz.prog 29 #[.pointer (some ⟨c, 0, none⟩), .string (bs nm), .slice A m cp] w fun e w' => e = .returned (.tuple #[.int .i64 (chgS l nm cs).2.1, .int .i64 (chgS l nm cs).2.2]) ∧ CatQ w c mb n B r l (chgS l nm cs).1 w' := by
  have H := hid h; have HCS := hid hcs; have HSC := hid hsc; have HK := hid hk; have HNN := hid hn
  clear h hcs hsc hk hn
  go_enter Tryz.func29, Tryz.ntmps29
  go_wp2_with fail
  refine (has_any H.out nm HK.out).mono ?_
  rintro e w3 ⟨rfl, hb3⟩
  have HB3 := hid hb3
  have HC3 := hid (H.out.on hb3)
  clear hb3
  cases ha : atT l nm with
  | none =>
    have HE := hid (chgS_none (cs := cs) ha)
    clear ha
    go_wp2_with fail
    go_ret2
    exact ⟨by rw [HE.out]; rfl, by rw [HE.out]; exact CatQ.same H.out HB3.out⟩
  | some t =>
    obtain ⟨k, hk, htn, hE⟩ := chgS_some (cs := cs) ha
    have HKK := hid hk; have HA := hid ha
    have HT := hid (HC3.out.ok.2.2 t (List.mem_of_getElem? hk))
    have HV := hid (HC3.out.ver t (List.mem_of_getElem? hk)).1
    rw [htn] at HV
    have hlk := HC3.out.mp.look Tryz.underlying84 (Tryz.zeroValue83 w3) HK.out
    have ecat : (catF l r nm).getD (.agg #[.int .i64 0, .slice none 0 0]) = hV t.lo (some ⟨(r nm).g, 0, none⟩) (t.ts.length + 1) (r nm).cap := by unfold catF; rw [ha]; rfl
    change (Instr.lookup 84 (.map (some mb)) (.string (bs nm)) false).run Tryz.prog w3 = .ok ((catF l r nm).getD (.agg #[.int .i64 0, .slice none 0 0])) w3 at hlk
    rw [ecat] at hlk
    obtain ⟨lo, hlo⟩ : ∃ lo, lo = t.lo := ⟨_, rfl⟩
    obtain ⟨g, hg⟩ : ∃ g, g = (r nm).g := ⟨_, rfl⟩
    obtain ⟨cap, hcap⟩ : ∃ cap, cap = (r nm).cap := ⟨_, rfl⟩
    obtain ⟨vn, hvn⟩ : ∃ vn, vn = t.ts.length + 1 := ⟨_, rfl⟩
    rw [← hlo, ← hg, ← hcap, ← hvn] at hlk
    have HLO := hid hlo; have HG := hid hg; have HCAP := hid hcap; have HVN := hid hvn; have HTN := hid htn; have HE := hid hE
    have h1 : 0 ≤ lo ∧ lo ≤ 1000 := by have a := HT.out.2.1; have b := HT.out.2.2.1; have c := HT.out.2.2.2.1; unfold Ty.hi at b; rw [hlo]; omega
    have h2 : vn ≤ 64 := by have a := HT.out.2.1; have b := HT.out.2.2.1; have c := HT.out.2.2.2.1; unfold Ty.hi at b; omega
    have HHI : Hid (lo + (vn : Int) - 1 = t.hi) := hid (by rw [hlo, hvn]; have c := HT.out.2.2.2.1; unfold Ty.hi; omega)
    have HHIST : Hid (Hist w3 lo (some ⟨g, 0, none⟩) vn cap (some t)) := hid ⟨hlo, by rw [hg, hcap, hvn]; exact HV.out.hist HT.out⟩
    have c0 : w3.cell? ⟨c, 0, none⟩ = some (.map (some mb)) := row_cell HC3.out.box 0
    obtain ⟨w4, hw4⟩ : ∃ w4, w4 = w3.alloc (.cells #[.int .i64 lo, .slice (some ⟨g, 0, none⟩) vn cap] 83) := ⟨_, rfl⟩
    obtain ⟨p, hp⟩ : ∃ p, p = w3.heap.size := ⟨_, rfl⟩
    have HW4 := hid hw4; have HP := hid hp
    have HX4 : Hid (HBx w4 p lo (some ⟨g, 0, none⟩) vn cap) := by rw [hw4, hp]; exact hid (HBx.new _ _ _ _ _)
    have HB4 : Hid (Below w3.heap.size w3 w4) := by rw [hw4]; exact hid (B1 _ _)
    unfold hV at hlk
    clear ha hk htn hE ecat hlo hg hcap hvn hw4 hp
    go_upto_region 4 with fail
    rw [← HW4.out, ← HP.out]
    clear hlk c0
    obtain ⟨x0, x1⟩ := HX4.out.cells
    go_wp2_with fail
    refine (newest_any h1 (by omega)).mono ?_
    rintro e w5 ⟨rfl, hb5⟩
    have HB5 := hid (Bt HB4.out hb5)
    have HX5 := hid (HX4.out.on hb5)
    clear x0 x1 hb5
    obtain ⟨x0, x1⟩ := HX5.out.cells
    rw [HHI.out]
    obtain ⟨hi, hhi⟩ : ∃ hi, hi = t.hi := ⟨_, rfl⟩
    rw [← hhi]
    have HHE := hid hhi
    by_cases hm : hi = 64
    · have t1 : (hi == 64) = true := by simpa using hm
      have HR : Hid (chgS l nm cs = (l, 0, 91)) := hid (by rw [HE.out, if_pos (by omega)])
      clear hm hhi
      go_wp2_with fail
      go_ret2
      exact ⟨by rw [HR.out]; rfl, by rw [HR.out]; exact CatQ.same H.out (Bt HB3.out HB5.out)⟩
    · have t1 : (hi == 64) = false := by simpa using hm
      have HLT : Hid (¬ 64 ≤ t.hi) := hid (by have := HT.out.2.2.1; omega)
      clear hm hhi
      go_wp2_with fail
      refine (hfields_any (HHIST.out.on HB5.out) HT.out).mono ?_
      rintro e w6 ⟨A6, n6, c6, rfl, hr6, hb6⟩
      have HB6 := hid (Bt HB5.out hb6)
      have HR6 := hid hr6
      have HX6 := hid (HX5.out.on hb6)
      clear hr6 hb6
      go_wp2_with fail
      refine (p8all_any HR6.out HT.out.last.2 (HCS.out.on (Bt HB3.out HB6.out)) HSC.out).mono ?_
      rintro e w7 ⟨v7, rfl, hr7, hb7⟩
      obtain ⟨D1, m1, d1, D2, m2, d2, D3, m3, d3, rfl, i1, i2, i3⟩ := hr7
      have HB7 := hid (Bt HB6.out hb7)
      have HX7 := hid (HX6.out.on hb7)
      obtain ⟨T, hT⟩ : ∃ T, T = (all8 t.last cs).1 := ⟨_, rfl⟩
      obtain ⟨E, hE⟩ : ∃ E, E = (all8 t.last cs).2 := ⟨_, rfl⟩
      have HR7 : Hid (RdT w7 w7.heap.size (.agg #[.slice D1 m1 d1, .slice D2 m2 d2, .slice D3 m3 d3]) T) := by rw [hT]; exact hid ⟨_, _, _, _, _, _, _, _, _, rfl, i1, i2, i3⟩
      rw [← hE]
      have HTE := hid hT; have HEE := hid hE
      obtain ⟨w8, hw8⟩ : ∃ w8, w8 = w7.alloc (.cells #[.slice D1 m1 d1, .slice D2 m2 d2, .slice D3 m3 d3] 92) := ⟨_, rfl⟩
      obtain ⟨q, hq⟩ : ∃ q, q = w7.heap.size := ⟨_, rfl⟩
      have HW8 := hid hw8; have HQ := hid hq
      have HX8 : Hid (TBx w8 q (.slice D1 m1 d1) (.slice D2 m2 d2) (.slice D3 m3 d3) 92) := by rw [hw8, hq]; exact hid (tb_new _ _ _ _ _)
      have HB8 : Hid (Below w3.heap.size w3 w8) := by rw [hw8]; exact hid (Ba HB7.out _)
      have HR8 : Hid (RdT w8 w8.heap.size (.agg #[.slice D1 m1 d1, .slice D2 m2 d2, .slice D3 m3 d3]) T) := by rw [hw8]; exact hid (HR7.out.on (B1 _ _))
      have HXP : Hid (HBx w8 p lo (some ⟨g, 0, none⟩) vn cap) := by rw [hw8]; exact hid (HX7.out.on (B1 _ _))
      clear i1 i2 i3 hb7 hT hE hw8 hq
      go_upto_region 7 with fail
      rw [← HW8.out, ← HQ.out]
      clear x0 x1
      by_cases hE0 : E = 0
      · subst hE0
        have HR : Hid (chgS l nm cs = (l.set k (moreT t T), hi + 1, 0)) := hid (by rw [HE.out, if_neg (by have := HLT.out; omega), if_neg (by rw [← HEE.out]; simp), ← HTE.out, ← HHE.out])
        obtain ⟨ps, hps⟩ : ∃ ps, ps = (r nm).ps := ⟨_, rfl⟩
        have hrow3 : TRow w3 g cap ps := by rw [HG.out, HCAP.out, hps]; exact HV.out.row
        have hpl : ps.length = vn := by rw [hps, HV.out.len, HVN.out]
        have hrow8 := hrow3.cong (HB8.out.block _ hrow3.lt)
        obtain ⟨g', cap', w9, hrun, hrow9, hgg, hgr⟩ := run_appTb hrow8 (p := (.slice D1 m1 d1, .slice D2 m2 d2, .slice D3 m3 d3)) ⟨⟨_, _, _, rfl⟩, ⟨_, _, _, rfl⟩, _, _, _, rfl⟩ (by omega) 81
        rw [hpl] at hrun
        have hgp : g < p := by rw [HP.out]; exact hrow3.lt
        have hpa := HXP.out.on (B1 w8 (.cells #[.slice D1 m1 d1, .slice D2 m2 d2, .slice D3 m3 d3] 92))
        have HX9 : Hid (HBx w9 p lo (some ⟨g, 0, none⟩) vn cap) := hid ((hgr.block p (row_lt hpa) (by simp; omega)).trans hpa)
        obtain ⟨w10, hw10⟩ : ∃ w10, w10 = w9.setCell ⟨p, 1, none⟩ (.slice (some ⟨g', 0, none⟩) (vn + 1) cap') := ⟨_, rfl⟩
        have HW10 := hid hw10
        have HX10 : Hid (HBx w10 p lo (some ⟨g', 0, none⟩) (vn + 1) cap') := by rw [hw10]; exact hid (row_set HX9.out 1 _)
        have hf8 : FrG (fun b => b = g) w3 (w8.alloc (.cells #[.slice D1 m1 d1, .slice D2 m2 d2, .slice D3 m3 d3] 92)) := FrG.below (Ba HB8.out _) (fun b e => by rw [e]; exact .inl ⟨_, _, hrow3⟩)
        have hf9 : FrG (fun b => b = g) w3 w9 := hf8.grow hgr (.inl rfl)
        have HF10 : Hid (FrG (fun b => b = g) w3 w10) := by rw [hw10]; exact hid (hf9.setN (by rw [HP.out]; exact Nat.le_refl _) _ _)
        have HN10 : Hid (RdT w10 w10.heap.size (.agg #[.slice D1 m1 d1, .slice D2 m2 d2, .slice D3 m3 d3]) T) := by
          rw [hw10]
          exact hid (((HR8.out.on (B1 _ _)).fr (FrG.grown hgr (.inl ⟨_, _, hrow8.cong ((B1 w8 _).block _ hrow8.lt)⟩))).hbox HX9.out 1 _)
        have hgne : g' ≠ p := by
          rcases hgg with e | e
          · omega
          · have := row_lt HXP.out; omega
        have HROW : Hid (TRow w10 g' cap' (ps ++ [(.slice D1 m1 d1, .slice D2 m2 d2, .slice D3 m3 d3)])) := by
          rw [hw10]; exact hid (hrow9.cong (Below.heap_setCell w9 ⟨p, 1, none⟩ _ g' hgne))
        have HGG : Hid (g' = g ∨ w3.heap.size ≤ g') := hid (by
          rcases hgg with e | e
          · exact .inl e
          · exact .inr (Nat.le_trans HB8.out.size e))
        have HRUN := hid hrun
        have HPS := hid hps; have HPL := hid hpl
        clear hrow8 hrow9 hgg hgr hpa hf8 hf9 hgne hrun hw10 hps
        have hgm : g ≠ mb := fun e => by
          obtain ⟨es, cl, hb⟩ := HC3.out.mp.isMap
          obtain ⟨_, _, cur, hg, _⟩ := hrow3
          rw [e, hb] at hg; cases hg
        have HMS : Hid (Ms w10 mb n (catF l r)) := hid (HC3.out.mp.cong (HF10.out.blk mb HC3.out.mp.lt (fun e => hgm e.symm)))
        have HCB : Hid (w10.heap[c]? = some (.cells #[.map (some mb)] 86 (0, 0))) := hid ((HF10.out.cellB (i := 0) (row_cell HC3.out.box 0) (fun ⟨_, _, _, e⟩ => by cases e)).trans HC3.out.box)
        have HNE : Hid (c ≠ mb ∧ p ≠ mb) := hid ⟨HC3.out.ne, by have := HC3.out.mp.lt; have := HP.out; omega⟩
        have HMG := hid hgm
        clear hrow3 hgm
        obtain ⟨x0, x1⟩ := HXP.out.cells
        obtain ⟨y0, y1, y2⟩ := HX8.out.cells
        obtain ⟨z0, z1⟩ := HX9.out.cells
        have f1 := HX9.out.frozen 1
        go_upto_region 10 with (at_builtin; refine wpList_appG rfl _ _ rfl rfl rfl HRUN.out ?_)
        rw [← HW10.out]
        clear x0 x1 y0 y1 y2 z0 z1 f1
        refine reg_beginO (some mb) (by kernel_rfl) (fun w0a hh0a hx0a hHeld => ?_)
        have HB0a := hid (bH hx0a hh0a.out)
        have HM0a : Hid (Ms w0a mb n (catF l r)) := hid (HMS.out.cong (by rw [hh0a.out]))
        have hcx : ∀ w', ExO (some mb) w0a w' → w'.cell? ⟨c, 0, none⟩ = some (.map (some mb)) := fun w' hx => row_cell ((hx.block c (by rw [hh0a.out]; exact row_lt HCB.out) (by have := HNE.out.1; simp; exact this)).trans (by rw [hh0a.out]; exact HCB.out)) 0
        have hpx : ∀ w', ExO (some mb) w0a w' → HBx w' p lo (some ⟨g', 0, none⟩) (vn + 1) cap' := fun w' hx => (hx.block p (by rw [hh0a.out]; exact row_lt HX10.out) (by have := HNE.out.2; simp; exact this)).trans (by rw [hh0a.out]; exact HX10.out)
        have hp1 := fun w' (hx : ExO (some mb) w0a w') => run_loadHB (hpx w' hx)
        have hp2 := fun w' (hx : ExO (some mb) w0a w') => (hpx w' hx).cells.1
        have hp3 := fun w' (hx : ExO (some mb) w0a w') => (hpx w' hx).cells.2
        obtain ⟨w11, hrun11, hm11, ht11⟩ := HM0a.out.store Tryz.underlying84 (by have := HNN.out; unfold maxLen; omega) HK.out (hV lo (some ⟨g', 0, none⟩) (vn + 1) cap')
        have hg11 : ExO (some mb) w0a w11 := ht11.grown
        have HPX := hid hpx
        clear hpx
        refine reg_takeO 0 (v := ?vb0) at0 (by kernel_rfl) (by kernel_rfl) (by kernel_rfl) (by rfl) ?hyb0 hHeld ?restb0
        case hyb0 => (intro w' hSw; go_simp; try with_reducible rfl)
        try simp only [Act.put, List.setIfInBounds_toArray, List.set_cons_zero, List.set_cons_succ]
        refine reg_takeO 1 (v := ?vb1) (atS at0) (by kernel_rfl) (by kernel_rfl) (by kernel_rfl) (by rfl) ?hyb1 hHeld ?restb1
        case hyb1 => (intro w' hSw; go_simp; try with_reducible rfl)
        try simp only [Act.put, List.setIfInBounds_toArray, List.set_cons_zero, List.set_cons_succ]
        refine reg_takeO 2 (v := ?vb2) (atS (atS at0)) (by kernel_rfl) (by kernel_rfl) (by kernel_rfl) (by rfl) ?hyb2 hHeld ?restb2
        case hyb2 => (intro w' hSw; go_simp; try with_reducible rfl)
        try simp only [Act.put, List.setIfInBounds_toArray, List.set_cons_zero, List.set_cons_succ]
        refine reg_takeO 3 (v := ?vb3) (atS (atS (atS at0))) (by kernel_rfl) (by kernel_rfl) (by kernel_rfl) (by rfl) ?hyb3 hHeld ?restb3
        case hyb3 => (intro w' hSw; go_simp; try with_reducible rfl)
        try simp only [Act.put, List.setIfInBounds_toArray, List.set_cons_zero, List.set_cons_succ]
        refine reg_takeO 4 (v := ?vb4) (atS (atS (atS (atS at0)))) (by kernel_rfl) (by kernel_rfl) (by kernel_rfl) (by rfl) ?hyb4 hHeld ?restb4
        case hyb4 => (intro w' hSw; go_simp; try with_reducible rfl)
        try simp only [Act.put, List.setIfInBounds_toArray, List.set_cons_zero, List.set_cons_succ]
        refine reg_takeO 5 (v := ?vb5) (atS5 at0) (by kernel_rfl) (by kernel_rfl) (by kernel_rfl) (by rfl) ?hyb5 hHeld ?restb5
        case hyb5 => (intro w' hSw; go_simp; try with_reducible rfl)
        try simp only [Act.put, List.setIfInBounds_toArray, List.set_cons_zero, List.set_cons_succ]
        refine wpAnyH_ready (rs := [6]) (by kernel_rfl) (by simp) ?_
        refine AllReadyH.cons (atS5 (atS at0)) (fun K hK => ?_) AllReadyH.nil
        refine step_storeMS (by rfl) (.tmp 43) (.tmp 44) (.tmp 45) (by rfl) (by rfl) (by rfl) (by rfl) hrun11 ?_
        refine hK.out _ _ hg11 (fun hHeld => ?_)
        clear hK K
        try simp only [Act.put]
        refine wpAnyH_done (by kernel_rfl) ?_ _
        refine NoPanic.normal ?_
        have HX11 := hid (HPX.out w11 hg11)
        have HG11 := hid hg11
        have HQ11 : Hid (CatQ w3 c mb n B r l (l.set k (moreT t T)) w11) := hid (by
          have hf0 : FrG (fun b => b = mb ∨ ∃ t0 ∈ l, t0.nm = nm ∧ b = (r nm).g) w3 w0a := (HF10.out.on HB0a.out).mono (fun b e => .inr ⟨t, List.mem_of_getElem? HKK.out, HTN.out, by rw [e, HG.out]⟩) (fun b hb => by
            rcases hb with rfl | ⟨t0, h0, e0, e⟩
            · exact .inr HC3.out.mp.isMap
            · rw [e]; exact .inl ⟨_, _, HV.out.row⟩)
          have hf11 := hf0.grow hg11 (.inl (.inl rfl))
          have hok := chgS_ok HC3.out.ok nm (cs := cs) (fun x hx => by
            obtain ⟨a, b, c, d, e⟩ := HCS.out.2.2.2.1 x hx
            exact ⟨a, b, c, d, e, HSC.out x hx⟩)
          rw [HR.out] at hok
          have hfa : FrG (fun b => b = mb) w0a w11 := FrG.grown hg11 (.inr HM0a.out.isMap)
          have hver : Ver w11 ⟨g', cap', ps ++ [(.slice D1 m1 d1, .slice D2 m2 d2, .slice D3 m3 d3)]⟩ (moreT t T) := by
            refine Ver.fr (Ver.on ?_ HB0a.out) hfa (fun e => ?_)
            · refine Ver.snoc HT.out HROW.out (by rw [HPL.out, HVN.out]) (fun i q U h1 h2 => ?_) HN10.out
              rw [HPS.out] at h1
              exact (HV.out.rd i q U h1 h2).fr HF10.out
            · have e' : g' = mb := e
              rcases HGG.out with e2 | e2
              · exact HMG.out (e2 ▸ e')
              · have := HC3.out.mp.lt; omega
          refine Cat.store (nm := nm) (t' := moreT t T) (p := ⟨g', cap', ps ++ [(.slice D1 m1 d1, .slice D2 m2 d2, .slice D3 m3 d3)]⟩) HC3.out hf11 ?_ hok (fun j => ?_) (fun u hu => ?_) HTN.out hver ?_
          · have e1 : (moreT t T).ts.length + 1 = vn + 1 := by show (t.ts ++ [T]).length + 1 = _; rw [List.length_append, HVN.out]; rfl
            have e2 : (moreT t T).lo = lo := HLO.out.symm
            rw [e1, e2]; exact hm11
          · have := set_at (u := moreT t T) HC3.out.ok.1 HKK.out rfl j
            rw [HTN.out] at this; exact this
          · rw [← HTN.out]; exact set_mem_ne HC3.out.ok.1 HKK.out hu
          · rcases HGG.out with e | e
            · exact .inr ⟨t, List.mem_of_getElem? HKK.out, HTN.out, by show g' = _; rw [e, HG.out]⟩
            · exact .inl e)
        obtain ⟨x0, x1⟩ := HX11.out.cells
        have hl0 := run_loadHB HX11.out
        have HVN2 : Hid (lo + ((vn + 1 : Nat) : Int) - 1 = hi + 1) := hid (by have := HHI.out; have := HHE.out; omega)
        go_wp2_with fail
        refine (newest_any h1 (by omega)).mono ?_
        rintro e w12 ⟨rfl, hb12⟩
        rw [HVN2.out]
        have HB12 := hid hb12
        clear x0 x1 hl0 hb12
        go_wp2_with fail
        go_ret2
        refine ⟨by rw [HR.out]; rfl, by rw [HR.out]; exact CatQ.pre H.out HB3.out (HQ11.out.on HB12.out)⟩
      · have t2 : (E != 0) = true := by simpa using hE0
        have HR : Hid (chgS l nm cs = (l, 0, E)) := hid (by rw [HE.out, if_neg (by have := HLT.out; omega), if_pos (by rw [← HEE.out]; exact hE0), ← HEE.out])
        clear hE0
        go_wp2_with fail
        go_ret2
        exact ⟨by rw [HR.out]; rfl, by rw [HR.out]; exact CatQ.same H.out (Bt HB3.out HB8.out)⟩
end Go.Proofs.YtaegencmnmjgbaaGreat
