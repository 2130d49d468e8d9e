/-
  What a renamed, and a recast, field becomes; alter of layer 8.
-/
import Derived.Test.YtaegencmnmjgbaaGreatM38
import Derived.Test.YtaegencmnmjgbaaGreatM34

namespace Go.Proofs.YtaegencmnmjgbaaGreat
open Go.RowKit
set_option linter.unusedVariables false
set_option linter.unusedSimpArgs false
theorem ret_FDp {fn : Func} {p : Tmp} (hf : fn.results = #[.cell p 68]) {R : Ending → World → Prop} {a : Act} {w : World} {b : Nat} {f : Fd} (hp : a.tmps.getD p undef = .pointer (some ⟨b, 0, none⟩)) (hv : FB w b (bs f.nm) f.k f.g)
    (hd : a.defers = []) (hR : R (.returned (fdV f)) w) : bodyPost Tryz.prog fn R .ret a w :=
  bodyPost_ret_by (results_cell_row hf a.tmps w b 68 _ (0, 0) _ hp hv Tryz.underlying68 rfl (by kernel_rfl)) hd hR
section
variable {w : World} {b : Nat} {f f' : Fd}
theorem FB.set0 (h : FB w b (bs f.nm) f.k f.g) (f' : Fd) (h1 : f'.k = f.k) (h2 : f'.g = f.g) : FB (w.setCell ⟨b, 0, none⟩ (.string (bs f'.nm))) b (bs f'.nm) f'.k f'.g := by
  rw [h1, h2]; exact row_set h 0 _
theorem FB.set12 (h : FB w b (bs f.nm) f.k f.g) (f' : Fd) (h1 : f'.nm = f.nm) : FB ((w.setCell ⟨b, 1, none⟩ (.int .i64 f'.k)).setCell ⟨b, 2, none⟩ (.int .i64 f'.g)) b (bs f'.nm) f'.k f'.g := by
  rw [h1]; exact row_set (row_set h 1 _) 2 _
theorem FB.set21 (h : FB w b (bs f.nm) f.k f.g) (f' : Fd) (h1 : f'.nm = f.nm) : FB ((w.setCell ⟨b, 2, none⟩ (.int .i64 f'.g)).setCell ⟨b, 1, none⟩ (.int .i64 f'.k)) b (bs f'.nm) f'.k f'.g := by
  rw [h1]; exact row_set (row_set h 2 _) 1 _
theorem FB.set012 (h : FB w b (bs f.nm) f.k f.g) (f' : Fd) : FB (((w.setCell ⟨b, 0, none⟩ (.string (bs f'.nm))).setCell ⟨b, 1, none⟩ (.int .i64 f'.k)).setCell ⟨b, 2, none⟩ (.int .i64 f'.g)) b (bs f'.nm) f'.k f'.g := row_set (row_set (row_set h 0 _) 1 _) 2 _
end
def renF (c : Ch) (f : Fd) : Fd := { f with nm := c.to.nm }
def recF (c : Ch) (f : Fd) : Fd := { f with k := c.to.k, g := c.to.g }
theorem modify_set {α : Type} (g : α → α) : ∀ (l : List α) (i : Nat) (h : i < l.length), l.modify i g = l.set i (g l[i])
  | x :: l, 0, h => rfl
  | x :: l, i + 1, h => by
    have := modify_set g l i (by simpa using h)
    simpa using this
def altR (T : Tb) (nm : List UInt8) (g : Fd → Fd) : Tb × Int := byName T nm fun i => ⟨T.o, T.nw.modify i g, T.mv⟩
theorem altR_some {T : Tb} {nm : List UInt8} {g : Fd → Fd} {i : Nat} {f : Fd} (h : findN T.nw nm = some i) (hf : T.nw[i]? = some f) : altR T nm g = (⟨T.o, T.nw.set i (g f), T.mv⟩, 0) := by
  unfold altR
  rw [byName_some h]
  congr 2
  obtain ⟨hl, rfl⟩ := List.getElem?_eq_some_iff.1 hf
  exact modify_set g _ _ hl
set_option maxRecDepth 20000 in
set_option maxHeartbeats 4000000 in
theorem ren_any {w : World} {b : Nat} {c : Ch} {A : Option Addr} {n cp : Nat} (h : CB w b c A n cp 76) (f : Fd) :
    Calls Tryz.prog 169 #[fdV f, .pointer (some ⟨b, 0, none⟩)] w fun e w' => e = .returned (fdV (renF c f)) ∧ Below w.heap.size w w' := by
  obtain ⟨w0, hw0⟩ : ∃ w0, w0 = (w.alloc (.cells #[.string (bs f.nm), .int .i64 f.k, .int .i64 f.g] 68)).alloc (.cells #[.string ⟨#[]⟩, .int .i64 0, .int .i64 0] 68) := ⟨_, rfl⟩
  obtain ⟨p0, hp0⟩ : ∃ p0, p0 = w.heap.size := ⟨_, rfl⟩
  obtain ⟨p1, hp1⟩ : ∃ p1, p1 = w.heap.size + 1 := ⟨_, rfl⟩
  have HW0 := hid hw0; have HP0 := hid hp0; have HP1 := hid hp1
  have HB0 : Hid (Below w.heap.size w w0) := by rw [hw0]; exact hid (Ba (B1 _ _) _)
  have HF0 : Hid (FB w0 p0 (bs f.nm) f.k f.g) := by rw [hw0, hp0]; exact hid ((fb_new w _ _ _).on (B1 _ _))
  have HZ0 : Hid (FB w0 p1 (bs []) 0 0) := by rw [hw0, hp1, ← World.size_alloc w (.cells #[.string (bs f.nm), .int .i64 f.k, .int .i64 f.g] 68)]; exact hid (fb_new _ _ _ _)
  have HC0 := hid (h.on HB0.out)
  have HPQ : Hid (w.heap.size ≤ p0 ∧ w.heap.size ≤ p1 ∧ p1 ≠ p0 ∧ b ≠ p0) := hid ⟨by omega, by omega, by omega, by have := h.lt; omega⟩
  clear h hw0 hp0 hp1
  obtain ⟨c0, c1, c2, c3, c4, c5, c6, c7, c8⟩ := HC0.out.cells
  obtain ⟨f0, f1, f2⟩ := HF0.out.cells
  have fz0 := HF0.out.frozen 0; have fz1 := HF0.out.frozen 1; have fz2 := HF0.out.frozen 2
  unfold fdV
  go_enter Tryz.func169, Tryz.ntmps169
  go_upto_region 1 with fail
  rw [← HW0.out, ← HP1.out, ← HP0.out]
  obtain ⟨W1, hW1⟩ : ∃ W1, W1 = w0.setCell ⟨p0, 0, none⟩ (.string (bs c.to.nm)) := ⟨_, rfl⟩
  have HF1 : Hid (FB W1 p0 (bs (renF c f).nm) (renF c f).k (renF c f).g) := by rw [hW1]; exact hid (HF0.out.set0 (renF c f) rfl rfl)
  have HZ1 : Hid (FB W1 p1 (bs []) 0 0) := by rw [hW1]; exact hid (FB.other HZ0.out HPQ.out.2.2.1 _ _)
  have HB1 : Hid (Below w.heap.size w W1) := by rw [hW1]; exact hid (HB0.out.setCell (p := ⟨p0, 0, none⟩) HPQ.out.1 _)
  have HWW := hid hW1
  clear hW1
  go_upto_region 2 with fail
  rw [← HWW.out]
  clear c0 c1 c2 c3 c4 c5 c6 c7 c8 f0 f1 f2 fz0 fz1 fz2
  obtain ⟨f0, f1, f2⟩ := HF1.out.cells
  obtain ⟨z0, z1, z2⟩ := HZ1.out.cells
  have fz0 := FB.frozen HZ1.out 0; have fz1 := FB.frozen HZ1.out 1; have fz2 := FB.frozen HZ1.out 2
  go_wp2_with fail
  exact ret_FDp (by rfl) (by rfl) (FB.set012 (f := ⟨[], 0, 0⟩) HZ1.out (renF c f)) (by rfl) ⟨rfl, B3 HB1.out HPQ.out.2.1 _ _ _⟩
set_option maxRecDepth 20000 in
set_option maxHeartbeats 4000000 in
theorem rec_any {w : World} {b : Nat} {c : Ch} {A : Option Addr} {n cp : Nat} (h : CB w b c A n cp 76) (f : Fd) :
    Calls Tryz.prog 170 #[fdV f, .pointer (some ⟨b, 0, none⟩)] w fun e w' => e = .returned (fdV (recF c f)) ∧ Below w.heap.size w w' := by
  obtain ⟨w0, hw0⟩ : ∃ w0, w0 = (w.alloc (.cells #[.string (bs f.nm), .int .i64 f.k, .int .i64 f.g] 68)).alloc (.cells #[.string ⟨#[]⟩, .int .i64 0, .int .i64 0] 68) := ⟨_, rfl⟩
  obtain ⟨p0, hp0⟩ : ∃ p0, p0 = w.heap.size := ⟨_, rfl⟩
  obtain ⟨p1, hp1⟩ : ∃ p1, p1 = w.heap.size + 1 := ⟨_, rfl⟩
  have HW0 := hid hw0; have HP0 := hid hp0; have HP1 := hid hp1
  have HB0 : Hid (Below w.heap.size w w0) := by rw [hw0]; exact hid (Ba (B1 _ _) _)
  have HF0 : Hid (FB w0 p0 (bs f.nm) f.k f.g) := by rw [hw0, hp0]; exact hid ((fb_new w _ _ _).on (B1 _ _))
  have HZ0 : Hid (FB w0 p1 (bs []) 0 0) := by rw [hw0, hp1, ← World.size_alloc w (.cells #[.string (bs f.nm), .int .i64 f.k, .int .i64 f.g] 68)]; exact hid (fb_new _ _ _ _)
  have HC0 := hid (h.on HB0.out)
  have HPQ : Hid (w.heap.size ≤ p0 ∧ w.heap.size ≤ p1 ∧ p1 ≠ p0 ∧ b ≠ p0) := hid ⟨by omega, by omega, by omega, by have := h.lt; omega⟩
  clear h hw0 hp0 hp1
  obtain ⟨c0, c1, c2, c3, c4, c5, c6, c7, c8⟩ := HC0.out.cells
  obtain ⟨f0, f1, f2⟩ := HF0.out.cells
  have fz0 := HF0.out.frozen 0; have fz1 := HF0.out.frozen 1; have fz2 := HF0.out.frozen 2
  unfold fdV
  go_enter Tryz.func170, Tryz.ntmps170
  go_upto_region 1 with fail
  rw [← HW0.out, ← HP1.out, ← HP0.out]
  have hb : p0 < w0.heap.size := HF0.out.lt
  go_region
  all_goals
    first
    | (obtain ⟨W1, hW1⟩ : ∃ W1, W1 = ((w0.setCell ⟨p0, 1, none⟩ (.int .i64 c.to.k)).setCell ⟨p0, 2, none⟩ (.int .i64 c.to.g)).drew := ⟨_, rfl⟩
       rw [← hW1]
       have HF1 : Hid (FB W1 p0 (bs (recF c f).nm) (recF c f).k (recF c f).g) := by rw [hW1]; exact hid (FB.set12 (w := w0) HF0.out (recF c f) rfl))
    | (obtain ⟨W1, hW1⟩ : ∃ W1, W1 = ((w0.setCell ⟨p0, 2, none⟩ (.int .i64 c.to.g)).setCell ⟨p0, 1, none⟩ (.int .i64 c.to.k)).drew := ⟨_, rfl⟩
       rw [← hW1]
       have HF1 : Hid (FB W1 p0 (bs (recF c f).nm) (recF c f).k (recF c f).g) := by rw [hW1]; exact hid (FB.set21 (w := w0) HF0.out (recF c f) rfl))
    have HZ1 : Hid (FB W1 p1 (bs []) 0 0) := by rw [hW1]; exact hid (FB.other (FB.other (w := w0) HZ0.out HPQ.out.2.2.1 _ _) HPQ.out.2.2.1 _ _)
    have HB1 : Hid (Below w.heap.size w W1) := by rw [hW1]; exact hid (Bd ((Below.setCell (p := ⟨p0, _, none⟩) HB0.out HPQ.out.1 _).setCell (p := ⟨p0, _, none⟩) HPQ.out.1 _) 1)
    clear hW1 c0 c1 c2 c3 c4 c5 c6 c7 c8 f0 f1 f2 fz0 fz1 fz2
    obtain ⟨f0, f1, f2⟩ := HF1.out.cells
    obtain ⟨z0, z1, z2⟩ := HZ1.out.cells
    have fz0 := FB.frozen HZ1.out 0; have fz1 := FB.frozen HZ1.out 1; have fz2 := FB.frozen HZ1.out 2
    go_wp2_with fail
    exact ret_FDp (by rfl) (by rfl) (FB.set012 (f := ⟨[], 0, 0⟩) HZ1.out (recF c f)) (by rfl) ⟨rfl, B3 HB1.out HPQ.out.2.1 _ _ _⟩
set_option maxRecDepth 20000 in
set_option maxHeartbeats 8000000 in
theorem alterR_any {w : World} {B : Nat} {v : Value} {T : Tb} (h : OwT w B v T) (hl : T.nw.length ≤ 1000) (hf : okF T.nw) (nm : List UInt8) {b : Nat} {c : Ch} {A : Option Addr} {n cp : Nat} (hc : CB w b c A n cp 76) (hbB : b < B) :
    Calls Tryz.prog 176 #[v, .string (bs nm), .func (.func 169) #[] #[.pointer (some ⟨b, 0, none⟩)]] w (DeedQ w B (altR T nm (renF c)).1 (altR T nm (renF c)).2) := by
  obtain ⟨v1, v2, v3, B2, rfl, hts⟩ := h.ts
  have hBw : B ≤ w.heap.size := Nat.le_trans hts.b2 hts.sz
  obtain ⟨w0, hw0⟩ : ∃ w0, w0 = (w.alloc (.cells #[v1, v2, v3] 92)).alloc (.cells #[.slice none 0 0, .slice none 0 0, .slice none 0 0] 92) := ⟨_, rfl⟩
  obtain ⟨p0, hp0⟩ : ∃ p0, p0 = w.heap.size := ⟨_, rfl⟩
  obtain ⟨p1, hp1⟩ : ∃ p1, p1 = w.heap.size + 1 := ⟨_, rfl⟩
  have HW0 := hid hw0; have HP0 := hid hp0; have HP1 := hid hp1
  have HB0 : Hid (Below w.heap.size w w0) := by rw [hw0]; exact hid (Ba (B1 _ _) _)
  have HT0 : Hid (TBx w0 p0 v1 v2 v3 92) := by rw [hw0, hp0]; exact hid ((tb_new w _ _ _ _).on (B1 _ _))
  have HZ0 : Hid (TBx w0 p1 (.slice none 0 0) (.slice none 0 0) (.slice none 0 0) 92) := by
    rw [hw0, hp1, ← World.size_alloc w (.cells #[v1, v2, v3] 92)]; exact hid (tb_new _ _ _ _ _)
  have HTS0 := hid (hts.on HB0.out)
  have HC0 := hid (hc.on HB0.out)
  have HBB0 : Hid (BK w B w0) := hid (BK.start HB0.out hBw)
  have HBP : Hid ((B ≤ w.heap.size ∧ w.heap.size ≤ p0) ∧ (B ≤ w.heap.size ∧ w.heap.size ≤ p1) ∧ p1 ≠ p0) := hid (by omega)
  have HL := hid hl; have HBL := hid hbB
  obtain ⟨⟨A1, n1, c1, rfl⟩, ⟨A2, n2, c2, rfl⟩, ⟨A3, n3, c3, rfl⟩⟩ := hts.shapes
  have hrd : RdF w0 w0.heap.size A2 n2 c2 T.nw := by
    obtain ⟨A', c', e, hr⟩ := HTS0.out.n.rd hf
    cases e; exact hr
  have HRD := hid hrd
  have HN2 : Hid (T.nw.length = n2) := hid hrd.1
  obtain ⟨a0, a1, a2⟩ := HT0.out.cells
  clear h hts hw0 hp0 hp1 hrd hf hl hBw hc hbB
  go_enter Tryz.func176, Tryz.ntmps176
  go_upto_region 1 with fail
  rw [← HW0.out, ← HP1.out, ← HP0.out]
  go_wp2_with fail
  refine (p6find_any HRD.out nm).mono ?_
  rintro e w1 ⟨rfl, hb1⟩
  have HTS1 := hid (HTS0.out.on hb1)
  have HT1 := hid (HT0.out.on hb1)
  have HZ1 := hid (HZ0.out.on hb1)
  have HC1 := hid (HC0.out.on hb1)
  have HB1 : Hid (BK w B w1) := hid (HBB0.out.on (Nat.le_trans HTS0.out.b2 HTS0.out.sz) hb1)
  have HRD1 := hid (HRD.out.on hb1)
  clear hb1 a0 a1 a2
  cases hfi : findN T.nw nm with
  | none =>
    obtain ⟨a0, a1, a2⟩ := HT1.out.cells
    obtain ⟨z0, z1, z2⟩ := HZ1.out.cells
    have y0 := HZ1.out.frozen 0; have y1 := HZ1.out.frozen 1; have y2 := HZ1.out.frozen 2
    rw [findI_none hfi]
    have HE : Hid (altR T nm (renF c) = (Tb.none, 61)) := hid (byName_none hfi)
    clear hfi
    go_wp2_with fail
    rw [HE.out]
    exact ret_TBpe (by rfl) (by rfl) (HZ1.out.set3 _ _ _) (by rfl) (by rfl) ⟨_, rfl, OwT.none _ _ (by simp only [size_set]; exact Nat.le_trans HTS1.out.b2 HTS1.out.sz), HB1.out.set3 HBP.out.2.1 _ _ _⟩
  | some i =>
    rw [findI_some hfi]
    have hin : i < T.nw.length := findN_lt hfi
    obtain ⟨f, hff⟩ : ∃ f, T.nw[i]? = some f := ⟨_, List.getElem?_eq_getElem hin⟩
    have HE : Hid (altR T nm (renF c) = (⟨T.o, T.nw.set i (renF c f), T.mv⟩, 0)) := hid (altR_some hfi hff)
    have hdi : decide ((i : Int) < 0) = false := decide_eq_false (by omega)
    have hi0 : (0 : Int) ≤ i := by omega
    have hin2 : (i : Int) < n2 := by have := HN2.out; omega
    obtain ⟨f', hf'⟩ : ∃ f', f' = renF c f := ⟨_, rfl⟩
    have HFE := hid hf'
    obtain ⟨g, cap, hv2, hgb, ⟨cs, hcs, hcl⟩, _⟩ := HTS1.out.n.put (i := i) hin f'
    cases hv2
    obtain ⟨_, _, _, _, fb, off, efb, hfc⟩ := HRD1.out.at hff
    cases efb
    have hfc0 := hfc w1 (B0 _)
    rw [Nat.zero_add] at hfc0
    have HF1 := hid hfc0; have HCS := hid hcs; have HIN := hid hin
    have hpg : p0 ≠ g := fun e => by have h1 := HT1.out; unfold TBx at h1; rw [e, hcs] at h1; cases h1
    have hp1g : p1 ≠ g := fun e => by have h1 := HZ1.out; unfold TBx at h1; rw [e, hcs] at h1; cases h1
    have hglt : g < w1.heap.size := row_lt hcs
    have HNE : Hid (p0 ≠ g ∧ p1 ≠ g ∧ g < w1.heap.size ∧ B2 ≤ g) := hid ⟨hpg, hp1g, hglt, hgb⟩
    clear hfi hin hfc hfc0 hcs hf' hff hpg hp1g hglt hgb hcl
    go_upto_region 4 with fail
    clear hdi
    refine reg_beginO (some g) (by kernel_rfl) (fun w0a hh0a hx0a hHeld => ?_)
    have s0 : ∀ w', ExO (some g) w0a w' → TBx w' p0 (.slice A1 n1 c1) (.slice (some ⟨g, 0, none⟩) T.nw.length c2) (.slice A3 n3 c3) 92 := fun w' h => (h.block p0 (by rw [hh0a.out]; exact HT1.out.lt) (fun e => HNE.out.1 (by cases e; rfl))).trans (by rw [hh0a.out]; exact HT1.out)
    have s1 := fun w' h => (s0 w' h).cells.2.1
    have HBA : Hid (Below w1.heap.size w1 w0a) := hid ⟨hx0a.os, hx0a.tape, hx0a.output, by rw [hh0a.out]; exact Nat.le_refl _, fun j _ => by rw [hh0a.out]⟩
    have q0 : w0a.cell? ⟨g, i * 3, none⟩ = some (.string (bs f.nm)) := HBA.out.cell (p := ⟨g, i * 3, none⟩) HNE.out.2.2.1 |>.trans HF1.out.1
    have q1 : w0a.cell? ⟨g, i * 3 + 1, none⟩ = some (.int .i64 f.k) := HBA.out.cell (p := ⟨g, i * 3 + 1, none⟩) HNE.out.2.2.1 |>.trans HF1.out.2.1
    have q2 : w0a.cell? ⟨g, i * 3 + 2, none⟩ = some (.int .i64 f.g) := HBA.out.cell (p := ⟨g, i * 3 + 2, none⟩) HNE.out.2.2.1 |>.trans HF1.out.2.2
    clear s0
    refine reg_takeO 0 (v := ?vy1_0) at0 (by kernel_rfl) (by kernel_rfl) (by kernel_rfl) (by rfl) ?hyy1_0 hHeld ?resty1_0
    case hyy1_0 => (intro w' hSw; go_simp; try with_reducible rfl)
    try simp only [Act.put, List.setIfInBounds_toArray, List.set_cons_zero, List.set_cons_succ]
    refine reg_takeO 1 (v := ?vy2_1) (atS at0) (by kernel_rfl) (by kernel_rfl) (by kernel_rfl) (by rfl) ?hyy2_1 hHeld ?resty2_1
    case hyy2_1 => (intro w' hSw; go_simp; try with_reducible rfl)
    try simp only [Act.put, List.setIfInBounds_toArray, List.set_cons_zero, List.set_cons_succ]
    refine reg_takeO 2 (v := ?vy3_2) (atS (atS at0)) (by kernel_rfl) (by kernel_rfl) (by kernel_rfl) (by rfl) ?hyy3_2 hHeld ?resty3_2
    case hyy3_2 => (intro w' hSw; go_simp; try with_reducible rfl)
    try simp only [Act.put, List.setIfInBounds_toArray, List.set_cons_zero, List.set_cons_succ]
    refine reg_takeO 3 (v := ?vy4_3) (atS (atS (atS at0))) (by kernel_rfl) (by kernel_rfl) (by kernel_rfl) (by rfl) ?hyy4_3 hHeld ?resty4_3
    case hyy4_3 => (intro w' hSw; go_simp; try with_reducible rfl)
    try simp only [Act.put, List.setIfInBounds_toArray, List.set_cons_zero, List.set_cons_succ]
    refine reg_takeO 4 (v := ?vy5_4) (atS (atS (atS (atS at0)))) (by kernel_rfl) (by kernel_rfl) (by kernel_rfl) (by rfl) ?hyy5_4 hHeld ?resty5_4
    case hyy5_4 => (intro w' hSw; go_simp; try with_reducible rfl)
    try simp only [Act.put, List.setIfInBounds_toArray, List.set_cons_zero, List.set_cons_succ]
    refine reg_takeO 5 (v := ?vy6_5) (atS5 at0) (by kernel_rfl) (by kernel_rfl) (by kernel_rfl) (by rfl) ?hyy6_5 hHeld ?resty6_5
    case hyy6_5 => (intro w' hSw; go_simp; try with_reducible rfl)
    try simp only [Act.put, List.setIfInBounds_toArray, List.set_cons_zero, List.set_cons_succ]
    refine reg_takeO 6 (v := ?vy7_6) (atS5 (atS at0)) (by kernel_rfl) (by kernel_rfl) (by kernel_rfl) (by rfl) ?hyy7_6 hHeld ?resty7_6
    case hyy7_6 => (intro w' hSw; go_simp; try with_reducible rfl)
    try simp only [Act.put, List.setIfInBounds_toArray, List.set_cons_zero, List.set_cons_succ]
    refine reg_takeO 7 (v := ?vy8_7) (atS5 (atS (atS at0))) (by kernel_rfl) (by kernel_rfl) (by kernel_rfl) (by rfl) ?hyy8_7 hHeld ?resty8_7
    case hyy8_7 => (intro w' hSw; go_simp; try with_reducible rfl)
    try simp only [Act.put, List.setIfInBounds_toArray, List.set_cons_zero, List.set_cons_succ]
    refine wpAnyH_ready (rs := [8]) (by kernel_rfl) (by simp) ?_
    refine AllReadyH.cons (atS5 (atS (atS (atS at0)))) (fun K hK => ?_) AllReadyH.nil
    go_simp
    go_simp
    go_wp2_with fail
    refine hK.out _ _ hHeld (fun hHeld => ?_)
    clear hK K
    try simp only [Act.put, List.setIfInBounds_toArray, List.set_cons_zero, List.set_cons_succ]
    refine wpAnyH_ready (rs := [9]) (by kernel_rfl) (by simp) ?_
    refine AllReadyH.cons (atS5 (atS (atS (atS (atS at0))))) (fun K hK => ?_) AllReadyH.nil
    go_simp
    refine (ren_any (HC1.out.on HBA.out) f).mono ?_
    rintro e w9a ⟨rfl, hb6⟩
    rw [← HFE.out]
    have HB6 := hid hb6
    have HG6 : Hid (w9a.heap[g]? = some (.cells cs 68 (0, 0))) := hid ((hb6.block g (by rw [hh0a.out]; exact HNE.out.2.2.1)).trans (by rw [hh0a.out]; exact HCS.out))
    obtain ⟨u0, hu0⟩ : ∃ u, w9a.cell? ⟨g, i * 3, none⟩ = some u := ⟨_, (hb6.cell (p := ⟨g, i * 3, none⟩) (by rw [hh0a.out]; exact HNE.out.2.2.1)).trans q0⟩
    obtain ⟨u1, hu1⟩ : ∃ u, w9a.cell? ⟨g, i * 3 + 1, none⟩ = some u := ⟨_, (hb6.cell (p := ⟨g, i * 3 + 1, none⟩) (by rw [hh0a.out]; exact HNE.out.2.2.1)).trans q1⟩
    obtain ⟨u2, hu2⟩ : ∃ u, w9a.cell? ⟨g, i * 3 + 2, none⟩ = some u := ⟨_, (hb6.cell (p := ⟨g, i * 3 + 2, none⟩) (by rw [hh0a.out]; exact HNE.out.2.2.1)).trans q2⟩
    have zf := row_frozen HG6.out (i * 3); have zf1 := row_frozen HG6.out (i * 3 + 1); have zf2 := row_frozen HG6.out (i * 3 + 2)
    have HX6 : Hid (ExO (some g) w0a w9a) := hid ⟨hb6.os, hb6.tape, hb6.output, hb6.size, fun j hj _ => hb6.block j hj⟩
    clear hb6 q0 q1 q2
    unfold fdV
    go_wp2_with fail
    refine hK.out _ _ HX6.out (fun hHeld => ?_)
    clear hK K
    try simp only [Act.put, List.setIfInBounds_toArray, List.set_cons_zero, List.set_cons_succ]
    refine reg_takeO 10 (v := ?vy9_10) (atS5 (atS5 at0)) (by kernel_rfl) (by kernel_rfl) (by kernel_rfl) (by rfl) ?hyy9_10 hHeld ?resty9_10
    case hyy9_10 => (intro w' hSw; go_simp; try with_reducible rfl)
    try simp only [Act.put, List.setIfInBounds_toArray, List.set_cons_zero, List.set_cons_succ]
    refine wpAnyH_ready (rs := [11]) (by kernel_rfl) (by simp) ?_
    refine AllReadyH.cons (atS5 (atS5 (atS at0))) (fun K hK => ?_) AllReadyH.nil
    go_simp
    go_simp
    go_wp2_with fail
    refine hK.out _ _ (grown_set (grown_set (grown_set HX6.out _ _) _ _) _ _) (fun hHeld => ?_)
    clear hK K
    try simp only [Act.put]
    refine wpAnyH_done (by kernel_rfl) ?_ _
    refine NoPanic.normal ?_
    obtain ⟨W7, hW7⟩ : ∃ W7, W7 = ((w9a.setCell ⟨g, i * 3, none⟩ (.string (bs f'.nm))).setCell ⟨g, i * 3 + 1, none⟩ (.int .i64 f'.k)).setCell ⟨g, i * 3 + 2, none⟩ (.int .i64 f'.g) := ⟨_, rfl⟩
    rw [← hW7]
    clear s1 hu0 hu1 hu2 zf zf1 zf2
    have hbw : Below w1.heap.size w1 w9a := HBA.out.trans (HB6.out.mono HBA.out.size)
    have hts6 := HTS1.out.on hbw
    obtain ⟨g', cap', hv2', _, _, hput⟩ := hts6.n.put (i := i) HIN.out f'
    cases hv2'
    rw [← hW7] at hput
    have hgr : World.grownBy w9a W7 (some g) := by rw [hW7]; exact grown_set (grown_set (grown_set (grown_refl _ _) _ _) _ _) _ _
    have HTS7 : Hid (TS W7 B B2 (.slice A1 n1 c1) (.slice (some ⟨g, 0, none⟩) T.nw.length c2) (.slice A3 n3 c3) ⟨T.o, T.nw.set i f', T.mv⟩) := hid (hts6.newF hgr hput)
    have HT7 := hid ((HT1.out.on hbw).byF hts6 hgr)
    have HZ7 := hid ((HZ1.out.on hbw).byF hts6 hgr)
    have HB7 : Hid (BK w B W7) := hid (hts6.bkF (HB1.out.on (Nat.le_trans HTS1.out.b2 HTS1.out.sz) hbw) hgr)
    clear hW7 hbw hts6 hput hgr
    obtain ⟨a0, a1, a2⟩ := HT7.out.cells
    obtain ⟨z0, z1, z2⟩ := HZ7.out.cells
    have y0 := HZ7.out.frozen 0; have y1 := HZ7.out.frozen 1; have y2 := HZ7.out.frozen 2
    go_wp2_with fail
    rw [HE.out, ← HFE.out]
    exact ret_TBpe (by rfl) (by rfl) (HZ7.out.set3 _ _ _) (by rfl) (by rfl) ⟨_, rfl, (HTS7.out.box3 HZ7.out _ _ _).owt, HB7.out.set3 HBP.out.2.1 _ _ _⟩
set_option maxRecDepth 20000 in
set_option maxHeartbeats 8000000 in
theorem alterC_any {w : World} {B : Nat} {v : Value} {T : Tb} (h : OwT w B v T) (hl : T.nw.length ≤ 1000) (hf : okF T.nw) (nm : List UInt8) {b : Nat} {c : Ch} {A : Option Addr} {n cp : Nat} (hc : CB w b c A n cp 76) (hbB : b < B) :
    Calls Tryz.prog 176 #[v, .string (bs nm), .func (.func 170) #[] #[.pointer (some ⟨b, 0, none⟩)]] w (DeedQ w B (altR T nm (recF c)).1 (altR T nm (recF c)).2) := by
  obtain ⟨v1, v2, v3, B2, rfl, hts⟩ := h.ts
  have hBw : B ≤ w.heap.size := Nat.le_trans hts.b2 hts.sz
  obtain ⟨w0, hw0⟩ : ∃ w0, w0 = (w.alloc (.cells #[v1, v2, v3] 92)).alloc (.cells #[.slice none 0 0, .slice none 0 0, .slice none 0 0] 92) := ⟨_, rfl⟩
  obtain ⟨p0, hp0⟩ : ∃ p0, p0 = w.heap.size := ⟨_, rfl⟩
  obtain ⟨p1, hp1⟩ : ∃ p1, p1 = w.heap.size + 1 := ⟨_, rfl⟩
  have HW0 := hid hw0; have HP0 := hid hp0; have HP1 := hid hp1
  have HB0 : Hid (Below w.heap.size w w0) := by rw [hw0]; exact hid (Ba (B1 _ _) _)
  have HT0 : Hid (TBx w0 p0 v1 v2 v3 92) := by rw [hw0, hp0]; exact hid ((tb_new w _ _ _ _).on (B1 _ _))
  have HZ0 : Hid (TBx w0 p1 (.slice none 0 0) (.slice none 0 0) (.slice none 0 0) 92) := by
    rw [hw0, hp1, ← World.size_alloc w (.cells #[v1, v2, v3] 92)]; exact hid (tb_new _ _ _ _ _)
  have HTS0 := hid (hts.on HB0.out)
  have HC0 := hid (hc.on HB0.out)
  have HBB0 : Hid (BK w B w0) := hid (BK.start HB0.out hBw)
  have HBP : Hid ((B ≤ w.heap.size ∧ w.heap.size ≤ p0) ∧ (B ≤ w.heap.size ∧ w.heap.size ≤ p1) ∧ p1 ≠ p0) := hid (by omega)
  have HL := hid hl; have HBL := hid hbB
  obtain ⟨⟨A1, n1, c1, rfl⟩, ⟨A2, n2, c2, rfl⟩, ⟨A3, n3, c3, rfl⟩⟩ := hts.shapes
  have hrd : RdF w0 w0.heap.size A2 n2 c2 T.nw := by
    obtain ⟨A', c', e, hr⟩ := HTS0.out.n.rd hf
    cases e; exact hr
  have HRD := hid hrd
  have HN2 : Hid (T.nw.length = n2) := hid hrd.1
  obtain ⟨a0, a1, a2⟩ := HT0.out.cells
  clear h hts hw0 hp0 hp1 hrd hf hl hBw hc hbB
  go_enter Tryz.func176, Tryz.ntmps176
  go_upto_region 1 with fail
  rw [← HW0.out, ← HP1.out, ← HP0.out]
  go_wp2_with fail
  refine (p6find_any HRD.out nm).mono ?_
  rintro e w1 ⟨rfl, hb1⟩
  have HTS1 := hid (HTS0.out.on hb1)
  have HT1 := hid (HT0.out.on hb1)
  have HZ1 := hid (HZ0.out.on hb1)
  have HC1 := hid (HC0.out.on hb1)
  have HB1 : Hid (BK w B w1) := hid (HBB0.out.on (Nat.le_trans HTS0.out.b2 HTS0.out.sz) hb1)
  have HRD1 := hid (HRD.out.on hb1)
  clear hb1 a0 a1 a2
  cases hfi : findN T.nw nm with
  | none =>
    obtain ⟨a0, a1, a2⟩ := HT1.out.cells
    obtain ⟨z0, z1, z2⟩ := HZ1.out.cells
    have y0 := HZ1.out.frozen 0; have y1 := HZ1.out.frozen 1; have y2 := HZ1.out.frozen 2
    rw [findI_none hfi]
    have HE : Hid (altR T nm (recF c) = (Tb.none, 61)) := hid (byName_none hfi)
    clear hfi
    go_wp2_with fail
    rw [HE.out]
    exact ret_TBpe (by rfl) (by rfl) (HZ1.out.set3 _ _ _) (by rfl) (by rfl) ⟨_, rfl, OwT.none _ _ (by simp only [size_set]; exact Nat.le_trans HTS1.out.b2 HTS1.out.sz), HB1.out.set3 HBP.out.2.1 _ _ _⟩
  | some i =>
    rw [findI_some hfi]
    have hin : i < T.nw.length := findN_lt hfi
    obtain ⟨f, hff⟩ : ∃ f, T.nw[i]? = some f := ⟨_, List.getElem?_eq_getElem hin⟩
    have HE : Hid (altR T nm (recF c) = (⟨T.o, T.nw.set i (recF c f), T.mv⟩, 0)) := hid (altR_some hfi hff)
    have hdi : decide ((i : Int) < 0) = false := decide_eq_false (by omega)
    have hi0 : (0 : Int) ≤ i := by omega
    have hin2 : (i : Int) < n2 := by have := HN2.out; omega
    obtain ⟨f', hf'⟩ : ∃ f', f' = recF c f := ⟨_, rfl⟩
    have HFE := hid hf'
    obtain ⟨g, cap, hv2, hgb, ⟨cs, hcs, hcl⟩, _⟩ := HTS1.out.n.put (i := i) hin f'
    cases hv2
    obtain ⟨_, _, _, _, fb, off, efb, hfc⟩ := HRD1.out.at hff
    cases efb
    have hfc0 := hfc w1 (B0 _)
    rw [Nat.zero_add] at hfc0
    have HF1 := hid hfc0; have HCS := hid hcs; have HIN := hid hin
    have hpg : p0 ≠ g := fun e => by have h1 := HT1.out; unfold TBx at h1; rw [e, hcs] at h1; cases h1
    have hp1g : p1 ≠ g := fun e => by have h1 := HZ1.out; unfold TBx at h1; rw [e, hcs] at h1; cases h1
    have hglt : g < w1.heap.size := row_lt hcs
    have HNE : Hid (p0 ≠ g ∧ p1 ≠ g ∧ g < w1.heap.size ∧ B2 ≤ g) := hid ⟨hpg, hp1g, hglt, hgb⟩
    clear hfi hin hfc hfc0 hcs hf' hff hpg hp1g hglt hgb hcl
    go_upto_region 4 with fail
    clear hdi
    refine reg_beginO (some g) (by kernel_rfl) (fun w0a hh0a hx0a hHeld => ?_)
    have s0 : ∀ w', ExO (some g) w0a w' → TBx w' p0 (.slice A1 n1 c1) (.slice (some ⟨g, 0, none⟩) T.nw.length c2) (.slice A3 n3 c3) 92 := fun w' h => (h.block p0 (by rw [hh0a.out]; exact HT1.out.lt) (fun e => HNE.out.1 (by cases e; rfl))).trans (by rw [hh0a.out]; exact HT1.out)
    have s1 := fun w' h => (s0 w' h).cells.2.1
    have HBA : Hid (Below w1.heap.size w1 w0a) := hid ⟨hx0a.os, hx0a.tape, hx0a.output, by rw [hh0a.out]; exact Nat.le_refl _, fun j _ => by rw [hh0a.out]⟩
    have q0 : w0a.cell? ⟨g, i * 3, none⟩ = some (.string (bs f.nm)) := HBA.out.cell (p := ⟨g, i * 3, none⟩) HNE.out.2.2.1 |>.trans HF1.out.1
    have q1 : w0a.cell? ⟨g, i * 3 + 1, none⟩ = some (.int .i64 f.k) := HBA.out.cell (p := ⟨g, i * 3 + 1, none⟩) HNE.out.2.2.1 |>.trans HF1.out.2.1
    have q2 : w0a.cell? ⟨g, i * 3 + 2, none⟩ = some (.int .i64 f.g) := HBA.out.cell (p := ⟨g, i * 3 + 2, none⟩) HNE.out.2.2.1 |>.trans HF1.out.2.2
    clear s0
    refine reg_takeO 0 (v := ?vy10_0) at0 (by kernel_rfl) (by kernel_rfl) (by kernel_rfl) (by rfl) ?hyy10_0 hHeld ?resty10_0
    case hyy10_0 => (intro w' hSw; go_simp; try with_reducible rfl)
    try simp only [Act.put, List.setIfInBounds_toArray, List.set_cons_zero, List.set_cons_succ]
    refine reg_takeO 1 (v := ?vy11_1) (atS at0) (by kernel_rfl) (by kernel_rfl) (by kernel_rfl) (by rfl) ?hyy11_1 hHeld ?resty11_1
    case hyy11_1 => (intro w' hSw; go_simp; try with_reducible rfl)
    try simp only [Act.put, List.setIfInBounds_toArray, List.set_cons_zero, List.set_cons_succ]
    refine reg_takeO 2 (v := ?vy12_2) (atS (atS at0)) (by kernel_rfl) (by kernel_rfl) (by kernel_rfl) (by rfl) ?hyy12_2 hHeld ?resty12_2
    case hyy12_2 => (intro w' hSw; go_simp; try with_reducible rfl)
    try simp only [Act.put, List.setIfInBounds_toArray, List.set_cons_zero, List.set_cons_succ]
    refine reg_takeO 3 (v := ?vy13_3) (atS (atS (atS at0))) (by kernel_rfl) (by kernel_rfl) (by kernel_rfl) (by rfl) ?hyy13_3 hHeld ?resty13_3
    case hyy13_3 => (intro w' hSw; go_simp; try with_reducible rfl)
    try simp only [Act.put, List.setIfInBounds_toArray, List.set_cons_zero, List.set_cons_succ]
    refine reg_takeO 4 (v := ?vy14_4) (atS (atS (atS (atS at0)))) (by kernel_rfl) (by kernel_rfl) (by kernel_rfl) (by rfl) ?hyy14_4 hHeld ?resty14_4
    case hyy14_4 => (intro w' hSw; go_simp; try with_reducible rfl)
    try simp only [Act.put, List.setIfInBounds_toArray, List.set_cons_zero, List.set_cons_succ]
    refine reg_takeO 5 (v := ?vy15_5) (atS5 at0) (by kernel_rfl) (by kernel_rfl) (by kernel_rfl) (by rfl) ?hyy15_5 hHeld ?resty15_5
    case hyy15_5 => (intro w' hSw; go_simp; try with_reducible rfl)
    try simp only [Act.put, List.setIfInBounds_toArray, List.set_cons_zero, List.set_cons_succ]
    refine reg_takeO 6 (v := ?vy16_6) (atS5 (atS at0)) (by kernel_rfl) (by kernel_rfl) (by kernel_rfl) (by rfl) ?hyy16_6 hHeld ?resty16_6
    case hyy16_6 => (intro w' hSw; go_simp; try with_reducible rfl)
    try simp only [Act.put, List.setIfInBounds_toArray, List.set_cons_zero, List.set_cons_succ]
    refine reg_takeO 7 (v := ?vy17_7) (atS5 (atS (atS at0))) (by kernel_rfl) (by kernel_rfl) (by kernel_rfl) (by rfl) ?hyy17_7 hHeld ?resty17_7
    case hyy17_7 => (intro w' hSw; go_simp; try with_reducible rfl)
    try simp only [Act.put, List.setIfInBounds_toArray, List.set_cons_zero, List.set_cons_succ]
    refine wpAnyH_ready (rs := [8]) (by kernel_rfl) (by simp) ?_
    refine AllReadyH.cons (atS5 (atS (atS (atS at0)))) (fun K hK => ?_) AllReadyH.nil
    go_simp
    go_simp
    go_wp2_with fail
    refine hK.out _ _ hHeld (fun hHeld => ?_)
    clear hK K
    try simp only [Act.put, List.setIfInBounds_toArray, List.set_cons_zero, List.set_cons_succ]
    refine wpAnyH_ready (rs := [9]) (by kernel_rfl) (by simp) ?_
    refine AllReadyH.cons (atS5 (atS (atS (atS (atS at0))))) (fun K hK => ?_) AllReadyH.nil
    go_simp
    refine (rec_any (HC1.out.on HBA.out) f).mono ?_
    rintro e w9a ⟨rfl, hb6⟩
    rw [← HFE.out]
    have HB6 := hid hb6
    have HG6 : Hid (w9a.heap[g]? = some (.cells cs 68 (0, 0))) := hid ((hb6.block g (by rw [hh0a.out]; exact HNE.out.2.2.1)).trans (by rw [hh0a.out]; exact HCS.out))
    obtain ⟨u0, hu0⟩ : ∃ u, w9a.cell? ⟨g, i * 3, none⟩ = some u := ⟨_, (hb6.cell (p := ⟨g, i * 3, none⟩) (by rw [hh0a.out]; exact HNE.out.2.2.1)).trans q0⟩
    obtain ⟨u1, hu1⟩ : ∃ u, w9a.cell? ⟨g, i * 3 + 1, none⟩ = some u := ⟨_, (hb6.cell (p := ⟨g, i * 3 + 1, none⟩) (by rw [hh0a.out]; exact HNE.out.2.2.1)).trans q1⟩
    obtain ⟨u2, hu2⟩ : ∃ u, w9a.cell? ⟨g, i * 3 + 2, none⟩ = some u := ⟨_, (hb6.cell (p := ⟨g, i * 3 + 2, none⟩) (by rw [hh0a.out]; exact HNE.out.2.2.1)).trans q2⟩
    have zf := row_frozen HG6.out (i * 3); have zf1 := row_frozen HG6.out (i * 3 + 1); have zf2 := row_frozen HG6.out (i * 3 + 2)
    have HX6 : Hid (ExO (some g) w0a w9a) := hid ⟨hb6.os, hb6.tape, hb6.output, hb6.size, fun j hj _ => hb6.block j hj⟩
    clear hb6 q0 q1 q2
    unfold fdV
    go_wp2_with fail
    refine hK.out _ _ HX6.out (fun hHeld => ?_)
    clear hK K
    try simp only [Act.put, List.setIfInBounds_toArray, List.set_cons_zero, List.set_cons_succ]
    refine reg_takeO 10 (v := ?vy18_10) (atS5 (atS5 at0)) (by kernel_rfl) (by kernel_rfl) (by kernel_rfl) (by rfl) ?hyy18_10 hHeld ?resty18_10
    case hyy18_10 => (intro w' hSw; go_simp; try with_reducible rfl)
    try simp only [Act.put, List.setIfInBounds_toArray, List.set_cons_zero, List.set_cons_succ]
    refine wpAnyH_ready (rs := [11]) (by kernel_rfl) (by simp) ?_
    refine AllReadyH.cons (atS5 (atS5 (atS at0))) (fun K hK => ?_) AllReadyH.nil
    go_simp
    go_simp
    go_wp2_with fail
    refine hK.out _ _ (grown_set (grown_set (grown_set HX6.out _ _) _ _) _ _) (fun hHeld => ?_)
    clear hK K
    try simp only [Act.put]
    refine wpAnyH_done (by kernel_rfl) ?_ _
    refine NoPanic.normal ?_
    obtain ⟨W7, hW7⟩ : ∃ W7, W7 = ((w9a.setCell ⟨g, i * 3, none⟩ (.string (bs f'.nm))).setCell ⟨g, i * 3 + 1, none⟩ (.int .i64 f'.k)).setCell ⟨g, i * 3 + 2, none⟩ (.int .i64 f'.g) := ⟨_, rfl⟩
    rw [← hW7]
    clear s1 hu0 hu1 hu2 zf zf1 zf2
    have hbw : Below w1.heap.size w1 w9a := HBA.out.trans (HB6.out.mono HBA.out.size)
    have hts6 := HTS1.out.on hbw
    obtain ⟨g', cap', hv2', _, _, hput⟩ := hts6.n.put (i := i) HIN.out f'
    cases hv2'
    rw [← hW7] at hput
    have hgr : World.grownBy w9a W7 (some g) := by rw [hW7]; exact grown_set (grown_set (grown_set (grown_refl _ _) _ _) _ _) _ _
    have HTS7 : Hid (TS W7 B B2 (.slice A1 n1 c1) (.slice (some ⟨g, 0, none⟩) T.nw.length c2) (.slice A3 n3 c3) ⟨T.o, T.nw.set i f', T.mv⟩) := hid (hts6.newF hgr hput)
    have HT7 := hid ((HT1.out.on hbw).byF hts6 hgr)
    have HZ7 := hid ((HZ1.out.on hbw).byF hts6 hgr)
    have HB7 : Hid (BK w B W7) := hid (hts6.bkF (HB1.out.on (Nat.le_trans HTS1.out.b2 HTS1.out.sz) hbw) hgr)
    clear hW7 hbw hts6 hput hgr
    obtain ⟨a0, a1, a2⟩ := HT7.out.cells
    obtain ⟨z0, z1, z2⟩ := HZ7.out.cells
    have y0 := HZ7.out.frozen 0; have y1 := HZ7.out.frozen 1; have y2 := HZ7.out.frozen 2
    go_wp2_with fail
    rw [HE.out, ← HFE.out]
    exact ret_TBpe (by rfl) (by rfl) (HZ7.out.set3 _ _ _) (by rfl) (by rfl) ⟨_, rfl, (HTS7.out.box3 HZ7.out _ _ _).owt, HB7.out.set3 HBP.out.2.1 _ _ _⟩
end Go.Proofs.YtaegencmnmjgbaaGreat
