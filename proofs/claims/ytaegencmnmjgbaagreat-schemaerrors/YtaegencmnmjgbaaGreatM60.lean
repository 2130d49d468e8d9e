/-
  A script in memory; the law's few.
-/
import Derived.Test.YtaegencmnmjgbaaGreatM59

namespace Go.Proofs.YtaegencmnmjgbaaGreat
open Go.RowKit Go.Maps
set_option linter.unusedVariables false
set_option linter.unusedSimpArgs false
theorem RdC.belowB {w w' : World} {B : Nat} {A : Option Addr} {n cap : Nat} {l : List Ch} (h : RdC w B A n cap l) (hb : Below B w w') : RdC w' B A n cap l :=
  ⟨h.1, h.2.1, h.2.2.1, h.2.2.2.1, fun hn => by
    obtain ⟨b, off, e, hlt, hc⟩ := h.2.2.2.2 hn
    refine ⟨b, off, e, hlt, fun i hi => ?_⟩
    obtain ⟨A2, n2, c2, h1, h2⟩ := hc i hi
    exact ⟨A2, n2, c2, h1.below hb hlt, h2.below hb⟩⟩
theorem RdC.moreB {w : World} {B B' : Nat} {A : Option Addr} {n cap : Nat} {l : List Ch} (h : RdC w B A n cap l) (hB : B ≤ B') : RdC w B' A n cap l :=
  ⟨h.1, h.2.1, h.2.2.1, h.2.2.2.1, fun hn => by
    obtain ⟨b, off, e, hlt, hc⟩ := h.2.2.2.2 hn
    refine ⟨b, off, e, Nat.lt_of_lt_of_le hlt hB, fun i hi => ?_⟩
    obtain ⟨A2, n2, c2, h1, h2⟩ := hc i hi
    exact ⟨A2, n2, c2, h1, h2.more hB⟩⟩
abbrev OpP := O9 × V3
def opCel (p : OpP) : List Value := [.int .i64 p.1.kd, .string (bs p.1.nm), p.2.1, p.2.2.1, p.2.2.2]
def opP (w : World) (B : Nat) (p : OpP) : Prop := o9P w B p.1 p.2.1 p.2.2.1 p.2.2.2 ∧ o9ok p.1 ∧ ∀ c ∈ p.1.cs, shC c
theorem opPB : PB opP := ⟨fun ⟨⟨A1, n1, c1, A2, n2, c2, A3, n3, c3, e1, e2, e3, h1, h2, h3⟩, k⟩ hb => ⟨⟨A1, n1, c1, A2, n2, c2, A3, n3, c3, e1, e2, e3, h1.below hb, h2.belowB hb, h3.below hb⟩, k⟩,
  fun ⟨⟨A1, n1, c1, A2, n2, c2, A3, n3, c3, e1, e2, e3, h1, h2, h3⟩, k⟩ hB => ⟨⟨A1, n1, c1, A2, n2, c2, A3, n3, c3, e1, e2, e3, h1.more hB, h2.moreB hB, h3.more hB⟩, k⟩⟩
abbrev RdOp := RdG none 5 opCel opP
theorem RdOp.cellsAt {w : World} {A : Option Addr} {n c : Nat} {ps : List OpP} (h : RdOp w w.heap.size A n c ps) {i : Nat} {p : OpP} (hi : ps[i]? = some p) : i < n ∧ opP w w.heap.size p ∧ ∃ b off, A = some ⟨b, off, none⟩ ∧
    ∀ w', Below w.heap.size w w' → w'.cell? ⟨b, off + i * 5, none⟩ = some (.int .i64 p.1.kd) ∧ w'.cell? ⟨b, off + i * 5 + 1, none⟩ = some (.string (bs p.1.nm)) ∧ w'.cell? ⟨b, off + i * 5 + 2, none⟩ = some p.2.1 ∧ w'.cell? ⟨b, off + i * 5 + 3, none⟩ = some p.2.2.1 ∧ w'.cell? ⟨b, off + i * 5 + 4, none⟩ = some p.2.2.2 := by
  obtain ⟨h1, h2, b, off, e, _, hc⟩ := h.at hi
  exact ⟨h1, h2, b, off, e, fun w' hb => ⟨hc w' hb 0 (by omega), hc w' hb 1 (by omega), hc w' hb 2 (by omega), hc w' hb 3 (by omega), hc w' hb 4 (by omega)⟩⟩
section
variable {G : Nat → Prop} {w w' : World} {n c : Nat} {A : Option Addr}
theorem Rd.fr {l : List UInt8} (h : Rd w w.heap.size A n c l) (k : FrG G w w') : Rd w' w'.heap.size A n c l := by
  refine ⟨h.1, h.2.1, h.2.2.1, h.2.2.2.1, fun hn => ?_⟩
  obtain ⟨b, off, e, hlt, hc⟩ := h.2.2.2.2 hn
  have hb := k.cellB (hc 0 (by have := h.1; omega)) (fun ⟨_, _, _, e⟩ => by cases e)
  exact ⟨b, off, e, Nat.lt_of_lt_of_le hlt k.size, fun i hi => (cell_cong (p := ⟨b, _, none⟩) hb).trans (hc i hi)⟩
theorem RdI.fr {l : List Int} (h : RdI w w.heap.size A n c l) (k : FrG G w w') : RdI w' w'.heap.size A n c l := by
  refine ⟨h.1, h.2.1, h.2.2.1, h.2.2.2.1, fun hn => ?_⟩
  obtain ⟨b, off, e, hlt, hc⟩ := h.2.2.2.2 hn
  have hb := k.cellB (hc 0 (by have := h.1; omega)) (fun ⟨_, _, _, e⟩ => by cases e)
  exact ⟨b, off, e, Nat.lt_of_lt_of_le hlt k.size, fun i hi => (cell_cong (p := ⟨b, _, none⟩) hb).trans (hc i hi)⟩
theorem RdC.fr {l : List Ch} (h : RdC w w.heap.size A n c l) (k : FrG G w w') : RdC w' w'.heap.size A n c l := by
  refine ⟨h.1, h.2.1, h.2.2.1, h.2.2.2.1, fun hn => ?_⟩
  obtain ⟨b, off, e, hlt, hc⟩ := h.2.2.2.2 hn
  obtain ⟨_, _, _, h0, _⟩ := hc 0 (by have := h.1; omega)
  have hb := k.cellB h0.1 (fun ⟨_, _, _, e⟩ => by cases e)
  refine ⟨b, off, e, Nat.lt_of_lt_of_le hlt k.size, fun i hi => ?_⟩
  obtain ⟨A2, n2, c2, ⟨d0, d1, d2, d3, d4, d5, d6, d7, d8⟩, hr⟩ := hc i hi
  exact ⟨A2, n2, c2, ⟨(cell_cong (p := ⟨b, _, none⟩) hb).trans d0, (cell_cong (p := ⟨b, _, none⟩) hb).trans d1, (cell_cong (p := ⟨b, _, none⟩) hb).trans d2, (cell_cong (p := ⟨b, _, none⟩) hb).trans d3, (cell_cong (p := ⟨b, _, none⟩) hb).trans d4, (cell_cong (p := ⟨b, _, none⟩) hb).trans d5, (cell_cong (p := ⟨b, _, none⟩) hb).trans d6, (cell_cong (p := ⟨b, _, none⟩) hb).trans d7, (cell_cong (p := ⟨b, _, none⟩) hb).trans d8⟩, hr.fr k⟩
theorem opP.fr {p : OpP} (h : opP w w.heap.size p) (k : FrG G w w') : opP w' w'.heap.size p := by
  obtain ⟨⟨A1, n1, c1, A2, n2, c2, A3, n3, c3, e1, e2, e3, h1, h2, h3⟩, x⟩ := h
  exact ⟨⟨A1, n1, c1, A2, n2, c2, A3, n3, c3, e1, e2, e3, h1.fr k, h2.fr k, h3.fr k⟩, x⟩
theorem RdOp.fr {ps : List OpP} (h : RdOp w w.heap.size A n c ps) (k : FrG G w w') : RdOp w' w'.heap.size A n c ps := by
  refine ⟨h.1, h.2.1, h.2.2.1, fun a ha => opP.fr (h.2.2.2.1 a ha) k, fun hn => ?_⟩
  obtain ⟨b, off, e, hlt, _, hc⟩ := h.2.2.2.2 hn
  obtain ⟨p, hp⟩ : ∃ p, ps[0]? = some p := ⟨_, List.getElem?_eq_getElem (by have := h.1; omega)⟩
  have h0 := hc 0 p hp 0 (by omega)
  have hb := k.cellB (v := .int .i64 p.1.kd) (h0.trans rfl) (fun ⟨_, _, _, e⟩ => by cases e)
  exact ⟨b, off, e, Nat.lt_of_lt_of_le hlt k.size, (fun t e => nomatch e), fun i a hi j hj => (cell_cong (p := ⟨b, _, none⟩) hb).trans (hc i a hi j hj)⟩
end
set_option maxRecDepth 20000 in
set_option maxHeartbeats 8000000 in
theorem few9_any {w : World} {A : Option Addr} {n c : Nat} {ps : List OpP} (h : RdOp w w.heap.size A n c ps) :
    Calls Tryz.prog 10 #[.slice A n c] w fun e w' => ∃ b, e = .returned (.bool b) ∧ (b = true → n ≤ 60) ∧ Below w.heap.size w w' := by
  have HL := hid h.1
  have hnm := h.lenMax
  have H := hid h; clear h
  go_enter Tryz.func10, Tryz.ntmps10
  go_wp2_with fail
  go_loopw [3, 12] (fun s i wr => ∃ (j : Nat) (z : Int), j ≤ n ∧ i = .int .i64 j ∧ s = .int .i64 z ∧ Hid (Below w.heap.size w wr)) (fun _ i _ => n - (intOf i).toNat)
  case atStart => exact ⟨0, 0, by omega, rfl, rfl, B0 w⟩
  case round =>
    obtain ⟨j, z, hj, rfl, rfl, HB⟩ := hrel
    by_cases hlt : j < n
    · obtain ⟨p, hp⟩ : ∃ p, ps[j]? = some p := ⟨_, List.getElem?_eq_getElem (by have := HL.out; omega)⟩
      obtain ⟨_, ⟨hop, hok, hsh⟩, b, off, rfl, hc⟩ := H.out.cellsAt hp
      obtain ⟨o, u1, u2, u3⟩ := p
      obtain ⟨A1, n1, c1, A2, n2, c2, A3, n3, c3, e1, e2, e3, h1, h2, h3⟩ := hop
      dsimp only at e1 e2 e3 h1 h2 h3 hc hok hsh
      subst e1; subst e2; subst e3
      obtain ⟨d0, d1, d2, d3, d4⟩ := hc wr HB.out
      obtain ⟨q, hq⟩ : ∃ q, q = wr.heap.size := ⟨_, rfl⟩
      obtain ⟨wv, hwv⟩ : ∃ wv, wv = wr.alloc (.cells #[.int .i64 o.kd, .string (bs o.nm), .slice A1 n1 c1, .slice A2 n2 c2, .slice A3 n3 c3] 54) := ⟨_, rfl⟩
      have HQ := hid hq; have HWV := hid hwv
      have HX : Hid (o9C wv q o (.slice A1 n1 c1) (.slice A2 n2 c2) (.slice A3 n3 c3)) := by rw [hwv, hq]; exact hid (o9C.new _ _ _ _ _)
      have HBV : Hid (Below w.heap.size w wv) := by rw [hwv]; exact hid (Ba HB.out _)
      have H1 := hid (h1.on HBV.out); have H2 := hid (h2.on HBV.out); have HSH := hid hsh
      have HL1 := hid h1.1; have HL2 := hid h2.1
      have l1 : (n1 : Int) ≤ 9223372036854775807 := by have := Nat.le_trans h1.2.1 h1.2.2.1; unfold maxLen at this; omega
      have l2 : (n2 : Int) ≤ 9223372036854775807 := by have := Nat.le_trans h2.2.1 h2.2.2.1; unfold maxLen at this; omega
      have l3 : (n3 : Int) ≤ 9223372036854775807 := by have := Nat.le_trans h3.2.1 h3.2.2.1; unfold maxLen at this; omega
      have l4 : (o.nm.length : Int) ≤ 9223372036854775807 := by have := hok.2.1; omega
      have hji : (j : Int) < n := by omega
      have hj0 : (0 : Int) ≤ j := by omega
      clear hp hok hsh hc h1 h2 h3 hq hwv
      go_upto_region 5 with fail
      rw [← HWV.out, ← HQ.out]
      clear d0 d1 d2 d3 d4
      obtain ⟨x0, x1, x2, x3, x4⟩ := HX.out.cells
      go_wp2_with fail
      clear x0 x1 x2 x3 x4
      go_loopw [3, 32] (fun s i wr2 => ∃ (k : Nat) (z : Int), k ≤ n1 ∧ i = .int .i64 k ∧ s = .int .i64 z ∧ Hid (Below wv.heap.size wv wr2)) (fun _ i _ => n1 - (intOf i).toNat)
      case atStart => exact ⟨0, _, by omega, rfl, rfl, B0 _⟩
      case round =>
        obtain ⟨k, z2, hk, rfl, rfl, HB2⟩ := hrel
        by_cases hk2 : k < n1
        · obtain ⟨f, hf⟩ : ∃ f, o.fs[k]? = some f := ⟨_, List.getElem?_eq_getElem (by have := HL1.out; omega)⟩
          obtain ⟨_, hk64, hg64, hnl, b2, off2, rfl, hc2⟩ := H1.out.at hf
          obtain ⟨c0, cc1, cc2⟩ := hc2 wr HB2.out
          have hfl : (f.nm.length : Int) ≤ 9223372036854775807 := by unfold nmMax at hnl; omega
          have hki : (k : Int) < n1 := by omega
          have hk0 : (0 : Int) ≤ k := by omega
          clear hf hk64 hg64 hnl hc2
          go_wp2_with fail
          exact ⟨⟨k + 1, _, by omega, by go_num, rfl, Ba HB2.out _⟩, by simp [intOf]; omega⟩
        · obtain rfl : k = n1 := by omega
          obtain ⟨x0, x1, x2, x3, x4⟩ := (HX.out.on HB2.out).cells
          go_wp2_with fail
          clear x0 x1 x2 x3 x4
          go_loopw [3, 45] (fun s i wr3 => ∃ (g : Nat) (z : Int), g ≤ n2 ∧ i = .int .i64 g ∧ s = .int .i64 z ∧ Hid (Below wv.heap.size wv wr3)) (fun _ i _ => n2 - (intOf i).toNat)
          case atStart => exact ⟨0, _, by omega, rfl, rfl, HB2⟩
          case round =>
            obtain ⟨g, z3, hg, rfl, rfl, HB3⟩ := hrel
            by_cases hg2 : g < n2
            · obtain ⟨c, hc⟩ : ∃ c, o.cs[g]? = some c := ⟨_, List.getElem?_eq_getElem (by have := HL2.out; omega)⟩
              obtain ⟨_, _, b3, off3, Ao, no, co, rfl, hcc, hod⟩ := H2.out.at hc
              obtain ⟨d0, d1, d2, d3, d4, d5, d6, d7, d8⟩ := hcc _ HB3.out
              have hs := HSH.out c (List.mem_of_getElem? hc)
              unfold shC nmMax at hs
              obtain ⟨s1, s2, s3, s4⟩ := hs
              have hno : c.od.length = no := hod.1
              have m1 : (c.nm.length : Int) ≤ 9223372036854775807 := by omega
              have m2 : (c.to.nm.length : Int) ≤ 9223372036854775807 := by omega
              have m3 : (c.dt.size : Int) ≤ 9223372036854775807 := by omega
              have m4 : (no : Int) ≤ 9223372036854775807 := by omega
              have hgi : (g : Int) < n2 := by omega
              have hg0 : (0 : Int) ≤ g := by omega
              obtain ⟨p, hp⟩ : ∃ p, p = wr.heap.size := ⟨_, rfl⟩
              obtain ⟨w3, hw3⟩ : ∃ w3, w3 = wr.alloc (.cells #[.int .i64 c.op, .string (bs c.nm), .string (bs c.to.nm), .int .i64 c.to.k, .int .i64 c.to.g, .int .i64 c.dk, .int .u64 c.dn, .string c.dt, .slice Ao no co] 73) := ⟨_, rfl⟩
              have HP := hid hp; have HW3 := hid hw3
              have HCB : Hid (CB w3 p c Ao no co 73) := by rw [hw3, hp]; exact hid (CB.new wr c Ao no co _)
              have HB4 : Hid (Below wv.heap.size wv w3) := by rw [hw3]; exact hid (Ba HB3.out _)
              clear hcc hod hc s1 s2 s3 s4 hno hp hw3
              go_upto_region 14 with fail
              rw [← HW3.out, ← HP.out]
              clear d0 d1 d2 d3 d4 d5 d6 d7 d8
              obtain ⟨y0, y1, y2, y3, y4, y5, y6, y7, y8⟩ := HCB.out.cells
              go_wp2_with fail
              exact ⟨⟨g + 1, _, by omega, by go_num, rfl, HB4⟩, by simp [intOf]; omega⟩
            · have HBE : Hid (Below w.heap.size w wr) := hid (Bt HBV.out HB3.out)
              have hje : (j : Int) + 1 ≤ 9223372036854775807 := by omega
              go_wp2_with fail
              exact ⟨⟨j + 1, _, by omega, by go_num, rfl, HBE⟩, by simp [intOf]; omega⟩
    · obtain rfl : j = n := by omega
      by_cases h60 : (j : Int) ≤ 60
      · have t1 : decide ((j : Int) ≤ 60) = true := decide_eq_true h60
        have HN : Hid (j ≤ 60) := hid (by omega)
        clear h60
        go_wp2_with fail
        go_ret
        exact ⟨_, rfl, fun _ => HN.out, HB.out⟩
      · have t1 : decide ((j : Int) ≤ 60) = false := decide_eq_false h60
        clear h60
        go_wp2_with fail
        go_ret
        exact ⟨_, rfl, fun h => (by cases h), HB.out⟩
end Go.Proofs.YtaegencmnmjgbaaGreat
