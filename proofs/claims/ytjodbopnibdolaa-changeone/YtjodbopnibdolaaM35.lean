/-
  The walk of ChangeRight.
  From what a law's arguments hold to what its walk is told: changes, slices of changes, slices of numbers.
  The document's Equal of layer 7, and the statements' own plain.
-/
import Derived.Test.YtjodbopnibdolaaM34
import Derived.Test.YtjodbopnibdolaaM4
import Derived.Test.YtjodbopnibdolaaM3
import Derived.Test.YtjodbopnibdolaaM15

namespace Go.Proofs.Ytjodbopnibdolaa
open Go.RowKit
set_option linter.unusedVariables false
set_option linter.unusedSimpArgs false

/-- A change as a law is handed it. -/
def ChA (w : World) (c : Ch) (A : Option Addr) (n cp : Nat) : Prop := (I64 c.op ∧ I64 c.to.k ∧ I64 c.to.g ∧ I64 c.dk ∧ U64 c.dn) ∧ shC c ∧ RdI w w.heap.size A n cp c.od
theorem ChA.on {w w' : World} {c : Ch} {A : Option Addr} {n cp : Nat} (h : ChA w c A n cp) (hb : Below w.heap.size w w') : ChA w' c A n cp := ⟨h.1, h.2.1, h.2.2.on hb⟩
/-- A slice of one change that the call makes. -/
theorem rdC_one {w : World} {c : Ch} {A : Option Addr} {n cp : Nat} (h : ChA w c A n cp) {g : Nat} (hg : w.heap[g]? = some (.cells #[.int .i64 c.op, .string (bs c.nm), .string (bs c.to.nm), .int .i64 c.to.k, .int .i64 c.to.g, .int .i64 c.dk, .int .u64 c.dn, .string c.dt, .slice A n cp] 30 (0, 0))) : RdC w w.heap.size (some ⟨g, 0, none⟩) 1 1 [c] := by
  refine ⟨rfl, Nat.le_refl _, by unfold maxLen; omega, fun x hx => by simp at hx; subst hx; exact h.1, fun _ => ⟨g, 0, rfl, row_lt hg, fun i hi => ?_⟩⟩
  have : i = 0 := by simp at hi; omega
  subst this
  exact ⟨A, n, cp, ⟨row_cell hg _, row_cell hg _, row_cell hg _, row_cell hg _, row_cell hg _, row_cell hg _, row_cell hg _, row_cell hg _, row_cell hg _⟩, h.2.2⟩
theorem rdC_two {w : World} {c d : Ch} {A A2 : Option Addr} {n cp n2 cp2 : Nat} (h : ChA w c A n cp) (h2 : ChA w d A2 n2 cp2) {g : Nat} (hg : w.heap[g]? = some (.cells #[.int .i64 c.op, .string (bs c.nm), .string (bs c.to.nm), .int .i64 c.to.k, .int .i64 c.to.g, .int .i64 c.dk, .int .u64 c.dn, .string c.dt, .slice A n cp, .int .i64 d.op, .string (bs d.nm), .string (bs d.to.nm), .int .i64 d.to.k, .int .i64 d.to.g, .int .i64 d.dk, .int .u64 d.dn, .string d.dt, .slice A2 n2 cp2] 30 (0, 0))) : RdC w w.heap.size (some ⟨g, 0, none⟩) 2 2 [c, d] := by
  refine ⟨rfl, Nat.le_refl _, by unfold maxLen; omega, fun x hx => by simp at hx; rcases hx with rfl | rfl; exact h.1; exact h2.1, fun _ => ⟨g, 0, rfl, row_lt hg, fun i hi => ?_⟩⟩
  have : i = 0 ∨ i = 1 := by simp at hi; omega
  rcases this with rfl | rfl
  · exact ⟨A, n, cp, ⟨row_cell hg _, row_cell hg _, row_cell hg _, row_cell hg _, row_cell hg _, row_cell hg _, row_cell hg _, row_cell hg _, row_cell hg _⟩, h.2.2⟩
  · exact ⟨A2, n2, cp2, ⟨row_cell hg _, row_cell hg _, row_cell hg _, row_cell hg _, row_cell hg _, row_cell hg _, row_cell hg _, row_cell hg _, row_cell hg _⟩, h2.2.2⟩
/-- So few: then all is short. -/
theorem few_chOk {n m : Nat} {l : List Fd} {cs : List Ch} (h : fewP8 n l m cs) {c : Ch} (hc : c ∈ cs) (hi : I64 c.op ∧ I64 c.to.k ∧ I64 c.to.g ∧ I64 c.dk ∧ U64 c.dn) : chOk c := ⟨hi.1, hi.2.1, hi.2.2.1, hi.2.2.2.1, hi.2.2.2.2, by have := h.2.2.2 c hc; unfold wtC at this; omega⟩
theorem few_short {n m : Nat} {l : List Fd} {cs : List Ch} (h : fewP8 n l m cs) : short l := fun f hf => by have := h.2.2.1 f hf; omega
/-- How many fields a change makes. -/
def moreC (c : Ch) : Int := if c.op = 1 then 1 else if c.op = 2 then -1 else 0
theorem newC_len {l : List Fd} {c : Ch} (h : mkE l c = 0) : ((newC l c).length : Int) = l.length + moreC c := by
  obtain ⟨hr, h1, h5, hk, hc, ha, ho, hn⟩ := mkE_facts h
  unfold moreC newC
  by_cases e1 : c.op = 1
  · rw [if_pos e1, if_pos e1, newF_id (by omega) (by omega) (by omega) _ (Nat.le_refl _)]; simp
  · rw [if_neg e1, if_neg e1]
    by_cases e5 : c.op = 5
    · rw [if_pos e5, if_neg (by omega)]
      have hab : allB c.od l.length = true := by unfold noOrd at ho; rw [e5] at ho; simpa using ho
      rw [odF_length (allB_mem hab), (allB_iff.1 hab).1]; simp
    · rw [if_neg e5]
      obtain ⟨k, hkk⟩ := hk (by omega) (by omega)
      rw [hkk]
      by_cases e2 : c.op = 2
      · rw [if_pos e2, newF_erase e2 _ (Nat.le_refl _), List.take_length, List.length_eraseIdx, if_pos (findN_lt hkk)]
        have := findN_lt hkk; omega
      · rw [if_neg e2]
        obtain ⟨f, hf, _⟩ := findN_get hkk
        rw [newF_set e2 hf, List.length_set]; simp
theorem mkT_nw0 {l : List Fd} {c : Ch} (h : mkE l c = 0) : (mkT l c).nw = newC l c := by rw [mkT_ok h]
theorem mkT_nwN {l : List Fd} {c : Ch} (h : mkE l c ≠ 0) : (mkT l c).nw = [] := by rw [mkT_no h]; rfl

set_option maxRecDepth 20000 in
set_option maxHeartbeats 8000000 in
theorem walk_ChangeRight (A : Option Addr) (n cp : Nat) (l : List Fd) (c : Ch) (Ao : Option Addr) (no co : Nat) (w : World) (h : RdF w w.heap.size A n cp l) (hc : ChA w c Ao no co) :
    Calls Try.prog 5 #[.slice A n cp, chV c Ao no co] w fun e w' => e = .returned (.bool true) ∧ Below w.heap.size w w' := by
  obtain ⟨w0, hw0⟩ : ∃ w0, w0 = w.alloc (.cells #[.int .i64 c.op, .string (bs c.nm), .string (bs c.to.nm), .int .i64 c.to.k, .int .i64 c.to.g, .int .i64 c.dk, .int .u64 c.dn, .string c.dt, .slice Ao no co] 30) := ⟨_, rfl⟩
  obtain ⟨rc, hrc⟩ : ∃ rc, rc = w.heap.size := ⟨_, rfl⟩
  have HW0 := hid hw0; have HRC := hid hrc
  have HC0 : Hid (CB w0 rc c Ao no co 30) := by rw [hw0, hrc]; exact hid (CB.new w c Ao no co _)
  have HB0 : Hid (Below w.heap.size w w0) := by rw [hw0]; exact hid (B1 _ _)
  have H := hid (h.on HB0.out); have HA := hid (hc.on HB0.out)
  obtain ⟨g, hg⟩ : ∃ g, g = w0.heap.size := ⟨_, rfl⟩
  obtain ⟨w1, hw1⟩ : ∃ w1, w1 = w0.alloc (.cells #[.int .i64 c.op, .string (bs c.nm), .string (bs c.to.nm), .int .i64 c.to.k, .int .i64 c.to.g, .int .i64 c.dk, .int .u64 c.dn, .string c.dt, .slice Ao no co] 30) := ⟨_, rfl⟩
  have HG := hid hg; have HW1 := hid hw1
  have HB1 : Hid (Below w0.heap.size w0 w1) := by rw [hw1]; exact hid (B1 _ _)
  have HR1 : Hid (RdC w1 w1.heap.size (some ⟨g, 0, none⟩) 1 1 [c]) := hid (rdC_one (HA.out.on HB1.out) (by rw [hw1, hg]; exact heap_alloc_new _ _))
  have HLN : Hid (l.length = n) := hid h.1
  clear h hc hw0 hrc hg hw1
  obtain ⟨k0, k1, k2, k3, k4, k5, k6, k7, k8⟩ := HC0.out.cells
  unfold chV
  go_enter Try.func5, Try.ntmps5
  go_upto_region 1 with fail
  rw [← HW0.out, ← HRC.out]
  go_wp2_with fail
  rw [← HW1.out, ← HG.out]
  refine (few8_any (H.out.on HB1.out) HR1.out (fun x hx => by simp at hx; subst hx; exact HA.out.2.1)).mono ?_
  rintro e w2 ⟨fb, rfl, hfew, hb2⟩
  have HFEW := hid hfew
  have HB2 := hid (Bt HB1.out hb2)
  clear hfew hb2 k0 k1 k2 k3 k4 k5 k6 k7 k8
  obtain ⟨k0, k1, k2, k3, k4, k5, k6, k7, k8⟩ := (HC0.out.on HB2.out).cells
  cases fb with
  | false =>
    go_wp2_with fail
    refine (alive8_any _).mono ?_
    rintro e w3 ⟨rfl, hb3⟩
    go_wp2_with fail
    go_ret
    exact ⟨rfl, Bt HB0.out (Bt HB2.out hb3)⟩
  | true =>
    have HF := hid (HFEW.out rfl)
    have HCK : Hid (chOk c) := hid (few_chOk HF.out (by simp) HA.out.1)
    go_wp2_with fail
    refine (p8apply_any (c := c) (H.out.on HB2.out) (few_short HF.out) HCK.out (HA.out.on HB2.out).2.2).mono ?_
    rintro e w3 ⟨A3, n3, c3, rfl, h3, hb3⟩
    have HB3 := hid (Bt HB2.out hb3)
    have H3 := hid h3
    clear hb3 h3 k0 k1 k2 k3 k4 k5 k6 k7 k8
    obtain ⟨k0, k1, k2, k3, k4, k5, k6, k7, k8⟩ := (HC0.out.on HB3.out).cells
    obtain ⟨me, hme⟩ : ∃ me, me = mkE l c := ⟨_, rfl⟩
    rw [← hme]
    by_cases hm0 : me = 0
    · have HM0 : Hid (mkE l c = 0) := hid (by rw [← hme]; exact hm0)
      clear hme
      subst hm0
      rw [mkT_nw0 HM0.out] at H3
      have HR := hid (newC_right HM0.out)
      have HSN := hid (right_short HR.out.2)
      have HLC : Hid ((n3 : Int) = n + moreC c) := hid (by have := newC_len HM0.out; have := H3.out.1; have := HLN.out; omega)
      have hn40 : (n : Int) ≤ 16 := by have := right_len HR.out.1; have := HLN.out; omega
      have hl := HLC.out
      by_cases e1 : c.op = 1
      · have t1 : (c.op == 1) = true := by simpa using e1
        have hm1 : moreC c = 1 := by unfold moreC; rw [if_pos e1]
        rw [hm1] at hl
        have q1 : ((n3 : Int) == (n : Int) + 1) = true := by simpa using hl
        clear e1 hm1
        go_wp2_with fail
        refine (alive8_any _).mono ?_
        rintro e w4 ⟨rfl, hb4⟩
        have HB4 := hid (Bt HB3.out hb4)
        have H4 := hid (H3.out.on hb4)
        clear hb4
        go_wp2_with fail
        refine (p6right_any (H.out.on HB4.out) (few_short HF.out)).mono ?_
        rintro e w5 ⟨rfl, hb5⟩
        rw [HR.out.1]
        go_wp2_with fail
        refine (p6right_any (H4.out.on hb5) HSN.out).mono ?_
        rintro e w6 ⟨rfl, hb6⟩
        rw [HR.out.2]
        go_wp2_with fail
        go_ret
        exact ⟨rfl, Bt HB0.out (Bt HB4.out (Bt hb5 hb6))⟩
      · by_cases e2 : c.op = 2
        · have t1 : (c.op == 1) = false := by simpa using e1
          have t2 : (c.op == 2) = true := by simpa using e2
          have hm1 : moreC c = -1 := by unfold moreC; rw [if_neg e1, if_pos e2]
          rw [hm1] at hl
          have q1 : ((n3 : Int) == (n : Int) + -1) = true := by simpa using hl
          clear e1 e2 hm1
          go_wp2_with fail
          refine (alive8_any _).mono ?_
          rintro e w4 ⟨rfl, hb4⟩
          have HB4 := hid (Bt HB3.out hb4)
          have H4 := hid (H3.out.on hb4)
          clear hb4
          go_wp2_with fail
          refine (p6right_any (H.out.on HB4.out) (few_short HF.out)).mono ?_
          rintro e w5 ⟨rfl, hb5⟩
          rw [HR.out.1]
          go_wp2_with fail
          refine (p6right_any (H4.out.on hb5) HSN.out).mono ?_
          rintro e w6 ⟨rfl, hb6⟩
          rw [HR.out.2]
          go_wp2_with fail
          go_ret
          exact ⟨rfl, Bt HB0.out (Bt HB4.out (Bt hb5 hb6))⟩
        · have t1 : (c.op == 1) = false := by simpa using e1
          have t2 : (c.op == 2) = false := by simpa using e2
          have hm1 : moreC c = 0 := by unfold moreC; rw [if_neg e1, if_neg e2]
          rw [hm1, Int.add_zero] at hl
          have q1 : ((n3 : Int) == (n : Int)) = true := by simpa using hl
          clear e1 e2 hm1
          go_wp2_with fail
          refine (alive8_any _).mono ?_
          rintro e w4 ⟨rfl, hb4⟩
          have HB4 := hid (Bt HB3.out hb4)
          have H4 := hid (H3.out.on hb4)
          clear hb4
          go_wp2_with fail
          refine (p6right_any (H.out.on HB4.out) (few_short HF.out)).mono ?_
          rintro e w5 ⟨rfl, hb5⟩
          rw [HR.out.1]
          go_wp2_with fail
          refine (p6right_any (H4.out.on hb5) HSN.out).mono ?_
          rintro e w6 ⟨rfl, hb6⟩
          rw [HR.out.2]
          go_wp2_with fail
          go_ret
          exact ⟨rfl, Bt HB0.out (Bt HB4.out (Bt hb5 hb6))⟩
    · have HM0 : Hid (mkE l c ≠ 0) := hid (by rw [← hme]; exact hm0)
      have t0 : (me != 0) = true := by simpa using hm0
      rw [mkT_nwN HM0.out] at H3
      obtain rfl : 0 = n3 := H3.out.1
      clear hme hm0
      go_wp2_with fail
      refine (alive8_any _).mono ?_
      rintro e w4 ⟨rfl, hb4⟩
      go_wp2_with fail
      go_ret
      exact ⟨rfl, Bt HB0.out (Bt HB3.out hb4)⟩
end Go.Proofs.Ytjodbopnibdolaa

namespace Go.Proofs.Ytjodbopnibdolaa
open Go.ChangeShapes Go.WideShapes Go.ChangeAt Go.RowKit Go.Deep
set_option linter.unusedVariables false

section
variable {H : Type} {enc : TypeId × Value → H} {W : World} {fuel : Nat} {x : DataW H × List MemPlace}
theorem f_one9 : Try.prog.cellsOf 30 = 9 := by kernel_rfl
theorem f_onel : Try.prog.cellsOf 28 = 1 := by kernel_rfl
theorem weights_in {e : TypeId} : ∀ (l : List (DataW H)) (d : DataW H) (k : Nat), d ∈ l → k ∈ d.weights Try.prog e → k ∈ DataW.weightsAll Try.prog e l := by
  intro l
  induction l with
  | nil => intro d k hd; cases hd
  | cons y l ih =>
    intro d k hd hk
    simp only [DataW.weightsAll, List.mem_append]
    rcases List.mem_cons.1 hd with rfl | hd
    · exact .inl hk
    · exact .inr (ih d k hd hk)
theorem rdIC_of_cells {a : Addr} {len cap : Nat} {zs : List Int} (hl : len ≤ cap) (hm : cap ≤ maxLen) (hz : zs.length = cap)
    (hcell : ∀ i, i < zs.length → W.cell? (a.add i) = some (.int .i64 (zs.getD i 0))) (hwz : ∀ n ∈ zs, (Lit.int .i64 n).wf = true) :
    RdI W W.heap.size (some a) len cap (zs.take len) := by
  refine ⟨by simp; omega, hl, hm, fun y hy => hwz y (List.mem_of_mem_take hy), fun hn => ?_⟩
  obtain ⟨b, off, spot⟩ := a
  have h0 := hcell 0 (by omega)
  have hspot : spot = none := by simpa [Addr.add] using World.cell?_spot h0
  subst hspot
  refine ⟨b, off, rfl, ?_, fun i hi => ?_⟩
  · rw [add_plain] at h0
    by_cases hb : b < W.heap.size
    · exact hb
    · simp [World.cell?, Array.getElem?_eq_none (show W.heap.size ≤ b by omega)] at h0
  · simp at hi
    have h1 := hcell i (by omega)
    rw [add_plain] at h1
    rw [h1]
    simp [List.getD_eq_getElem?_getD, show i < zs.length by omega]
theorem rdIC_of_trod {v : Value} (h : DataW.trod enc Try.prog W 0 (fun _ => true) true fuel 28 [v] = some x) (hz : ∀ n ∈ x.1.weights Try.prog 28, n ≤ reachBytes) : ∃ a len cap l, v = .slice a len cap ∧ RdI W W.heap.size a len cap l ∧ l.length ≤ nmMax := by
  rcases open_ints Try.underlying28 Try.underlying3 (by kernel_rfl) h with ⟨hcs, _⟩ | ⟨a, l, c, zs, hcs, _, hl, hm, hzl, hx, hcell, hwz⟩
  · simp at hcs
    exact ⟨none, 0, 0, [], hcs, RdI.nil _ _, by simp⟩
  · simp at hcs
    have hzc : zs.length = c := by simpa using hzl
    refine ⟨some a, l, c, _, hcs, rdIC_of_cells hl hm hzc hcell hwz, ?_⟩
    rw [hx] at hz
    have hb : Try.prog.bytesOf 3 = 8 := by kernel_rfl
    have := hz (((lits .i64 (zs.take l) : List (DataW H)).length + (lits .i64 (zs.drop l) : List (DataW H)).length) * Try.prog.bytesOf 3) (by simp [DataW.weights, Try.underlying28])
    rw [hb] at this
    simp only [lits, List.length_map, List.length_take, List.length_drop] at this
    rw [List.length_take]
    unfold reachBytes at this
    unfold nmMax
    omega
theorem rdI_of_trodC {v : Value} (h : DataW.trod enc Try.prog W 0 (fun _ => true) true fuel 28 [v] = some x) : ∃ a len cap l, v = .slice a len cap ∧ RdI W W.heap.size a len cap l := by
  rcases open_ints Try.underlying28 Try.underlying3 (by kernel_rfl) h with ⟨hcs, _⟩ | ⟨a, l, c, zs, hcs, _, hl, hm, hzl, hx, hcell, hwz⟩
  · simp at hcs
    exact ⟨none, 0, 0, [], hcs, RdI.nil _ _⟩
  · simp at hcs
    exact ⟨some a, l, c, _, hcs, rdIC_of_cells hl hm (by simpa using hzl) hcell hwz⟩
set_option maxRecDepth 20000 in
theorem vl2_of_trod {cs : List Value} (h : DataW.trod enc Try.prog W 0 (fun _ => true) true fuel 27 cs = some x) :
    ∃ (k n : Int) (t : ByteArray), (I64 k ∧ U64 n) ∧ cs = [.int .i64 k, .int .u64 n, .string t] ∧ t.size ∈ x.1.weights Try.prog 27 := by
  obtain ⟨xs, n, _, hx, hlen, hxl, hf⟩ := DataW.trod_struct Try.underlying27 h
  rw [f_vl] at hlen
  match cs, hlen with
  | [c0, c1, c2], _ =>
    match xs, hxl with
    | [y0, y1, y2], _ =>
      have g0 : DataW.trod enc Try.prog W 0 (fun _ => true) true n 3 (List.take (Try.prog.cellsOf 3) (List.drop 0 [c0, c1, c2])) = some y0 := hf 0 _ rfl
      rw [f_one] at g0
      change DataW.trod enc Try.prog W 0 (fun _ => true) true n 3 [c0] = some y0 at g0
      have g1 : DataW.trod enc Try.prog W 0 (fun _ => true) true n 25 (List.take (Try.prog.cellsOf 25) (List.drop 1 [c0, c1, c2])) = some y1 := hf 1 _ rfl
      rw [f_oneu] at g1
      change DataW.trod enc Try.prog W 0 (fun _ => true) true n 25 [c1] = some y1 at g1
      have g2 : DataW.trod enc Try.prog W 0 (fun _ => true) true n 9 (List.take (Try.prog.cellsOf 9) (List.drop 2 [c0, c1, c2])) = some y2 := hf 2 _ rfl
      rw [f_ones] at g2
      change DataW.trod enc Try.prog W 0 (fun _ => true) true n 9 [c2] = some y2 at g2
      obtain ⟨a0, q0, _, w0⟩ := DataW.trod_int Try.underlying3 g0
      obtain ⟨a1, q1, _, w1⟩ := DataW.trod_int Try.underlying25 g1
      obtain ⟨a2, q2, e2, w2⟩ := DataW.trod_string Try.underlying9 g2
      simp at q0 q1 q2
      subst q0; subst q1; subst q2
      refine ⟨a0, a1, a2, ⟨w0, U64.of_wf w1⟩, rfl, ?_⟩
      rw [hx, e2]
      simp [DataW.weights, Try.underlying27, DataW.weightsEach]
set_option maxRecDepth 40000 in
theorem ch_of_trod {cs : List Value} (h : DataW.trod enc Try.prog W 0 (fun _ => true) true fuel 30 cs = some x) (hz : ∀ n ∈ x.1.weights Try.prog 30, n ≤ reachBytes) :
    ∃ (c : Ch) (A : Option Addr) (n cp : Nat), ChA W c A n cp ∧ cs = [.int .i64 c.op, .string (bs c.nm), .string (bs c.to.nm), .int .i64 c.to.k, .int .i64 c.to.g, .int .i64 c.dk, .int .u64 c.dn, .string c.dt, .slice A n cp] := by
  obtain ⟨xs, n, _, hx, hlen, hxl, hf⟩ := DataW.trod_struct Try.underlying30 h
  rw [f_one9] at hlen
  match cs, hlen with
  | [c0, c1, c2, c3, c4, c5, c6, c7, c8], _ =>
    match xs, hxl with
    | [y0, y1, y2, y3, y4], _ =>
      have g0 : DataW.trod enc Try.prog W 0 (fun _ => true) true n 3 (List.take (Try.prog.cellsOf 3) (List.drop 0 [c0, c1, c2, c3, c4, c5, c6, c7, c8])) = some y0 := hf 0 _ rfl
      rw [f_one] at g0
      change DataW.trod enc Try.prog W 0 (fun _ => true) true n 3 [c0] = some y0 at g0
      have g1 : DataW.trod enc Try.prog W 0 (fun _ => true) true n 9 (List.take (Try.prog.cellsOf 9) (List.drop 1 [c0, c1, c2, c3, c4, c5, c6, c7, c8])) = some y1 := hf 1 _ rfl
      rw [f_ones] at g1
      change DataW.trod enc Try.prog W 0 (fun _ => true) true n 9 [c1] = some y1 at g1
      have g2 : DataW.trod enc Try.prog W 0 (fun _ => true) true n 24 (List.take (Try.prog.cellsOf 24) (List.drop 2 [c0, c1, c2, c3, c4, c5, c6, c7, c8])) = some y2 := hf 2 _ rfl
      rw [f_fd] at g2
      change DataW.trod enc Try.prog W 0 (fun _ => true) true n 24 [c2, c3, c4] = some y2 at g2
      have g3 : DataW.trod enc Try.prog W 0 (fun _ => true) true n 27 (List.take (Try.prog.cellsOf 27) (List.drop 5 [c0, c1, c2, c3, c4, c5, c6, c7, c8])) = some y3 := hf 3 _ rfl
      rw [f_vl] at g3
      change DataW.trod enc Try.prog W 0 (fun _ => true) true n 27 [c5, c6, c7] = some y3 at g3
      have g4 : DataW.trod enc Try.prog W 0 (fun _ => true) true n 28 (List.take (Try.prog.cellsOf 28) (List.drop 8 [c0, c1, c2, c3, c4, c5, c6, c7, c8])) = some y4 := hf 4 _ rfl
      rw [f_onel] at g4
      change DataW.trod enc Try.prog W 0 (fun _ => true) true n 28 [c8] = some y4 at g4
      obtain ⟨a0, q0, _, w0⟩ := DataW.trod_int Try.underlying3 g0
      obtain ⟨a1, q1, e1, w1⟩ := DataW.trod_string Try.underlying9 g1
      obtain ⟨f, hfd, q2, m2⟩ := fd_of_trod g2
      obtain ⟨k, vn, t, hv, q3, m3⟩ := vl2_of_trod g3
      have hw : x.1.weights Try.prog 30 = y0.1.weights Try.prog 3 ++ (y1.1.weights Try.prog 9 ++ (y2.1.weights Try.prog 24 ++ (y3.1.weights Try.prog 27 ++ (y4.1.weights Try.prog 28 ++ [])))) := by
        rw [hx]; simp [DataW.weights, Try.underlying30, DataW.weightsEach]
      rw [hw] at hz
      have hz1 : ∀ m ∈ y1.1.weights Try.prog 9, m ≤ reachBytes := fun m hm => hz m (by simp [hm])
      have hz2 : ∀ m ∈ y2.1.weights Try.prog 24, m ≤ reachBytes := fun m hm => hz m (by simp [hm])
      have hz3 : ∀ m ∈ y3.1.weights Try.prog 27, m ≤ reachBytes := fun m hm => hz m (by simp [hm])
      have hz4 : ∀ m ∈ y4.1.weights Try.prog 28, m ≤ reachBytes := fun m hm => hz m (by simp [hm])
      obtain ⟨A, ln, cp, od, q4, hri, hol⟩ := rdIC_of_trod g4 hz4
      have hs1 : a1.data.toList.length ≤ nmMax := by
        have := hz1 a1.data.toList.length (by rw [e1]; simp [DataW.weights])
        unfold reachBytes at this; unfold nmMax; exact this
      have hs2 : f.nm.length ≤ nmMax := by have := hz2 _ m2; unfold reachBytes at this; unfold nmMax; exact this
      have hs3 : t.size ≤ nmMax := by have := hz3 _ m3; unfold reachBytes at this; unfold nmMax; exact this
      simp at q0 q1 q2 q3
      obtain ⟨rfl, rfl, rfl⟩ := q2
      obtain ⟨rfl, rfl, rfl⟩ := q3
      subst q0; subst q1; subst q4
      exact ⟨⟨a0, a1.data.toList, f, k, vn, t, od⟩, A, ln, cp, ⟨⟨w0, hfd.1, hfd.2, hv.1, hv.2⟩, ⟨hs1, hs2, hs3, hol⟩, hri⟩, by rw [bs_data]⟩
set_option maxRecDepth 40000 in
theorem rdC_of_trod {v : Value} (h : DataW.trod enc Try.prog W 0 (fun _ => true) true fuel 32 [v] = some x) (hz : ∀ n ∈ x.1.weights Try.prog 32, n ≤ reachBytes) : ∃ a len cap l, v = .slice a len cap ∧ RdC W W.heap.size a len cap l ∧ ∀ c ∈ l, shC c := by
  rcases open_slice Try.underlying32 h with ⟨hcs, _⟩ | ⟨a, len, cap, m, n, D, Pl, hcs, _, hl, hm, hmm, hx, hi⟩
  · simp at hcs
    exact ⟨none, 0, 0, [], hcs, ⟨rfl, by omega, by unfold maxLen; omega, by simp, fun h => by omega⟩, by simp⟩
  · simp at hcs
    have hmc : m = cap := by simpa using hmm
    rw [f_one9] at hi
    have hch : ∀ i, i < len → ∃ o : Ch × (Option Addr × Nat × Nat), ChA W o.1 o.2.1 o.2.2.1 o.2.2.2 ∧ ∃ cs', W.cells? 0 (a.add (i * 9)) 9 = some cs' ∧ cs' = [.int .i64 o.1.op, .string (bs o.1.nm), .string (bs o.1.to.nm), .int .i64 o.1.to.k, .int .i64 o.1.to.g, .int .i64 o.1.dk, .int .u64 o.1.dn, .string o.1.dt, .slice o.2.1 o.2.2.1 o.2.2.2] := by
      intro i hil
      obtain ⟨cs', hc, ht⟩ := hi i (by omega)
      obtain ⟨c, A, n', cp', hca, e⟩ := ch_of_trod ht (fun k hk => hz k (by
        rw [hx]
        simp only [DataW.weights, Try.underlying32, List.mem_cons, List.mem_append]
        exact .inr (.inl (weights_in _ (D i) _ (List.mem_map.2 ⟨i, List.mem_range.2 hil, rfl⟩) hk))))
      exact ⟨(c, A, n', cp'), hca, cs', hc, e⟩
    have hex : ∃ f : Nat → Ch × (Option Addr × Nat × Nat), ∀ i, i < len → ChA W (f i).1 (f i).2.1 (f i).2.2.1 (f i).2.2.2 ∧ ∃ cs', W.cells? 0 (a.add (i * 9)) 9 = some cs' ∧ cs' = [.int .i64 (f i).1.op, .string (bs (f i).1.nm), .string (bs (f i).1.to.nm), .int .i64 (f i).1.to.k, .int .i64 (f i).1.to.g, .int .i64 (f i).1.dk, .int .u64 (f i).1.dn, .string (f i).1.dt, .slice (f i).2.1 (f i).2.2.1 (f i).2.2.2] := by
      refine ⟨fun i => if hi : i < len then (hch i hi).choose else (⟨0, [], ⟨[], 0, 0⟩, 0, 0, ⟨#[]⟩, []⟩, none, 0, 0), fun i hi => ?_⟩
      simp only [hi, dif_pos]
      exact (hch i hi).choose_spec
    obtain ⟨f, hf⟩ := hex
    refine ⟨some a, len, cap, (List.range len).map fun i => (f i).1, hcs, ⟨by simp, hl, hm, ?_, fun hn => ?_⟩, ?_⟩
    · intro o ho
      obtain ⟨i, hi, rfl⟩ := List.mem_map.1 ho
      exact (hf i (List.mem_range.1 hi)).1.1
    · obtain ⟨b, off, spot⟩ := a
      have hcell : ∀ i, i < len → ∀ j, j < 9 → W.cell? ((Addr.mk b off spot).add (i * 9 + j)) = [Value.int .i64 (f i).1.op, .string (bs (f i).1.nm), .string (bs (f i).1.to.nm), .int .i64 (f i).1.to.k, .int .i64 (f i).1.to.g, .int .i64 (f i).1.dk, .int .u64 (f i).1.dn, .string (f i).1.dt, .slice (f i).2.1 (f i).2.2.1 (f i).2.2.2][j]? := by
        intro i hi j hj
        obtain ⟨_, cs', hc, e⟩ := hf i hi
        obtain ⟨_, _, hat⟩ := World.cells?_some hc
        have := hat j hj
        rw [Go.Deep.add_add, e] at this
        exact this
      have h0 := hcell 0 hn 0 (by omega)
      have hspot : spot = none := by
        have := World.cell?_spot (v := .int .i64 (f 0).1.op) (by simpa using h0)
        simpa [Addr.add] using this
      subst hspot
      refine ⟨b, off, rfl, ?_, fun i hi => ?_⟩
      · simp only [add_plain] at h0
        by_cases hb : b < W.heap.size
        · exact hb
        · simp [World.cell?, Array.getElem?_eq_none (show W.heap.size ≤ b by omega)] at h0
      · simp at hi
        have c := fun j hj => hcell i hi j hj
        simp only [add_plain] at c
        have c0 := c 0 (by omega); have c1 := c 1 (by omega); have c2 := c 2 (by omega); have c3 := c 3 (by omega); have c4 := c 4 (by omega); have c5 := c 5 (by omega); have c6 := c 6 (by omega); have c7 := c 7 (by omega); have c8 := c 8 (by omega)
        simp only [List.getElem_map, List.getElem_range]
        refine ⟨_, _, _, ⟨by simpa using c0, ?_, ?_, ?_, ?_, ?_, ?_, ?_, ?_⟩, (hf i hi).1.2.2⟩
        · rw [Nat.add_assoc]; simpa using c1
        · rw [Nat.add_assoc]; simpa using c2
        · rw [Nat.add_assoc]; simpa using c3
        · rw [Nat.add_assoc]; simpa using c4
        · rw [Nat.add_assoc]; simpa using c5
        · rw [Nat.add_assoc]; simpa using c6
        · rw [Nat.add_assoc]; simpa using c7
        · rw [Nat.add_assoc]; simpa using c8
    · intro o ho
      obtain ⟨i, hi, rfl⟩ := List.mem_map.1 ho
      exact (hf i (List.mem_range.1 hi)).1.2.1
end
end Go.Proofs.Ytjodbopnibdolaa

namespace Go.Proofs.Ytjodbopnibdolaa
open Go.RowKit
set_option linter.unusedVariables false

set_option maxRecDepth 20000 in
set_option maxHeartbeats 8000000 in
theorem r7equal_any {w : World} {v v2 : Value} {T : Tb} (h : RdT w w.heap.size v T) (h2 : RdT w w.heap.size v2 T) :
    Calls Try.prog 12 #[v, v2] w fun e w' => e = .returned (.bool true) ∧ Below w.heap.size w w' := by
  obtain ⟨A, n, c, A2, n2, c2, A3, n3, c3, rfl, h1, hn, hm⟩ := h
  obtain ⟨B, m, d, B2, m2, d2, B3', m3, d3, rfl, k1, kn, km⟩ := h2
  obtain rfl : m = n := by rw [← h1.1, ← k1.1]
  obtain rfl : m2 = n2 := by rw [← hn.1, ← kn.1]
  obtain rfl : m3 = n3 := by rw [← hm.1, ← km.1]
  obtain ⟨w0, hw0⟩ : ∃ w0, w0 = (w.alloc (.cells #[.slice A m c, .slice A2 m2 c2, .slice A3 m3 c3] 43)).alloc (.cells #[.slice B m d, .slice B2 m2 d2, .slice B3' m3 d3] 43) := ⟨_, rfl⟩
  have HW0 := hid hw0
  have HB0 : Hid (Below w.heap.size w w0) := by rw [hw0]; exact Ba (B1 _ _) _
  obtain ⟨r, hr⟩ : ∃ r, r = w.heap.size := ⟨_, rfl⟩
  have HR := hid hr
  have HT0 : Hid (TBx w0 r (.slice A m c) (.slice A2 m2 c2) (.slice A3 m3 c3) 43) := by rw [hw0, hr]; exact (tb_new w _ _ _ _).on (B1 _ _)
  have HT1 : Hid (TBx w0 (r + 1) (.slice B m d) (.slice B2 m2 d2) (.slice B3' m3 d3) 43) := by rw [hw0, hr, ← World.size_alloc w (.cells #[.slice A m c, .slice A2 m2 c2, .slice A3 m3 c3] 43)]; exact tb_new _ _ _ _ _
  have HL : Hid (T.mv.length = m3) := hm.1
  have hnm : (m3 : Int) ≤ 9223372036854775807 := by have := Nat.le_trans hm.2.1 hm.2.2.1; unfold maxLen at this; omega
  have H1 := hid (h1.on HB0.out); have H2 := hid (hn.on HB0.out); have H3 := hid (hm.on HB0.out)
  have K1 := hid (k1.on HB0.out); have K2 := hid (kn.on HB0.out); have K3 := hid (km.on HB0.out)
  clear h1 hn hm k1 kn km hw0 hr
  go_enter Try.func12, Try.ntmps12
  go_wp2_with fail
  rw [← HW0.out, ← HR.out]
  refine (same6_any H1.out K1.out).mono ?_
  rintro e w1 ⟨rfl, hb1⟩
  have HB1 := hid hb1
  obtain ⟨c0, cc1, cc2⟩ := (HT0.out.on hb1).cells
  obtain ⟨e0, e1, e2⟩ := (HT1.out.on hb1).cells
  clear hb1
  go_wp2_with fail
  refine (same6_any (H2.out.on HB1.out) (K2.out.on HB1.out)).mono ?_
  rintro e w2 ⟨rfl, hb2⟩
  have HB2 := hid (Bt HB1.out hb2)
  obtain ⟨c0, cc1, cc2⟩ := (HT0.out.on HB2.out).cells
  obtain ⟨e0, e1, e2⟩ := (HT1.out.on HB2.out).cells
  clear hb2
  go_wp2_with fail
  go_loopw [5] (fun i wr => ∃ j : Nat, j ≤ m3 ∧ i = .int .i64 j ∧ Hid (Below w0.heap.size w0 wr)) (fun i _ => m3 - (intOf i).toNat)
  case atStart => exact ⟨0, by omega, rfl, HB2⟩
  case round =>
    obtain ⟨j, hj, rfl, hb⟩ := hrel
    obtain ⟨c0, cc1, cc2⟩ := (HT0.out.on hb.out).cells
    obtain ⟨e0, e1, e2⟩ := (HT1.out.on hb.out).cells
    by_cases hlt : j < m3
    · obtain ⟨x, hx⟩ : ∃ x, T.mv[j]? = some x := ⟨_, List.getElem?_eq_getElem (by have := HL.out; omega)⟩
      obtain ⟨_, hf64, hk64, hnu, b, off, rfl, hc⟩ := H3.out.at hx
      obtain ⟨_, _, _, _, b2, off2, rfl, hc2⟩ := K3.out.at hx
      obtain ⟨d0, d1, d2, d3⟩ := hc wr hb.out
      obtain ⟨g0, g1, g2, g3⟩ := hc2 wr hb.out
      have hji : (j : Int) < m3 := by omega
      have hj0 : (0 : Int) ≤ j := by omega
      clear hc hc2 hx hf64 hk64 hnu
      go_wp2_with fail
      go_quiet (fail)
      go_wp2_with fail
      exact ⟨⟨j + 1, by omega, by go_num, Bd hb.out nq⟩, by simp [intOf]; omega⟩
    · obtain rfl : j = m3 := by omega
      go_wp2_with fail
      go_ret
      exact ⟨rfl, Bt HB0.out hb.out⟩

set_option maxRecDepth 20000 in
set_option maxHeartbeats 8000000 in
/-- The document's table of the program's. -/
theorem plain_any {w : World} {v : Value} {T : Tb} (h : RdT w w.heap.size v T) (hn : T.mv.length ≤ 1000000) :
    Calls Try.prog 13 #[v] w fun e w' => ∃ v, e = .returned v ∧ RdT w' w'.heap.size v T ∧ Below w.heap.size w w' := by
  obtain ⟨A, n, c, A2, n2, c2, A3, n3, c3, rfl, h1, h2, h3⟩ := h
  have HMX := hid h3.2.2.2.1
  obtain ⟨w0, hw0⟩ : ∃ w0, w0 = (w.alloc (.cells #[.slice A n c, .slice A2 n2 c2, .slice A3 n3 c3] 36)).alloc (.cells #[.slice none 0 0, .slice none 0 0, .slice none 0 0] 43) := ⟨_, rfl⟩
  have HW0 := hid hw0
  have HB0 : Hid (Below w.heap.size w w0) := by rw [hw0]; exact Ba (B1 _ _) _
  obtain ⟨w1, hw1⟩ : ∃ w1, w1 = w0.alloc (.cells #[.slice A n c, .slice A2 n2 c2, .slice none 0 0] 43) := ⟨_, rfl⟩
  have HW1 := hid hw1
  obtain ⟨r, hr⟩ : ∃ r, r = w.heap.size := ⟨_, rfl⟩
  have HR := hid hr
  have hs0 : w0.heap.size = r + 2 := by rw [hw0, hr]; simp
  have HT0 : Hid (TBx w0 r (.slice A n c) (.slice A2 n2 c2) (.slice A3 n3 c3) 36) := by rw [hw0, hr]; exact (tb_new w _ _ _ _).on (B1 _ _)
  have HT1 : Hid (TBx w0 (r + 1) (.slice none 0 0) (.slice none 0 0) (.slice none 0 0) 43) := by rw [hw0, hr, ← World.size_alloc w (.cells #[.slice A n c, .slice A2 n2 c2, .slice A3 n3 c3] 36)]; exact tb_new _ _ _ _ _
  have HMK : Hid (MkT w w1 (r + 2) 43 69 (.slice A n c) (.slice A2 n2 c2) (.slice none 0 0) (r + 3) (T.mv.take 0)) := by
    rw [hw1]
    refine ⟨?_, by rw [List.take_zero]; exact OwM.nil _ _ _, Ba HB0.out _, by omega, by omega, by simp [hs0]⟩
    rw [← hs0]; exact tb_new w0 _ _ _ _
  have HT01 : Hid (TBx w1 r (.slice A n c) (.slice A2 n2 c2) (.slice A3 n3 c3) 36 ∧ TBx w1 (r + 1) (.slice none 0 0) (.slice none 0 0) (.slice none 0 0) 43) := by rw [hw1]; exact ⟨HT0.out.on (B1 _ _), HT1.out.on (B1 _ _)⟩
  have HL : Hid (T.mv.length = n3) := h3.1
  have hnm : (n3 : Int) ≤ 1000000 := by have := h3.1; omega
  have H1 := hid h1; have H2 := hid h2; have H3 := hid h3
  have HS0 := hid hs0; have HRW := hid (Nat.le_of_eq hr.symm)
  obtain ⟨q, hq⟩ : ∃ q, q = r + 1 + 1 := ⟨_, rfl⟩
  have HQ := hid hq
  rw [show r + 2 = q by omega, show r + 3 = q + 1 by omega] at HMK
  obtain ⟨c0, cc1, cc2⟩ := HT0.out.cells
  obtain ⟨e0, e1, e2⟩ := HT01.out.1.cells
  clear h1 h2 h3 hw0 hw1 hr hq
  go_enter Try.func13, Try.ntmps13
  go_wp2_with fail
  rw [← HW0.out, ← HW1.out, ← HR.out, ← HQ.out]
  go_loopw [14] (fun i wr => ∃ j : Nat, j ≤ n3 ∧ i = .int .i64 j ∧ Hid (∃ v, MkT w wr q 43 69 (.slice A n c) (.slice A2 n2 c2) v (q + 1) (T.mv.take j)) ∧ Hid (TBx wr (r + 1) (.slice none 0 0) (.slice none 0 0) (.slice none 0 0) 43)) (fun i _ => n3 - (intOf i).toNat)
  case atStart => exact ⟨0, by omega, rfl, hid ⟨_, HMK.out⟩, hid HT01.out.2⟩
  case round =>
    obtain ⟨j, hj, rfl, ⟨v, hm⟩, HT⟩ := hrel
    have HM := hid hm
    obtain ⟨c0, cc1, cc2⟩ := hm.tb.cells
    by_cases hlt : j < n3
    · obtain ⟨m, hx⟩ : ∃ m, T.mv[j]? = some m := ⟨_, List.getElem?_eq_getElem (by have := HL.out; omega)⟩
      obtain ⟨_, hf64, hk64, hnu, b, off, rfl, hc⟩ := H3.out.at hx
      have HX := hid hx
      obtain ⟨d0, d1, d2, d3⟩ := hc wr hm.bl
      have HMM : Hid (MB (wr.alloc (.cells #[.int .i64 m.fr, .int .i64 m.k, .int .u64 m.n, .string m.t] 62)) wr.heap.size m 62) := hid (mb_new _ _ _)
      have hm2 : MkT w (wr.alloc (.cells #[.int .i64 m.fr, .int .i64 m.k, .int .u64 m.n, .string m.t] 62)) q 43 69 (.slice A n c) (.slice A2 n2 c2) v (q + 1) (T.mv.take j) := hm.on (B1 _ _)
      have hT2 : TBx (wr.alloc (.cells #[.int .i64 m.fr, .int .i64 m.k, .int .u64 m.n, .string m.t] 62)) (r + 1) (.slice none 0 0) (.slice none 0 0) (.slice none 0 0) 43 := HT.out.on (B1 _ _)
      obtain ⟨g0, g1, g2, g3⟩ := HMM.out.cells
      obtain ⟨c0, cc1, cc2⟩ := hm2.tb.cells
      have hji : (j : Int) < n3 := by omega
      have hj0 : (0 : Int) ≤ j := by omega
      obtain ⟨v', w3, hrun, hown, hgr⟩ := run_appMv Try.underlying41 infoMd hm2.ow m (by rw [List.length_take]; omega) hm2.az 41
      have hmk := (hm2.on (B1 _ (.cells #[.int .i64 m.fr, .int .i64 m.k, .int .u64 m.n, .string m.t] 69))).app hgr hown
      have et : T.mv.take j ++ [m] = T.mv.take (j + 1) := by rw [List.take_add_one, HX.out]; rfl
      rw [et] at hmk
      have htb := (hm2.on (B1 _ (.cells #[.int .i64 m.fr, .int .i64 m.k, .int .u64 m.n, .string m.t] 69))).tb.grown hgr (fun e => by have := (hm2.ow.blk2 _ e.symm).1; have := hm2.qb; omega)
      have fz := htb.frozen 2
      have ct := htb.cells.2.2
      have HT3 : Hid (TBx (w3.setCell ⟨q, 2, none⟩ v') (r + 1) (.slice none 0 0) (.slice none 0 0) (.slice none 0 0) 43) := (((hT2.on (B1 _ _)).grown hgr (fun e => by have := (hm2.ow.blk2 _ e.symm).1; have := HQ.out; have := hm2.qb; omega)).other (by have := HQ.out; omega) 2 _)
      obtain ⟨A4, n4, c4, rfl⟩ := hown.shape
      simp only [World.size_alloc] at hrun
      have HRUN := hid hrun; have HMK2 := hid hmk
      clear hrun hown hgr hmk hm htb hm2 hT2 et hx hc hf64 hk64 hnu
      go_wp2_with (at_builtin; refine wpList_appG rfl _ _ rfl rfl rfl HRUN.out ?_)
      exact ⟨⟨j + 1, by omega, by go_num, hid ⟨_, HMK2.out⟩, HT3⟩, by simp [intOf]; omega⟩
    · obtain rfl : j = n3 := by omega
      rw [← HL.out, List.take_length] at hm
      obtain ⟨A4, c4, hv, hrd⟩ := hm.ow.rd HMX.out
      rw [HL.out] at hv
      subst hv
      have fz := HT.out.frozen 0; have fz1 := HT.out.frozen 1; have fz2 := HT.out.frozen 2
      obtain ⟨r0, r1, r2⟩ := HT.out.cells
      have HM2 := hid hm
      clear hm hrd
      go_wp2_with fail
      have hrs : w.heap.size ≤ r + 1 := by have := HRW.out; omega
      have hB := B3 HM2.out.bl hrs (.slice A n c) (.slice A2 n2 c2) (.slice A4 j c4)
      refine ret_TB7 (by rfl) (by rfl) (HT.out.set3 _ _ _) (by rfl) ⟨_, rfl, ?_, hB⟩
      have hO := ((HM2.out.ow.set (g := r + 1) (by have := HQ.out; omega) 0 (.slice A n c)).set (g := r + 1) (by have := HQ.out; omega) 1 (.slice A2 n2 c2)).set (g := r + 1) (by have := HQ.out; omega) 2 (.slice A4 j c4)
      obtain ⟨A5, c5, hv, hrd⟩ := hO.rd HMX.out
      rw [HL.out] at hv hrd
      cases hv
      exact ⟨A, n, c, A2, n2, c2, A4, j, c4, rfl, H1.out.on hB, H2.out.on hB, hrd⟩
end Go.Proofs.Ytjodbopnibdolaa
