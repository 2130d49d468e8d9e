/-
  The walk of ChangeRight.
  From what a law's arguments hold to what its walk is told: changes, slices of changes, slices of numbers.
  The contract of own of layer 8's law.
-/
import Derived.Test.YtjodbopnibdolaaM34
import Derived.Test.YtjodbopnibdolaaM4
import Derived.Test.YtjodbopnibdolaaM3
import Derived.Test.YtjodbopnibdolaaM13

namespace Go.Proofs.Ytjodbopnibdolaa
open Go.RowKit
set_option linter.unusedVariables false
set_option linter.unusedSimpArgs false

/-- A change as a law is handed it. -/
def ChA (w : World) (c : Ch) (A : Option Addr) (n cp : Nat) : Prop := (I64 c.op ∧ I64 c.to.k ∧ I64 c.to.g ∧ I64 c.dk ∧ U64 c.dn) ∧ shC c ∧ RdI w w.heap.size A n cp c.od
theorem ChA.on {w w' : World} {c : Ch} {A : Option Addr} {n cp : Nat} (h : ChA w c A n cp) (hb : Below w.heap.size w w') : ChA w' c A n cp := ⟨h.1, h.2.1, h.2.2.on hb⟩
/-- A slice of one change that the call makes. -/
theorem rdC_one {w : World} {c : Ch} {A : Option Addr} {n cp : Nat} (h : ChA w c A n cp) {g : Nat} (hg : w.heap[g]? = some (.cells #[.int .i64 c.op, .string (bs c.nm), .string (bs c.to.nm), .int .i64 c.to.k, .int .i64 c.to.g, .int .i64 c.dk, .int .u64 c.dn, .string c.dt, .slice A n cp] 30 (0, 0))) : RdC w w.heap.size (some ⟨g, 0, none⟩) 1 1 [c] := by
  refine ⟨rfl, Nat.le_refl _, by unfold maxLen; omega, fun x hx => by simp at hx; subst hx; exact h.1, fun _ => ⟨g, 0, rfl, row_lt hg, fun i hi => ?_⟩⟩
  have : i = 0 := by simp at hi; omega
  subst this
  exact ⟨A, n, cp, ⟨row_cell hg _, row_cell hg _, row_cell hg _, row_cell hg _, row_cell hg _, row_cell hg _, row_cell hg _, row_cell hg _, row_cell hg _⟩, h.2.2⟩
theorem rdC_two {w : World} {c d : Ch} {A A2 : Option Addr} {n cp n2 cp2 : Nat} (h : ChA w c A n cp) (h2 : ChA w d A2 n2 cp2) {g : Nat} (hg : w.heap[g]? = some (.cells #[.int .i64 c.op, .string (bs c.nm), .string (bs c.to.nm), .int .i64 c.to.k, .int .i64 c.to.g, .int .i64 c.dk, .int .u64 c.dn, .string c.dt, .slice A n cp, .int .i64 d.op, .string (bs d.nm), .string (bs d.to.nm), .int .i64 d.to.k, .int .i64 d.to.g, .int .i64 d.dk, .int .u64 d.dn, .string d.dt, .slice A2 n2 cp2] 30 (0, 0))) : RdC w w.heap.size (some ⟨g, 0, none⟩) 2 2 [c, d] := by
  refine ⟨rfl, Nat.le_refl _, by unfold maxLen; omega, fun x hx => by simp at hx; rcases hx with rfl | rfl; exact h.1; exact h2.1, fun _ => ⟨g, 0, rfl, row_lt hg, fun i hi => ?_⟩⟩
  have : i = 0 ∨ i = 1 := by simp at hi; omega
  rcases this with rfl | rfl
  · exact ⟨A, n, cp, ⟨row_cell hg _, row_cell hg _, row_cell hg _, row_cell hg _, row_cell hg _, row_cell hg _, row_cell hg _, row_cell hg _, row_cell hg _⟩, h.2.2⟩
  · exact ⟨A2, n2, cp2, ⟨row_cell hg _, row_cell hg _, row_cell hg _, row_cell hg _, row_cell hg _, row_cell hg _, row_cell hg _, row_cell hg _, row_cell hg _⟩, h2.2.2⟩
/-- So few: then all is short. -/
theorem few_chOk {n m : Nat} {l : List Fd} {cs : List Ch} (h : fewP8 n l m cs) {c : Ch} (hc : c ∈ cs) (hi : I64 c.op ∧ I64 c.to.k ∧ I64 c.to.g ∧ I64 c.dk ∧ U64 c.dn) : chOk c := ⟨hi.1, hi.2.1, hi.2.2.1, hi.2.2.2.1, hi.2.2.2.2, by have := h.2.2.2 c hc; unfold wtC at this; omega⟩
theorem few_short {n m : Nat} {l : List Fd} {cs : List Ch} (h : fewP8 n l m cs) : short l := fun f hf => by have := h.2.2.1 f hf; omega
/-- How many fields a change makes. -/
def moreC (c : Ch) : Int := if c.op = 1 then 1 else if c.op = 2 then -1 else 0
theorem newC_len {l : List Fd} {c : Ch} (h : mkE l c = 0) : ((newC l c).length : Int) = l.length + moreC c := by
  obtain ⟨hr, h1, h5, hk, hc, ha, ho, hn⟩ := mkE_facts h
  unfold moreC newC
  by_cases e1 : c.op = 1
  · rw [if_pos e1, if_pos e1, newF_id (by omega) (by omega) (by omega) _ (Nat.le_refl _)]; simp
  · rw [if_neg e1, if_neg e1]
    by_cases e5 : c.op = 5
    · rw [if_pos e5, if_neg (by omega)]
      have hab : allB c.od l.length = true := by unfold noOrd at ho; rw [e5] at ho; simpa using ho
      rw [odF_length (allB_mem hab), (allB_iff.1 hab).1]; simp
    · rw [if_neg e5]
      obtain ⟨k, hkk⟩ := hk (by omega) (by omega)
      rw [hkk]
      by_cases e2 : c.op = 2
      · rw [if_pos e2, newF_erase e2 _ (Nat.le_refl _), List.take_length, List.length_eraseIdx, if_pos (findN_lt hkk)]
        have := findN_lt hkk; omega
      · rw [if_neg e2]
        obtain ⟨f, hf, _⟩ := findN_get hkk
        rw [newF_set e2 hf, List.length_set]; simp
theorem mkT_nw0 {l : List Fd} {c : Ch} (h : mkE l c = 0) : (mkT l c).nw = newC l c := by rw [mkT_ok h]
theorem mkT_nwN {l : List Fd} {c : Ch} (h : mkE l c ≠ 0) : (mkT l c).nw = [] := by rw [mkT_no h]; rfl

set_option maxRecDepth 20000 in
set_option maxHeartbeats 8000000 in
theorem walk_ChangeRight (A : Option Addr) (n cp : Nat) (l : List Fd) (c : Ch) (Ao : Option Addr) (no co : Nat) (w : World) (h : RdF w w.heap.size A n cp l) (hc : ChA w c Ao no co) :
    Calls Try.prog 5 #[.slice A n cp, chV c Ao no co] w fun e w' => e = .returned (.bool true) ∧ Below w.heap.size w w' := by
  obtain ⟨w0, hw0⟩ : ∃ w0, w0 = w.alloc (.cells #[.int .i64 c.op, .string (bs c.nm), .string (bs c.to.nm), .int .i64 c.to.k, .int .i64 c.to.g, .int .i64 c.dk, .int .u64 c.dn, .string c.dt, .slice Ao no co] 30) := ⟨_, rfl⟩
  obtain ⟨rc, hrc⟩ : ∃ rc, rc = w.heap.size := ⟨_, rfl⟩
  have HW0 := hid hw0; have HRC := hid hrc
  have HC0 : Hid (CB w0 rc c Ao no co 30) := by rw [hw0, hrc]; exact hid (CB.new w c Ao no co _)
  have HB0 : Hid (Below w.heap.size w w0) := by rw [hw0]; exact hid (B1 _ _)
  have H := hid (h.on HB0.out); have HA := hid (hc.on HB0.out)
  obtain ⟨g, hg⟩ : ∃ g, g = w0.heap.size := ⟨_, rfl⟩
  obtain ⟨w1, hw1⟩ : ∃ w1, w1 = w0.alloc (.cells #[.int .i64 c.op, .string (bs c.nm), .string (bs c.to.nm), .int .i64 c.to.k, .int .i64 c.to.g, .int .i64 c.dk, .int .u64 c.dn, .string c.dt, .slice Ao no co] 30) := ⟨_, rfl⟩
  have HG := hid hg; have HW1 := hid hw1
  have HB1 : Hid (Below w0.heap.size w0 w1) := by rw [hw1]; exact hid (B1 _ _)
  have HR1 : Hid (RdC w1 w1.heap.size (some ⟨g, 0, none⟩) 1 1 [c]) := hid (rdC_one (HA.out.on HB1.out) (by rw [hw1, hg]; exact heap_alloc_new _ _))
  have HLN : Hid (l.length = n) := hid h.1
  clear h hc hw0 hrc hg hw1
  obtain ⟨k0, k1, k2, k3, k4, k5, k6, k7, k8⟩ := HC0.out.cells
  unfold chV
  go_enter Try.func5, Try.ntmps5
  go_upto_region 1 with fail
  rw [← HW0.out, ← HRC.out]
  go_wp2_with fail
  rw [← HW1.out, ← HG.out]
  refine (few8_any (H.out.on HB1.out) HR1.out (fun x hx => by simp at hx; subst hx; exact HA.out.2.1)).mono ?_
  rintro e w2 ⟨fb, rfl, hfew, hb2⟩
  have HFEW := hid hfew
  have HB2 := hid (Bt HB1.out hb2)
  clear hfew hb2 k0 k1 k2 k3 k4 k5 k6 k7 k8
  obtain ⟨k0, k1, k2, k3, k4, k5, k6, k7, k8⟩ := (HC0.out.on HB2.out).cells
  cases fb with
  | false =>
    go_wp2_with fail
    refine (alive8_any _).mono ?_
    rintro e w3 ⟨rfl, hb3⟩
    go_wp2_with fail
    go_ret
    exact ⟨rfl, Bt HB0.out (Bt HB2.out hb3)⟩
  | true =>
    have HF := hid (HFEW.out rfl)
    have HCK : Hid (chOk c) := hid (few_chOk HF.out (by simp) HA.out.1)
    go_wp2_with fail
    refine (p8apply_any (c := c) (H.out.on HB2.out) (few_short HF.out) HCK.out (HA.out.on HB2.out).2.2).mono ?_
    rintro e w3 ⟨A3, n3, c3, rfl, h3, hb3⟩
    have HB3 := hid (Bt HB2.out hb3)
    have H3 := hid h3
    clear hb3 h3 k0 k1 k2 k3 k4 k5 k6 k7 k8
    obtain ⟨k0, k1, k2, k3, k4, k5, k6, k7, k8⟩ := (HC0.out.on HB3.out).cells
    obtain ⟨me, hme⟩ : ∃ me, me = mkE l c := ⟨_, rfl⟩
    rw [← hme]
    by_cases hm0 : me = 0
    · have HM0 : Hid (mkE l c = 0) := hid (by rw [← hme]; exact hm0)
      clear hme
      subst hm0
      rw [mkT_nw0 HM0.out] at H3
      have HR := hid (newC_right HM0.out)
      have HSN := hid (right_short HR.out.2)
      have HLC : Hid ((n3 : Int) = n + moreC c) := hid (by have := newC_len HM0.out; have := H3.out.1; have := HLN.out; omega)
      have hn40 : (n : Int) ≤ 16 := by have := right_len HR.out.1; have := HLN.out; omega
      have hl := HLC.out
      by_cases e1 : c.op = 1
      · have t1 : (c.op == 1) = true := by simpa using e1
        have hm1 : moreC c = 1 := by unfold moreC; rw [if_pos e1]
        rw [hm1] at hl
        have q1 : ((n3 : Int) == (n : Int) + 1) = true := by simpa using hl
        clear e1 hm1
        go_wp2_with fail
        refine (alive8_any _).mono ?_
        rintro e w4 ⟨rfl, hb4⟩
        have HB4 := hid (Bt HB3.out hb4)
        have H4 := hid (H3.out.on hb4)
        clear hb4
        go_wp2_with fail
        refine (p6right_any (H.out.on HB4.out) (few_short HF.out)).mono ?_
        rintro e w5 ⟨rfl, hb5⟩
        rw [HR.out.1]
        go_wp2_with fail
        refine (p6right_any (H4.out.on hb5) HSN.out).mono ?_
        rintro e w6 ⟨rfl, hb6⟩
        rw [HR.out.2]
        go_wp2_with fail
        go_ret
        exact ⟨rfl, Bt HB0.out (Bt HB4.out (Bt hb5 hb6))⟩
      · by_cases e2 : c.op = 2
        · have t1 : (c.op == 1) = false := by simpa using e1
          have t2 : (c.op == 2) = true := by simpa using e2
          have hm1 : moreC c = -1 := by unfold moreC; rw [if_neg e1, if_pos e2]
          rw [hm1] at hl
          have q1 : ((n3 : Int) == (n : Int) + -1) = true := by simpa using hl
          clear e1 e2 hm1
          go_wp2_with fail
          refine (alive8_any _).mono ?_
          rintro e w4 ⟨rfl, hb4⟩
          have HB4 := hid (Bt HB3.out hb4)
          have H4 := hid (H3.out.on hb4)
          clear hb4
          go_wp2_with fail
          refine (p6right_any (H.out.on HB4.out) (few_short HF.out)).mono ?_
          rintro e w5 ⟨rfl, hb5⟩
          rw [HR.out.1]
          go_wp2_with fail
          refine (p6right_any (H4.out.on hb5) HSN.out).mono ?_
          rintro e w6 ⟨rfl, hb6⟩
          rw [HR.out.2]
          go_wp2_with fail
          go_ret
          exact ⟨rfl, Bt HB0.out (Bt HB4.out (Bt hb5 hb6))⟩
        · have t1 : (c.op == 1) = false := by simpa using e1
          have t2 : (c.op == 2) = false := by simpa using e2
          have hm1 : moreC c = 0 := by unfold moreC; rw [if_neg e1, if_neg e2]
          rw [hm1, Int.add_zero] at hl
          have q1 : ((n3 : Int) == (n : Int)) = true := by simpa using hl
          clear e1 e2 hm1
          go_wp2_with fail
          refine (alive8_any _).mono ?_
          rintro e w4 ⟨rfl, hb4⟩
          have HB4 := hid (Bt HB3.out hb4)
          have H4 := hid (H3.out.on hb4)
          clear hb4
          go_wp2_with fail
          refine (p6right_any (H.out.on HB4.out) (few_short HF.out)).mono ?_
          rintro e w5 ⟨rfl, hb5⟩
          rw [HR.out.1]
          go_wp2_with fail
          refine (p6right_any (H4.out.on hb5) HSN.out).mono ?_
          rintro e w6 ⟨rfl, hb6⟩
          rw [HR.out.2]
          go_wp2_with fail
          go_ret
          exact ⟨rfl, Bt HB0.out (Bt HB4.out (Bt hb5 hb6))⟩
    · have HM0 : Hid (mkE l c ≠ 0) := hid (by rw [← hme]; exact hm0)
      have t0 : (me != 0) = true := by simpa using hm0
      rw [mkT_nwN HM0.out] at H3
      obtain rfl : 0 = n3 := H3.out.1
      clear hme hm0
      go_wp2_with fail
      refine (alive8_any _).mono ?_
      rintro e w4 ⟨rfl, hb4⟩
      go_wp2_with fail
      go_ret
      exact ⟨rfl, Bt HB0.out (Bt HB3.out hb4)⟩
end Go.Proofs.Ytjodbopnibdolaa

namespace Go.Proofs.Ytjodbopnibdolaa
open Go.ChangeShapes Go.WideShapes Go.ChangeAt Go.RowKit Go.Deep
set_option linter.unusedVariables false

section
variable {H : Type} {enc : TypeId × Value → H} {W : World} {fuel : Nat} {x : DataW H × List MemPlace}
theorem f_one9 : Try.prog.cellsOf 30 = 9 := by kernel_rfl
theorem f_onel : Try.prog.cellsOf 28 = 1 := by kernel_rfl
theorem weights_in {e : TypeId} : ∀ (l : List (DataW H)) (d : DataW H) (k : Nat), d ∈ l → k ∈ d.weights Try.prog e → k ∈ DataW.weightsAll Try.prog e l := by
  intro l
  induction l with
  | nil => intro d k hd; cases hd
  | cons y l ih =>
    intro d k hd hk
    simp only [DataW.weightsAll, List.mem_append]
    rcases List.mem_cons.1 hd with rfl | hd
    · exact .inl hk
    · exact .inr (ih d k hd hk)
theorem rdIC_of_cells {a : Addr} {len cap : Nat} {zs : List Int} (hl : len ≤ cap) (hm : cap ≤ maxLen) (hz : zs.length = cap)
    (hcell : ∀ i, i < zs.length → W.cell? (a.add i) = some (.int .i64 (zs.getD i 0))) (hwz : ∀ n ∈ zs, (Lit.int .i64 n).wf = true) :
    RdI W W.heap.size (some a) len cap (zs.take len) := by
  refine ⟨by simp; omega, hl, hm, fun y hy => hwz y (List.mem_of_mem_take hy), fun hn => ?_⟩
  obtain ⟨b, off, spot⟩ := a
  have h0 := hcell 0 (by omega)
  have hspot : spot = none := by simpa [Addr.add] using World.cell?_spot h0
  subst hspot
  refine ⟨b, off, rfl, ?_, fun i hi => ?_⟩
  · rw [add_plain] at h0
    by_cases hb : b < W.heap.size
    · exact hb
    · simp [World.cell?, Array.getElem?_eq_none (show W.heap.size ≤ b by omega)] at h0
  · simp at hi
    have h1 := hcell i (by omega)
    rw [add_plain] at h1
    rw [h1]
    simp [List.getD_eq_getElem?_getD, show i < zs.length by omega]
theorem rdIC_of_trod {v : Value} (h : DataW.trod enc Try.prog W 0 (fun _ => true) true fuel 28 [v] = some x) (hz : ∀ n ∈ x.1.weights Try.prog 28, n ≤ reachBytes) : ∃ a len cap l, v = .slice a len cap ∧ RdI W W.heap.size a len cap l ∧ l.length ≤ nmMax := by
  rcases open_ints Try.underlying28 Try.underlying3 (by kernel_rfl) h with ⟨hcs, _⟩ | ⟨a, l, c, zs, hcs, _, hl, hm, hzl, hx, hcell, hwz⟩
  · simp at hcs
    exact ⟨none, 0, 0, [], hcs, RdI.nil _ _, by simp⟩
  · simp at hcs
    have hzc : zs.length = c := by simpa using hzl
    refine ⟨some a, l, c, _, hcs, rdIC_of_cells hl hm hzc hcell hwz, ?_⟩
    rw [hx] at hz
    have hb : Try.prog.bytesOf 3 = 8 := by kernel_rfl
    have := hz (((lits .i64 (zs.take l) : List (DataW H)).length + (lits .i64 (zs.drop l) : List (DataW H)).length) * Try.prog.bytesOf 3) (by simp [DataW.weights, Try.underlying28])
    rw [hb] at this
    simp only [lits, List.length_map, List.length_take, List.length_drop] at this
    rw [List.length_take]
    unfold reachBytes at this
    unfold nmMax
    omega
theorem rdI_of_trodC {v : Value} (h : DataW.trod enc Try.prog W 0 (fun _ => true) true fuel 28 [v] = some x) : ∃ a len cap l, v = .slice a len cap ∧ RdI W W.heap.size a len cap l := by
  rcases open_ints Try.underlying28 Try.underlying3 (by kernel_rfl) h with ⟨hcs, _⟩ | ⟨a, l, c, zs, hcs, _, hl, hm, hzl, hx, hcell, hwz⟩
  · simp at hcs
    exact ⟨none, 0, 0, [], hcs, RdI.nil _ _⟩
  · simp at hcs
    exact ⟨some a, l, c, _, hcs, rdIC_of_cells hl hm (by simpa using hzl) hcell hwz⟩
set_option maxRecDepth 20000 in
theorem vl2_of_trod {cs : List Value} (h : DataW.trod enc Try.prog W 0 (fun _ => true) true fuel 27 cs = some x) :
    ∃ (k n : Int) (t : ByteArray), (I64 k ∧ U64 n) ∧ cs = [.int .i64 k, .int .u64 n, .string t] ∧ t.size ∈ x.1.weights Try.prog 27 := by
  obtain ⟨xs, n, _, hx, hlen, hxl, hf⟩ := DataW.trod_struct Try.underlying27 h
  rw [f_vl] at hlen
  match cs, hlen with
  | [c0, c1, c2], _ =>
    match xs, hxl with
    | [y0, y1, y2], _ =>
      have g0 : DataW.trod enc Try.prog W 0 (fun _ => true) true n 3 (List.take (Try.prog.cellsOf 3) (List.drop 0 [c0, c1, c2])) = some y0 := hf 0 _ rfl
      rw [f_one] at g0
      change DataW.trod enc Try.prog W 0 (fun _ => true) true n 3 [c0] = some y0 at g0
      have g1 : DataW.trod enc Try.prog W 0 (fun _ => true) true n 25 (List.take (Try.prog.cellsOf 25) (List.drop 1 [c0, c1, c2])) = some y1 := hf 1 _ rfl
      rw [f_oneu] at g1
      change DataW.trod enc Try.prog W 0 (fun _ => true) true n 25 [c1] = some y1 at g1
      have g2 : DataW.trod enc Try.prog W 0 (fun _ => true) true n 9 (List.take (Try.prog.cellsOf 9) (List.drop 2 [c0, c1, c2])) = some y2 := hf 2 _ rfl
      rw [f_ones] at g2
      change DataW.trod enc Try.prog W 0 (fun _ => true) true n 9 [c2] = some y2 at g2
      obtain ⟨a0, q0, _, w0⟩ := DataW.trod_int Try.underlying3 g0
      obtain ⟨a1, q1, _, w1⟩ := DataW.trod_int Try.underlying25 g1
      obtain ⟨a2, q2, e2, w2⟩ := DataW.trod_string Try.underlying9 g2
      simp at q0 q1 q2
      subst q0; subst q1; subst q2
      refine ⟨a0, a1, a2, ⟨w0, U64.of_wf w1⟩, rfl, ?_⟩
      rw [hx, e2]
      simp [DataW.weights, Try.underlying27, DataW.weightsEach]
set_option maxRecDepth 40000 in
theorem ch_of_trod {cs : List Value} (h : DataW.trod enc Try.prog W 0 (fun _ => true) true fuel 30 cs = some x) (hz : ∀ n ∈ x.1.weights Try.prog 30, n ≤ reachBytes) :
    ∃ (c : Ch) (A : Option Addr) (n cp : Nat), ChA W c A n cp ∧ cs = [.int .i64 c.op, .string (bs c.nm), .string (bs c.to.nm), .int .i64 c.to.k, .int .i64 c.to.g, .int .i64 c.dk, .int .u64 c.dn, .string c.dt, .slice A n cp] := by
  obtain ⟨xs, n, _, hx, hlen, hxl, hf⟩ := DataW.trod_struct Try.underlying30 h
  rw [f_one9] at hlen
  match cs, hlen with
  | [c0, c1, c2, c3, c4, c5, c6, c7, c8], _ =>
    match xs, hxl with
    | [y0, y1, y2, y3, y4], _ =>
      have g0 : DataW.trod enc Try.prog W 0 (fun _ => true) true n 3 (List.take (Try.prog.cellsOf 3) (List.drop 0 [c0, c1, c2, c3, c4, c5, c6, c7, c8])) = some y0 := hf 0 _ rfl
      rw [f_one] at g0
      change DataW.trod enc Try.prog W 0 (fun _ => true) true n 3 [c0] = some y0 at g0
      have g1 : DataW.trod enc Try.prog W 0 (fun _ => true) true n 9 (List.take (Try.prog.cellsOf 9) (List.drop 1 [c0, c1, c2, c3, c4, c5, c6, c7, c8])) = some y1 := hf 1 _ rfl
      rw [f_ones] at g1
      change DataW.trod enc Try.prog W 0 (fun _ => true) true n 9 [c1] = some y1 at g1
      have g2 : DataW.trod enc Try.prog W 0 (fun _ => true) true n 24 (List.take (Try.prog.cellsOf 24) (List.drop 2 [c0, c1, c2, c3, c4, c5, c6, c7, c8])) = some y2 := hf 2 _ rfl
      rw [f_fd] at g2
      change DataW.trod enc Try.prog W 0 (fun _ => true) true n 24 [c2, c3, c4] = some y2 at g2
      have g3 : DataW.trod enc Try.prog W 0 (fun _ => true) true n 27 (List.take (Try.prog.cellsOf 27) (List.drop 5 [c0, c1, c2, c3, c4, c5, c6, c7, c8])) = some y3 := hf 3 _ rfl
      rw [f_vl] at g3
      change DataW.trod enc Try.prog W 0 (fun _ => true) true n 27 [c5, c6, c7] = some y3 at g3
      have g4 : DataW.trod enc Try.prog W 0 (fun _ => true) true n 28 (List.take (Try.prog.cellsOf 28) (List.drop 8 [c0, c1, c2, c3, c4, c5, c6, c7, c8])) = some y4 := hf 4 _ rfl
      rw [f_onel] at g4
      change DataW.trod enc Try.prog W 0 (fun _ => true) true n 28 [c8] = some y4 at g4
      obtain ⟨a0, q0, _, w0⟩ := DataW.trod_int Try.underlying3 g0
      obtain ⟨a1, q1, e1, w1⟩ := DataW.trod_string Try.underlying9 g1
      obtain ⟨f, hfd, q2, m2⟩ := fd_of_trod g2
      obtain ⟨k, vn, t, hv, q3, m3⟩ := vl2_of_trod g3
      have hw : x.1.weights Try.prog 30 = y0.1.weights Try.prog 3 ++ (y1.1.weights Try.prog 9 ++ (y2.1.weights Try.prog 24 ++ (y3.1.weights Try.prog 27 ++ (y4.1.weights Try.prog 28 ++ [])))) := by
        rw [hx]; simp [DataW.weights, Try.underlying30, DataW.weightsEach]
      rw [hw] at hz
      have hz1 : ∀ m ∈ y1.1.weights Try.prog 9, m ≤ reachBytes := fun m hm => hz m (by simp [hm])
      have hz2 : ∀ m ∈ y2.1.weights Try.prog 24, m ≤ reachBytes := fun m hm => hz m (by simp [hm])
      have hz3 : ∀ m ∈ y3.1.weights Try.prog 27, m ≤ reachBytes := fun m hm => hz m (by simp [hm])
      have hz4 : ∀ m ∈ y4.1.weights Try.prog 28, m ≤ reachBytes := fun m hm => hz m (by simp [hm])
      obtain ⟨A, ln, cp, od, q4, hri, hol⟩ := rdIC_of_trod g4 hz4
      have hs1 : a1.data.toList.length ≤ nmMax := by
        have := hz1 a1.data.toList.length (by rw [e1]; simp [DataW.weights])
        unfold reachBytes at this; unfold nmMax; exact this
      have hs2 : f.nm.length ≤ nmMax := by have := hz2 _ m2; unfold reachBytes at this; unfold nmMax; exact this
      have hs3 : t.size ≤ nmMax := by have := hz3 _ m3; unfold reachBytes at this; unfold nmMax; exact this
      simp at q0 q1 q2 q3
      obtain ⟨rfl, rfl, rfl⟩ := q2
      obtain ⟨rfl, rfl, rfl⟩ := q3
      subst q0; subst q1; subst q4
      exact ⟨⟨a0, a1.data.toList, f, k, vn, t, od⟩, A, ln, cp, ⟨⟨w0, hfd.1, hfd.2, hv.1, hv.2⟩, ⟨hs1, hs2, hs3, hol⟩, hri⟩, by rw [bs_data]⟩
set_option maxRecDepth 40000 in
theorem rdC_of_trod {v : Value} (h : DataW.trod enc Try.prog W 0 (fun _ => true) true fuel 32 [v] = some x) (hz : ∀ n ∈ x.1.weights Try.prog 32, n ≤ reachBytes) : ∃ a len cap l, v = .slice a len cap ∧ RdC W W.heap.size a len cap l ∧ ∀ c ∈ l, shC c := by
  rcases open_slice Try.underlying32 h with ⟨hcs, _⟩ | ⟨a, len, cap, m, n, D, Pl, hcs, _, hl, hm, hmm, hx, hi⟩
  · simp at hcs
    exact ⟨none, 0, 0, [], hcs, ⟨rfl, by omega, by unfold maxLen; omega, by simp, fun h => by omega⟩, by simp⟩
  · simp at hcs
    have hmc : m = cap := by simpa using hmm
    rw [f_one9] at hi
    have hch : ∀ i, i < len → ∃ o : Ch × (Option Addr × Nat × Nat), ChA W o.1 o.2.1 o.2.2.1 o.2.2.2 ∧ ∃ cs', W.cells? 0 (a.add (i * 9)) 9 = some cs' ∧ cs' = [.int .i64 o.1.op, .string (bs o.1.nm), .string (bs o.1.to.nm), .int .i64 o.1.to.k, .int .i64 o.1.to.g, .int .i64 o.1.dk, .int .u64 o.1.dn, .string o.1.dt, .slice o.2.1 o.2.2.1 o.2.2.2] := by
      intro i hil
      obtain ⟨cs', hc, ht⟩ := hi i (by omega)
      obtain ⟨c, A, n', cp', hca, e⟩ := ch_of_trod ht (fun k hk => hz k (by
        rw [hx]
        simp only [DataW.weights, Try.underlying32, List.mem_cons, List.mem_append]
        exact .inr (.inl (weights_in _ (D i) _ (List.mem_map.2 ⟨i, List.mem_range.2 hil, rfl⟩) hk))))
      exact ⟨(c, A, n', cp'), hca, cs', hc, e⟩
    have hex : ∃ f : Nat → Ch × (Option Addr × Nat × Nat), ∀ i, i < len → ChA W (f i).1 (f i).2.1 (f i).2.2.1 (f i).2.2.2 ∧ ∃ cs', W.cells? 0 (a.add (i * 9)) 9 = some cs' ∧ cs' = [.int .i64 (f i).1.op, .string (bs (f i).1.nm), .string (bs (f i).1.to.nm), .int .i64 (f i).1.to.k, .int .i64 (f i).1.to.g, .int .i64 (f i).1.dk, .int .u64 (f i).1.dn, .string (f i).1.dt, .slice (f i).2.1 (f i).2.2.1 (f i).2.2.2] := by
      refine ⟨fun i => if hi : i < len then (hch i hi).choose else (⟨0, [], ⟨[], 0, 0⟩, 0, 0, ⟨#[]⟩, []⟩, none, 0, 0), fun i hi => ?_⟩
      simp only [hi, dif_pos]
      exact (hch i hi).choose_spec
    obtain ⟨f, hf⟩ := hex
    refine ⟨some a, len, cap, (List.range len).map fun i => (f i).1, hcs, ⟨by simp, hl, hm, ?_, fun hn => ?_⟩, ?_⟩
    · intro o ho
      obtain ⟨i, hi, rfl⟩ := List.mem_map.1 ho
      exact (hf i (List.mem_range.1 hi)).1.1
    · obtain ⟨b, off, spot⟩ := a
      have hcell : ∀ i, i < len → ∀ j, j < 9 → W.cell? ((Addr.mk b off spot).add (i * 9 + j)) = [Value.int .i64 (f i).1.op, .string (bs (f i).1.nm), .string (bs (f i).1.to.nm), .int .i64 (f i).1.to.k, .int .i64 (f i).1.to.g, .int .i64 (f i).1.dk, .int .u64 (f i).1.dn, .string (f i).1.dt, .slice (f i).2.1 (f i).2.2.1 (f i).2.2.2][j]? := by
        intro i hi j hj
        obtain ⟨_, cs', hc, e⟩ := hf i hi
        obtain ⟨_, _, hat⟩ := World.cells?_some hc
        have := hat j hj
        rw [Go.Deep.add_add, e] at this
        exact this
      have h0 := hcell 0 hn 0 (by omega)
      have hspot : spot = none := by
        have := World.cell?_spot (v := .int .i64 (f 0).1.op) (by simpa using h0)
        simpa [Addr.add] using this
      subst hspot
      refine ⟨b, off, rfl, ?_, fun i hi => ?_⟩
      · simp only [add_plain] at h0
        by_cases hb : b < W.heap.size
        · exact hb
        · simp [World.cell?, Array.getElem?_eq_none (show W.heap.size ≤ b by omega)] at h0
      · simp at hi
        have c := fun j hj => hcell i hi j hj
        simp only [add_plain] at c
        have c0 := c 0 (by omega); have c1 := c 1 (by omega); have c2 := c 2 (by omega); have c3 := c 3 (by omega); have c4 := c 4 (by omega); have c5 := c 5 (by omega); have c6 := c 6 (by omega); have c7 := c 7 (by omega); have c8 := c 8 (by omega)
        simp only [List.getElem_map, List.getElem_range]
        refine ⟨_, _, _, ⟨by simpa using c0, ?_, ?_, ?_, ?_, ?_, ?_, ?_, ?_⟩, (hf i hi).1.2.2⟩
        · rw [Nat.add_assoc]; simpa using c1
        · rw [Nat.add_assoc]; simpa using c2
        · rw [Nat.add_assoc]; simpa using c3
        · rw [Nat.add_assoc]; simpa using c4
        · rw [Nat.add_assoc]; simpa using c5
        · rw [Nat.add_assoc]; simpa using c6
        · rw [Nat.add_assoc]; simpa using c7
        · rw [Nat.add_assoc]; simpa using c8
    · intro o ho
      obtain ⟨i, hi, rfl⟩ := List.mem_map.1 ho
      exact (hf i (List.mem_range.1 hi)).1.2.1
end
end Go.Proofs.Ytjodbopnibdolaa

namespace Go.Proofs.Ytjodbopnibdolaa
open Go.RowKit
set_option linter.unusedVariables false
set_option linter.unusedSimpArgs false

def crCells (p : Ch × Value) : List Value := [.int .i64 p.1.op, .string (bs p.1.nm), .string (bs p.1.to.nm), .int .i64 p.1.to.k, .int .i64 p.1.to.g, .int .i64 p.1.dk, .int .u64 p.1.dn, .string p.1.dt, p.2]
def cellsCr (l : List (Ch × Value)) : List Value := (l.map crCells).flatten
theorem cellsCr_length (l : List (Ch × Value)) : (cellsCr l).length = l.length * 9 := by
  induction l with
  | nil => rfl
  | cons o os ih => have : cellsCr (o :: os) = crCells o ++ cellsCr os := rfl; rw [this, List.length_append, ih]; simp [crCells]; omega
theorem cellsCr_get : ∀ (os : List (Ch × Value)) (i : Nat) (h : i < os.length), ∀ j, j < 9 → (cellsCr os)[i * 9 + j]? = (crCells os[i])[j]? := by
  intro os
  induction os with
  | nil => intro i h; simp at h
  | cons x os ih =>
    intro i h j hj
    have e : cellsCr (x :: os) = crCells x ++ cellsCr os := rfl
    have hl : (crCells x).length = 9 := rfl
    rw [e]
    cases i with
    | zero => rw [List.getElem?_append_left (by omega), Nat.zero_mul, Nat.zero_add]; rfl
    | succ i =>
      rw [List.getElem?_append_right (by omega), hl, show (i + 1) * 9 + j - 9 = i * 9 + j by omega]
      exact ih i (by simpa using h) j hj
def OwC (w : World) (base : Nat) (v : Value) (l : List (Ch × Value)) : Prop := w.ownsRow base 40 9 v l.length (cellsCr l)
theorem OwC.nil (w : World) (base : Nat) : OwC w base (.slice none 0 0) [] := World.ownsRow_nil _ _ _ _
section
variable {w w' : World} {base : Nat} {v : Value} {l : List (Ch × Value)}
theorem OwC.on (h : OwC w base v l) (hb : Below w.heap.size w w') : OwC w' base v l := by
  refine ⟨h.1, ?_⟩
  rcases h.2 with h1 | ⟨g, cap, cur, hv, hbase, hg, h3⟩
  · exact .inl h1
  · exact .inr ⟨g, cap, cur, hv, hbase, (hb.block g (row_lt hg)).trans hg, h3⟩
theorem OwC.row (h : OwC w base v l) : ∀ j, v.ownBlock = some j → base ≤ j := by
  intro j hj
  rcases h.2 with ⟨e, _⟩ | ⟨g, cap, cur, e, hbase, _⟩
  · rw [e] at hj; simp [Value.ownBlock] at hj
  · rw [e] at hj; simp [Value.ownBlock] at hj; omega
theorem OwC.shape (h : OwC w base v l) : ∃ A n c, v = .slice A n c := by
  rcases h.2 with ⟨e, _⟩ | ⟨g, cap, cur, e, _⟩
  · exact ⟨_, _, _, e⟩
  · exact ⟨_, _, _, e⟩
theorem OwC.rd (h : OwC w base v l) (hx : ∀ p ∈ l, (I64 p.1.op ∧ I64 p.1.to.k ∧ I64 p.1.to.g ∧ I64 p.1.dk ∧ U64 p.1.dn) ∧ ∃ A n c, p.2 = .slice A n c ∧ RdI w w.heap.size A n c p.1.od) : ∃ A cap, v = .slice A l.length cap ∧ RdC w w.heap.size A l.length cap (l.map Prod.fst) := by
  rcases h.2 with ⟨rfl, hn⟩ | ⟨g, cap, cur, rfl, hbase, hg, hnc, hm, hs, hl⟩
  · have : l = [] := List.eq_nil_of_length_eq_zero hn
    subst this
    exact ⟨none, 0, rfl, rfl, by simp, by simp [maxLen], by simp, fun h => by simp at h⟩
  · refine ⟨some ⟨g, 0, none⟩, cap, rfl, by simp, hnc, hm, fun c hc => ?_, fun hn => ⟨g, 0, rfl, row_lt hg, fun i hi => ?_⟩⟩
    · obtain ⟨p, hp, rfl⟩ := List.mem_map.1 hc
      exact (hx p hp).1
    · have hi' : i < l.length := by simpa using hi
      obtain ⟨_, A, n, c, e, hr⟩ := hx l[i] (List.getElem_mem hi')
      have t : ∀ j, j < 9 → w.cell? ⟨g, 0 + i * 9 + j, none⟩ = (crCells l[i])[j]? := fun j hj => by
        rw [row_cell hg, Nat.zero_add, ← cellsCr_get l i hi' j hj, ← hl, List.getElem?_take_of_lt (by omega), Array.getElem?_toList]
      refine ⟨A, n, c, ?_, by simpa using hr⟩
      have t8 := t 8 (by omega)
      simp only [List.getElem_map]
      exact ⟨t 0 (by omega), t 1 (by omega), t 2 (by omega), t 3 (by omega), t 4 (by omega), t 5 (by omega), t 6 (by omega), t 7 (by omega), by rw [t8]; exact congrArg some e⟩
end
theorem infoCh : (Try.prog.info? 40).map (fun i => (i.zero, i.size, i.bytes)) = some (some (.agg #[.int .i64 0, .string ⟨#[]⟩, .string ⟨#[]⟩, .int .i64 0, .int .i64 0, .int .i64 0, .int .u64 0, .string ⟨#[]⟩, .slice none 0 0]), 9, 112) := by kernel_rfl
def chObj (c : Ch) (A : Option Addr) (n cp : Nat) (ty : TypeId) : Obj := .cells #[.int .i64 c.op, .string (bs c.nm), .string (bs c.to.nm), .int .i64 c.to.k, .int .i64 c.to.g, .int .i64 c.dk, .int .u64 c.dn, .string c.dt, .slice A n cp] ty
theorem run_appCh {w : World} {base : Nat} {v : Value} {l : List (Ch × Value)} (h : OwC w base v l) (c : Ch) (A : Option Addr) (n cp : Nat) (hlen : l.length ≤ 1000000) (hb : base ≤ w.heap.size) (ty : TypeId) :
    ∃ v' w', (Builtin.append_ #[58, 58] ty #[v, .slice (some ⟨w.heap.size, 0, none⟩) 1 1]).run Try.prog (w.alloc (chObj c A n cp 40)) = .ok v' w' ∧ OwC w' base v' (l ++ [(c, .slice A n cp)]) ∧ (w.alloc (chObj c A n cp 40)).grownBy w' v.ownBlock := by
  have hi8 := infoCh
  have hk : Below w.heap.size w (w.alloc (chObj c A n cp 40)) := B1 _ _
  cases hi : Try.prog.info? 40 with
  | none => rw [hi] at hi8; cases hi8
  | some i =>
    rw [hi] at hi8
    simp only [Option.map_some, Option.some.injEq, Prod.mk.injEq] at hi8
    obtain ⟨hz, hsz, hby⟩ := hi8
    obtain ⟨v', W', hr, ho, hg, hnil⟩ := run_append_own (P := Try.prog) (w.alloc (chObj c A n cp 40)) base 58 ty 40 i _ 9 112 Try.underlying58 hi hz hsz hby rfl (by omega) v l.length (cellsCr l) (h.on hk) ⟨w.heap.size, 0, none⟩ 1 1 (crCells (c, .slice A n cp)) rfl (fun j u hj => by
      unfold chObj
      rw [add_plain, Nat.zero_add, row_cell (heap_alloc_new w _)]
      match j, hj with | 0, h => exact h | 1, h => exact h | 2, h => exact h | 3, h => exact h | 4, h => exact h | 5, h => exact h | 6, h => exact h | 7, h => exact h | 8, h => exact h) (by intro u hu; simp [crCells] at hu; rcases hu with rfl | rfl | rfl | rfl | rfl | rfl | rfl | rfl | rfl <;> rfl) (by unfold maxLen; omega) (by omega) (Nat.le_trans hb hk.size)
    refine ⟨v', W', hr, ?_, hg⟩
    unfold OwC
    have e : cellsCr (l ++ [(c, .slice A n cp)]) = cellsCr l ++ crCells (c, .slice A n cp) := by simp [cellsCr]
    rw [List.length_append, e]; exact ho

/-- What own has made so far. -/
def OwnSt (w W : World) (cs : List Ch) (j : Nat) (v : Value) : Prop := ∃ ps : List (Ch × Value), ps.map Prod.fst = cs.take j ∧ (∀ p ∈ ps, ∃ A n c, p.2 = .slice A n c ∧ RdI w w.heap.size A n c p.1.od) ∧ OwC W w.heap.size v ps ∧ Below w.heap.size w W
set_option maxHeartbeats 4000000 in
theorem own_any {w : World} {Ac : Option Addr} {m mc : Nat} {cs : List Ch} (hcs : RdC w w.heap.size Ac m mc cs) (hm : m ≤ 1000000) :
    Calls Try.prog 21 #[.slice Ac m mc] w fun e w' => ∃ A n c, e = .returned (.slice A n c) ∧ RdC w' w'.heap.size A n c cs ∧ Below w.heap.size w w' := by
  have HM := hid hcs.1
  have hmm : (m : Int) ≤ 1000000 := by omega
  have HX : Hid (∀ c ∈ cs, I64 c.op ∧ I64 c.to.k ∧ I64 c.to.g ∧ I64 c.dk ∧ U64 c.dn) := hid hcs.2.2.2.1
  have HC := hid hcs; clear hcs
  go_enter Try.func21, Try.ntmps21
  go_wp2_with fail
  go_loopw [3, 8] (fun s i wr => ∃ (j : Nat), j ≤ m ∧ i = .int .i64 j ∧ Hid (OwnSt w wr cs j s)) (fun _ i _ => m - (intOf i).toNat)
  case atStart => exact ⟨0, by omega, rfl, hid ⟨[], rfl, by simp, OwC.nil _ _, B0 w⟩⟩
  case round =>
    obtain ⟨j, hj, rfl, ⟨ps, hps, hrd, how, hbl⟩⟩ := hrel
    obtain ⟨A0, n0, c0, rfl⟩ := how.shape
    by_cases hlt : j < m
    · obtain ⟨c, hc⟩ : ∃ c, cs[j]? = some c := ⟨_, List.getElem?_eq_getElem (by have := HM.out; omega)⟩
      obtain ⟨_, _, b, off, Ao, no, co, rfl, hcc, hod⟩ := HC.out.at hc
      obtain ⟨d0, d1, d2, d3, d4, d5, d6, d7, d8⟩ := hcc wr hbl
      have hji : (j : Int) < m := by omega
      have hj0 : (0 : Int) ≤ j := by omega
      obtain ⟨p, hp⟩ : ∃ p, p = wr.heap.size := ⟨_, rfl⟩
      obtain ⟨w3, hw3⟩ : ∃ w3, w3 = wr.alloc (.cells #[.int .i64 c.op, .string (bs c.nm), .string (bs c.to.nm), .int .i64 c.to.k, .int .i64 c.to.g, .int .i64 c.dk, .int .u64 c.dn, .string c.dt, .slice Ao no co] 30) := ⟨_, rfl⟩
      have HP := hid hp; have HW3 := hid hw3
      have HCB : Hid (CB w3 p c Ao no co 30) := by rw [hw3, hp]; exact hid (CB.new wr c Ao no co _)
      have hb3 : Below wr.heap.size wr w3 := by rw [hw3]; exact B1 _ _
      have hlen : ps.length ≤ 1000000 := by have := congrArg List.length hps; rw [List.length_map, List.length_take] at this; omega
      obtain ⟨v', w4, hrun, hown, hgr⟩ := run_appCh (how.on hb3) c Ao no co hlen (Nat.le_trans hbl.size hb3.size) 58
      have hbl4 : Below w.heap.size w w4 := Below.grown ((hbl.trans (hb3.mono hbl.size)).trans ((B1 w3 (chObj c Ao no co 40)).mono (Nat.le_trans hbl.size hb3.size))) hgr (by have := hbl.size; have := hb3.size; simp; omega) (fun i e => how.row i e)
      have HRUN := hid hrun
      have HST : Hid (OwnSt w w4 cs (j + 1) v') := hid ⟨ps ++ [(c, .slice Ao no co)], by rw [List.map_append, hps, List.take_add_one, hc]; rfl, fun q hq => by
        rw [List.mem_append] at hq
        rcases hq with hq | hq
        · exact hrd q hq
        · simp at hq; subst hq; exact ⟨_, _, _, rfl, hod⟩, hown, hbl4⟩
      unfold chObj at HRUN
      clear hcc hod hc hp hw3 hrun hown hgr hbl4 hlen hb3 hps hrd how hbl
      go_upto_region 5 with fail
      rw [← HW3.out, ← HP.out]
      clear d0 d1 d2 d3 d4 d5 d6 d7 d8
      obtain ⟨y0, y1, y2, y3, y4, y5, y6, y7, y8⟩ := HCB.out.cells
      go_wp2_with (at_builtin; refine wpList_appG rfl _ _ rfl rfl rfl HRUN.out ?_)
      exact ⟨⟨j + 1, by omega, by go_num, HST⟩, by simp [intOf]; omega⟩
    · obtain rfl : j = m := by omega
      have et : cs.take j = cs := by rw [← HM.out]; exact List.take_length
      rw [et] at hps
      have HR : Hid (∃ A n c, Value.slice A0 n0 c0 = .slice A n c ∧ RdC wr wr.heap.size A n c cs) := hid (by
        obtain ⟨A, cap, e, hr⟩ := how.rd (fun p hp => by
          obtain ⟨A, n, c, e, hri⟩ := hrd p hp
          refine ⟨HX.out p.1 (by rw [← hps]; exact List.mem_map.2 ⟨p, hp, rfl⟩), A, n, c, e, hri.on hbl⟩)
        rw [hps] at hr
        exact ⟨_, _, _, e, hr⟩)
      have HBL := hid hbl
      clear hps hrd how hbl et
      go_wp2_with fail
      go_ret
      obtain ⟨A, n, c, e, hr⟩ := HR.out
      cases e
      exact ⟨_, _, _, rfl, hr, HBL.out⟩
end Go.Proofs.Ytjodbopnibdolaa
