/-
  The law WalAll: a walk.
-/
import Derived.Test.YteggkojlpgkhbaaGreatDocZ
import Derived.Test.YteggkojlpgkhbaaGreatM18
namespace Go.Proofs.YteggkojlpgkhbaaGreat
open Go.RowKit Go.Maps Go.Shelf
set_option linter.unusedVariables false

theorem openN {w : World} {B d lb fb : Nat} (h : DevN w B d lb fb) {at_ words : Int} (ha : I64 at_) (hw : I64 words) :
    Calls Tryz.prog 6 #[.pointer (some ⟨d, 0, none⟩), .int .i64 at_, .int .i64 words] w fun e w' => e = .returned (.tuple #[.pointer none, .int .i64 (rgE 0 at_ words)]) ∧ Below w.heap.size w w' := by
  have hr := rgN h at_ words ha hw
  have he := rgE0 at_ words
  obtain ⟨x, hx⟩ : ∃ x, x = rgE 0 at_ words := ⟨_, rfl⟩
  rw [← hx] at hr he ⊢
  have HR := hid hr
  have d1 : (x == 0) = false := by rw [beq_eq_false_iff_ne]; exact he
  clear h hr hx ha hw
  go_enter Tryz.func6, Tryz.ntmps6
  go_wp2_with fail
  refine HR.out.mono ?_
  rintro e w1 ⟨rfl, hb1⟩
  go_wp2_with fail
  go_ret2
  exact ⟨rfl, Ba hb1 _⟩

set_option maxRecDepth 20000 in
set_option maxHeartbeats 8000000 in
theorem all_nil {w : World} {A2 A3 : Option Addr} {n2 c2 n3 c3 : Nat} {l : List OpV} {at_ words : Int} {xs : List (Int × Int)} (h : RdO w w.heap.size A2 n2 c2 l) (ha : I64 at_) (hw : I64 words) (hx : RdS w w.heap.size A3 n3 c3 xs) :
    Calls Tryz.prog 3 #[.agg #[.slice none 0 0, .slice A2 n2 c2, .int .i64 at_, .int .i64 words], .slice A3 n3 c3] w fun e w' => e = .returned (.bool true) ∧ Below w.heap.size w w' := by
  have H := hid h; have HA := hid ha; have HWo := hid hw
  have hn3m : (n3 : Int) ≤ 9223372036854775807 := by have := Nat.le_trans hx.2.1 hx.2.2.1; unfold maxLen at this; omega
  clear h ha hw hx
  obtain ⟨w0, hw0⟩ : ∃ w0, w0 = w.alloc (.cells #[.slice none 0 0, .slice A2 n2 c2, .int .i64 at_, .int .i64 words] 27) := ⟨_, rfl⟩
  have HW0 := hid hw0
  have HB0 : Hid (Below w.heap.size w w0) := by rw [hw0]; exact B1 _ _
  have HBX : Hid (∀ w', Below w0.heap.size w0 w' → w'.heap[w.heap.size]? = some (.cells #[.slice none 0 0, .slice A2 n2 c2, .int .i64 at_, .int .i64 words] 27 (0, 0))) := fun w' h => by
    rw [h.block _ (by rw [hw0]; simp), hw0]; exact heap_alloc_new w _
  clear hw0
  go_enter Tryz.func3, Tryz.ntmps3
  go_wp2_with fail
  rw [← HW0.out]
  refine (madeN_any (H.out.on HB0.out)).mono ?_
  rintro e w1 hm
  rcases hm with ⟨rfl, hb1⟩ | ⟨d, lb, fb, base, v, rfl, hB, hb1⟩
  · have HB1 := hid (Bt HB0.out hb1)
    clear hb1
    go_wp2_with fail
    refine (alive_any _).mono ?_
    rintro e w2 ⟨rfl, hb2⟩
    have HB2 := hid (Bt HB1.out hb2); clear hb2
    go_wp2_with fail
    go_ret
    exact ⟨rfl, HB2.out⟩
  have HBo := hid hB; have HB1 := hid hb1
  have HBW1 := hid (Bt HB0.out hb1)
  obtain ⟨A1, c1, hv, hrd⟩ := hB.ow.rd
  have hv : v = .slice A1 0 c1 := hv
  subst hv
  have hx := HBX.out w1 hb1
  have x2 := row_cell hx 2; have x3 := row_cell hx 3
  simp at x2 x3
  clear hB hb1 hrd hx
  by_cases z5 : (n3 : Int) ≤ 50
  · have d5 : decide (50 < (n3 : Int)) = false := by simp; omega
    obtain ⟨er, her⟩ : ∃ er, er = rgE 0 at_ words := ⟨_, rfl⟩
    have d1 : (er != 0) = true := by rw [her]; simpa using rgE0 at_ words
    have HER := hid her
    clear her
    go_wp2_with fail
    refine (openN HBo.out.dev HA.out HWo.out).mono ?_
    rintro e w2 ⟨rfl, hb2⟩
    rw [← HER.out]
    have hx := HBX.out w2 (HB1.out.trans (hb2.mono HB1.out.size))
    have x2 := row_cell hx 2; have x3 := row_cell hx 3
    simp at x2 x3
    have HB2 := hid hb2
    clear hb2 hx
    go_wp2_with fail
    refine (rin4_any at_ words HA.out HWo.out (by omega)).mono ?_
    rintro e w3 ⟨rfl, hb3⟩
    rw [show rgE ((0 : Nat) : Int) at_ words = er from HER.out.symm]
    have HB3 := hid (Bt HB2.out hb3)
    clear hb3 x2 x3
    go_wp2_with fail
    refine (alive_any _).mono ?_
    rintro e w4 ⟨rfl, hb4⟩
    have HB4 := hid (Bt HBW1.out (Bt HB3.out hb4))
    clear hb4
    go_wp2_with fail
    go_ret
    exact ⟨rfl, HB4.out⟩
  · have d5 : decide (50 < (n3 : Int)) = true := by simp; omega
    go_wp2_with fail
    refine (alive_any _).mono ?_
    rintro e w2 ⟨rfl, hb2⟩
    have HB2 := hid (Bt HBW1.out hb2); clear hb2
    go_wp2_with fail
    go_ret
    exact ⟨rfl, HB2.out⟩

/-- A call of the document, as a step has it. -/
theorem do_step {w : World} {base lo : Nat} {v : Value} {D : DS} {o : OpV} {s : Stp} (hg : D.good) (h : OwW w base v (wordsOf D)) (hb : base ≤ w.heap.size) (ho : OpS w lo o s) (hok : s.ok D.S.length) :
    Calls Tryz.prog 15 #[v, o.val] w (DoP w base (wordsOf (s.on D))) := by
  have h8 := hg.len.2
  cases s with
  | wr a l =>
    obtain ⟨q, c, rfl, h1, h2, h3⟩ := ho
    obtain ⟨k0, k1, k2⟩ := hok
    have := do_any hg h hb (putO a (some ⟨q, 0, none⟩) c l) (put_ok k0 (by omega) (h3.rd h1 h2)) (by simp [putO])
    rwa [opD_put ⟨k0, k1, k2⟩] at this
  | fl a m =>
    obtain rfl := ho
    obtain ⟨k0, k1, k2⟩ := hok
    have := do_any hg h hb (flO a m) (fl_ok k0 (by omega) (by omega) (by omega)) (by simp [flO])
    rwa [opD_fl ⟨k0, k1, k2⟩] at this
  | fe =>
    obtain rfl := ho
    have := do_any hg h hb feO fe_ok (by simp [feO])
    rwa [opD_fe] at this
/-- A call in a row. -/
theorem StO.at {w : World} {lo base : Nat} {v : Value} {ss : List Stp} (h : StO w lo base v ss) {i : Nat} {s : Stp} (hs : ss[i]? = some s) :
    ∃ q c o, v = .slice (some ⟨q, 0, none⟩) ss.length c ∧ OpC w q (i * 5) o ∧ OpS w lo o s := by
  obtain ⟨os, how, hl, h2⟩ := h
  have hi : i < ss.length := by
    by_cases hlt : i < ss.length
    · exact hlt
    · rw [List.getElem?_eq_none (by omega)] at hs; cases hs
  obtain ⟨o, ho, hos⟩ := h2 i s hs
  rcases how.2 with ⟨_, h0⟩ | ⟨g, c, cur, hv, hb, hg, h3, h4, h5, h6⟩
  · omega
  · have t : ∀ j, j < 5 → w.cell? ⟨g, i * 5 + j, none⟩ = (cellsP o)[j]? := fun j hj => by
      rw [row_cell hg, ← cellsO_get os i o ho j hj, ← h6, List.getElem?_take_of_lt (by omega), Array.getElem?_toList]
    exact ⟨g, c, o, hv, ⟨t 0 (by omega), t 1 (by omega), t 2 (by omega), t 3 (by omega), t 4 (by omega)⟩, hos⟩

theorem OwW.log {w w' : World} {base p d : Nat} {v : Value} {l : List Wd} {at_ words next : Int} (h : OwW w base v l) (hl : LogV w p d at_ words next) (hg : w.grownBy w' (some p)) : OwW w' base v l := by
  refine ⟨h.1, ?_⟩
  rcases h.2 with h1 | ⟨g, cap, cur, hv, hbase, hgg, h3⟩
  · exact .inl h1
  · refine .inr ⟨g, cap, cur, hv, hbase, (hg.block g (row_lt hgg) (fun e => ?_)).trans hgg, h3⟩
    cases e
    unfold LogV at hl
    rw [hl] at hgg; simp at hgg
theorem log_on {w w' : World} {p d : Nat} {at_ words next : Int} (h : LogV w p d at_ words next) (hb : Below w.heap.size w w') : LogV w' p d at_ words next := (hb.block _ (row_lt h)).trans h

set_option maxRecDepth 20000 in
set_option maxHeartbeats 16000000 in
theorem all_main {w : World} {ad : Addr} {A2 A3 : Option Addr} {n c n2 c2 n3 c3 : Nat} {b : List UInt8} {l : List OpV} {at_ words : Int} {xs : List (Int × Int)} (hb : Rd w w.heap.size (some ad) n c b) (h : RdO w w.heap.size A2 n2 c2 l) (ha : I64 at_) (hw : I64 words) (hx : RdS w w.heap.size A3 n3 c3 xs) :
    Calls Tryz.prog 3 #[.agg #[.slice (some ad) n c, .slice A2 n2 c2, .int .i64 at_, .int .i64 words], .slice A3 n3 c3] w fun e w' => e = .returned (.bool true) ∧ Below w.heap.size w w' := by
  have H := hid h; have HR := hid hb; have HA := hid ha; have HWo := hid hw; have HX := hid hx
  have hn3m : (n3 : Int) ≤ 9223372036854775807 := by have := Nat.le_trans hx.2.1 hx.2.2.1; unfold maxLen at this; omega
  have HXL : Hid (xs.length = n3) := hx.1
  have HXO : Hid (∀ x ∈ xs, I64 x.1 ∧ U64 x.2) := hx.2.2.2.1
  clear h hb ha hw hx
  obtain ⟨w0, hw0⟩ : ∃ w0, w0 = w.alloc (.cells #[.slice (some ad) n c, .slice A2 n2 c2, .int .i64 at_, .int .i64 words] 27) := ⟨_, rfl⟩
  have HW0 := hid hw0
  have HB0 : Hid (Below w.heap.size w w0) := by rw [hw0]; exact B1 _ _
  obtain ⟨sb, hsb⟩ : ∃ sb, sb = w.heap.size := ⟨_, rfl⟩
  have HSB := hid hsb
  have HBX : Hid (∀ w', Below w0.heap.size w0 w' → w'.heap[sb]? = some (.cells #[.slice (some ad) n c, .slice A2 n2 c2, .int .i64 at_, .int .i64 words] 27 (0, 0))) := fun w' h => by
    rw [h.block _ (by rw [hw0, hsb]; simp), hw0, hsb]; exact heap_alloc_new w _
  clear hw0 hsb
  go_enter Tryz.func3, Tryz.ntmps3
  go_wp2_with fail
  rw [← HW0.out, ← HSB.out]
  refine (made4_any (HR.out.on HB0.out) (H.out.on HB0.out)).mono ?_
  rintro e w1 hm
  rcases hm with ⟨rfl, hb1⟩ | ⟨d, g, cap, lb, fb, base, v, D, rfl, hB, hlen, hb1⟩
  · have HB1 := hid (Bt HB0.out hb1)
    clear hb1
    go_wp2_with fail
    refine (alive_any _).mono ?_
    rintro e w2 ⟨rfl, hb2⟩
    have HB2 := hid (Bt HB1.out hb2); clear hb2
    go_wp2_with fail
    go_ret
    exact ⟨rfl, HB2.out⟩
  have HBo := hid hB; have HB1 := hid hb1
  have HBW1 := hid (Bt HB0.out hb1)
  obtain ⟨A1, c1, hv, hrd⟩ := hB.ow.rd
  obtain ⟨N, hN⟩ : ∃ N, N = (wordsOf D).length := ⟨_, rfl⟩
  rw [← hN] at hv hrd
  subst hv
  have HN8 : Hid (N ≤ 25) := by show _ ≤ _; rw [hN, wordsOf_length]; omega
  have HNI : Hid ((N : Int) = (D.S.length : Int) / 8) := by show _ = _; rw [hN, wordsOf_length]; omega
  have HRD := hid hrd
  have hx := HBX.out w1 hb1
  have x2 := row_cell hx 2; have x3 := row_cell hx 3
  simp at x2 x3
  clear hB hb1 hrd hN hx hlen
  by_cases z5 : (n3 : Int) ≤ 50
  case neg =>
    have d5 : decide (50 < (n3 : Int)) = true := by simp; omega
    go_wp2_with fail
    refine (alive_any _).mono ?_
    rintro e w2 ⟨rfl, hb2⟩
    have HB2 := hid (Bt HBW1.out hb2); clear hb2
    go_wp2_with fail
    go_ret
    exact ⟨rfl, HB2.out⟩
  have d5 : decide (50 < (n3 : Int)) = false := by simp; omega
  by_cases he : rgE (N : Int) at_ words = 0
  case neg =>
    have HE := hid he
    obtain ⟨er, her⟩ : ∃ er, er = rgE (N : Int) at_ words := ⟨_, rfl⟩
    have d1 : (er != 0) = true := by rw [her]; simpa using he
    have HER := hid her
    clear he her
    go_wp2_with fail
    refine (open_bad HBo.out.dev HA.out HWo.out HNI.out HE.out).mono ?_
    rintro e w2 ⟨rfl, hb2⟩
    rw [← HER.out]
    have hx := HBX.out w2 (HB1.out.trans (hb2.mono HB1.out.size))
    have x2 := row_cell hx 2; have x3 := row_cell hx 3
    simp at x2 x3
    have HB2 := hid hb2
    clear hb2 hx
    go_wp2_with fail
    refine (rin4_any at_ words HA.out HWo.out (by have := HN8.out; omega)).mono ?_
    rintro e w3 ⟨rfl, hb3⟩
    rw [← HER.out]
    have HB3 := hid (Bt HB2.out hb3)
    clear hb3 x2 x3
    go_wp2_with fail
    refine (alive_any _).mono ?_
    rintro e w4 ⟨rfl, hb4⟩
    have HB4 := hid (Bt HBW1.out (Bt HB3.out hb4))
    clear hb4
    go_wp2_with fail
    go_ret
    exact ⟨rfl, HB4.out⟩
  have HE := hid he
  obtain ⟨r0, r1, r2⟩ := rgE_ok he
  have HR2 := hid r2
  have r28 : at_ + words ≤ 25 := by have := HN8.out; omega
  clear he r2
  go_wp2_with fail
  refine (open_ok HBo.out.dev HNI.out HE.out).mono ?_
  rintro e w2 ⟨p, rfl, hl2, hp2, hb2⟩
  obtain ⟨q, hq⟩ : ∃ q : Nat, q = seqOf (N : Int) at_ words D.S := ⟨_, rfl⟩
  have hqlt := seqOf_lt (N : Int) at_ words D.S
  rw [← hq] at hl2 hqlt
  have HQ := hid hq; have HQL := hid hqlt
  have hqi : (q : Int) < 4294967296 := by omega
  have HBo2 := hid (HBo.out.on hb2); have HRD2 := hid (HRD.out.on hb2)
  have HL2 := hid hl2; have HP : Hid (w1.heap.size ≤ p) := hp2
  have HBw2 := hid (Bt HB1.out hb2)
  have hx := HBX.out w2 HBw2.out
  have x2 := row_cell hx 2; have x3 := row_cell hx 3
  simp at x2 x3
  clear hq hqlt hl2 hp2 hb2 hx
  go_wp2_with fail
  refine (rin4_any at_ words HA.out HWo.out (by have := HN8.out; omega)).mono ?_
  rintro e w3 ⟨rfl, hb3⟩
  rw [HE.out]
  have HBo3 := hid (HBo2.out.on hb3); have HRD3 := hid (HRD2.out.on hb3); have HL3 : Hid (LogV w3 p d at_ words (q + 1)) := (hb3.block _ (row_lt HL2.out)).trans HL2.out
  have HBw3 := hid (Bt HBw2.out hb3)
  have hx := HBX.out w3 HBw3.out
  have x2 := row_cell hx 2; have x3 := row_cell hx 3
  simp at x2 x3
  clear hb3 hx
  go_wp2_with fail
  refine (rhas4_any HRD3.out HBo.out.dev.good r0 r1 HR2.out).mono ?_
  intro e w4 hpost
  obtain ⟨hv4, hb4⟩ := hpost
  obtain ⟨v4, rfl⟩ : ∃ v4, e = .returned (.tuple #[.int .i64 (q : Int), v4]) := by
    have hsq : (q : Nat) = if recOk (N : Int) at_ words (recB D.S at_ words) = true then recQ (recB D.S at_ words) else 0 := HQ.out
    by_cases hR : recOk (N : Int) at_ words (recB D.S at_ words) = true
    · rw [if_pos hR] at hv4 hsq
      obtain ⟨v, hv, _⟩ := hv4
      exact ⟨v, by rw [hv, hsq]⟩
    · rw [if_neg hR] at hv4 hsq
      exact ⟨_, by rw [hv4, hsq]; rfl⟩
  have HBo4 := hid (HBo3.out.on hb4); have HL4 : Hid (LogV w4 p d at_ words (q + 1)) := (hb4.block _ (row_lt HL3.out)).trans HL3.out
  have HBw4 := hid (Bt HBw3.out hb4)
  clear hv4 hb4 x2 x3
  have q1 : IntKind.i64.wrap ((q : Int) + 1) = (q : Int) + 1 := by rw [IntKind.wrap_i64]; omega
  have q2 : IntKind.i64.wrap ((q : Int) + 2) = (q : Int) + 2 := by rw [IntKind.wrap_i64]; omega
  go_wp2_with fail
  refine reg_begin (by kernel_rfl) (fun w0a hx0a hHeld => ?_)
  have p2 : ∀ w', Ext w0a w' → w'.cell? ⟨sb, 2, none⟩ = some (.int .i64 at_) := fun w' h => by rw [row_cell (HBX.out w' (Bt HBw4.out (hx0a.trans h)))]; rfl
  have p3 : ∀ w', Ext w0a w' → w'.cell? ⟨sb, 3, none⟩ = some (.int .i64 words) := fun w' h => by rw [row_cell (HBX.out w' (Bt HBw4.out (hx0a.trans h)))]; rfl
  have HLa : Hid (LogV w0a p d at_ words (q + 1)) := (hx0a.block _ (row_lt HL4.out)).trans HL4.out
  refine reg_take 0 (v := ?vb0) at0 (by kernel_rfl) (by kernel_rfl) (by kernel_rfl) (by rfl) ?hyb0 hHeld ?restb0
  case hyb0 => (intro w' hSw; go_simp; try with_reducible rfl)
  try simp only [Act.put, List.setIfInBounds_toArray, List.set_cons_zero, List.set_cons_succ]
  refine reg_take 2 (v := ?vb2) (atS (atS at0)) (by kernel_rfl) (by kernel_rfl) (by kernel_rfl) (by rfl) ?hyb2 hHeld ?restb2
  case hyb2 => (intro w' hSw; go_simp; try with_reducible rfl)
  try simp only [Act.put, List.setIfInBounds_toArray, List.set_cons_zero, List.set_cons_succ]
  refine reg_take 3 (v := ?vb3) (atS (atS (atS at0))) (by kernel_rfl) (by kernel_rfl) (by kernel_rfl) (by rfl) ?hyb3 hHeld ?restb3
  case hyb3 => (intro w' hSw; go_simp; try with_reducible rfl)
  try simp only [Act.put, List.setIfInBounds_toArray, List.set_cons_zero, List.set_cons_succ]
  refine wpAnyH_ready (rs := [1]) (by kernel_rfl) (by simp) ?_
  refine AllReadyH.cons (atS at0) (fun K hK => ?_) AllReadyH.nil
  go_simp
  refine (room_any HLa.out r1 (by omega)).mono ?_
  rintro e w5 ⟨rfl, rfl⟩
  go_wp2_with fail
  refine hK.out _ _ (Ext.refl _) (fun hHeld => ?_)
  clear hK K
  try simp only [Act.put, List.setIfInBounds_toArray, List.set_cons_zero, List.set_cons_succ]
  refine wpAnyH_ready (rs := [4]) (by kernel_rfl) (by simp) ?_
  refine AllReadyH.cons (atS (atS (atS (atS at0)))) (fun K hK => ?_) AllReadyH.nil
  go_simp
  refine (rroom_any at_ words r1 (by omega)).mono ?_
  rintro e w6 ⟨rfl, hb6⟩
  have HB6 := hid hb6
  have HL6 : Hid (LogV w6 p d at_ words (q + 1)) := (hb6.block _ (row_lt HLa.out)).trans HLa.out
  go_wp2_with fail
  refine hK.out _ _ HB6.out (fun hHeld => ?_)
  clear hK K
  try simp only [Act.put, List.setIfInBounds_toArray, List.set_cons_zero, List.set_cons_succ]
  refine reg_on HB6.out (fun hHeld => ?_)
  refine reg_take 5 (v := ?vb5) (atS5 at0) (by kernel_rfl) (by kernel_rfl) (by kernel_rfl) (by rfl) ?hyb5 hHeld ?restb5
  case hyb5 => (intro w' hSw; go_simp; try with_reducible rfl)
  try simp only [Act.put, List.setIfInBounds_toArray, List.set_cons_zero, List.set_cons_succ]
  refine reg_take 6 (v := ?vb6) (atS5 (atS at0)) (by kernel_rfl) (by kernel_rfl) (by kernel_rfl) (by rfl) ?hyb6 hHeld ?restb6
  case hyb6 => (intro w' hSw; go_simp; try with_reducible rfl)
  try simp only [Act.put, List.setIfInBounds_toArray, List.set_cons_zero, List.set_cons_succ]
  refine reg_take 7 (v := ?vb7) (atS5 (atS (atS at0))) (by kernel_rfl) (by kernel_rfl) (by kernel_rfl) (by rfl) ?hyb7 hHeld ?restb7
  case hyb7 => (intro w' hSw; go_simp; try with_reducible rfl)
  try simp only [Act.put, List.setIfInBounds_toArray, List.set_cons_zero, List.set_cons_succ]
  refine reg_take 9 (v := ?vb9) (atS5 (atS (atS (atS (atS at0))))) (by kernel_rfl) (by kernel_rfl) (by kernel_rfl) (by rfl) ?hyb9 hHeld ?restb9
  case hyb9 => (intro w' hSw; go_simp; try with_reducible rfl)
  try simp only [Act.put, List.setIfInBounds_toArray, List.set_cons_zero, List.set_cons_succ]
  refine reg_take 10 (v := ?vb10) (atS5 (atS5 at0)) (by kernel_rfl) (by kernel_rfl) (by kernel_rfl) (by rfl) ?hyb10 hHeld ?restb10
  case hyb10 => (intro w' hSw; go_simp; try with_reducible rfl)
  try simp only [Act.put, List.setIfInBounds_toArray, List.set_cons_zero, List.set_cons_succ]
  refine wpAnyH_ready (rs := [8]) (by kernel_rfl) (by simp) ?_
  refine AllReadyH.cons (atS5 (atS (atS (atS at0)))) (fun K hK => ?_) AllReadyH.nil
  go_simp
  refine (seq_any HL6.out).mono ?_
  rintro e w7 ⟨rfl, rfl⟩
  go_wp2_with fail
  refine hK.out _ _ (Ext.refl _) (fun hHeld => ?_)
  clear hK K
  try simp only [Act.put, List.setIfInBounds_toArray, List.set_cons_zero, List.set_cons_succ]
  refine reg_take 11 (v := ?vb11) (atS5 (atS5 (atS at0))) (by kernel_rfl) (by kernel_rfl) (by kernel_rfl) (by rfl) ?hyb11 hHeld ?restb11
  case hyb11 => (intro w' hSw; go_simp; try with_reducible rfl)
  try simp only [Act.put, List.setIfInBounds_toArray, List.set_cons_zero, List.set_cons_succ]
  refine reg_take 12 (v := ?vb12) (atS5 (atS5 (atS (atS at0)))) (by kernel_rfl) (by kernel_rfl) (by kernel_rfl) (by rfl) ?hyb12 hHeld ?restb12
  case hyb12 => (intro w' hSw; go_simp; try with_reducible rfl)
  try simp only [Act.put, List.setIfInBounds_toArray, List.set_cons_zero, List.set_cons_succ]
  refine wpAnyH_done (by kernel_rfl) ?_ _
  refine NoPanic.normal ?_
  clear p2 p3
  have HBo7 := hid (HBo4.out.on (Bt hx0a HB6.out))
  have HBw7 := hid (Bt HBw4.out (Bt hx0a HB6.out))
  have HWW : Hid (w.heap.size ≤ w0.heap.size) := HB0.out.size
  go_wp2_with fail
  refine (own_any (HX.out.on (Bt HB0.out HBw7.out)) (by have := HXL.out; omega)).mono ?_
  rintro e w9 ⟨v9, rfl, ho9, hb9⟩
  obtain ⟨A9, c9, rfl⟩ := ho9.shape
  have hr9 := (ho9.rd HXO.out).1
  rw [HXL.out] at hr9 ⊢
  have HBo9 := hid (HBo7.out.on hb9); have HL9 := hid (log_on HL6.out hb9)
  have HBw9 := hid (Bt HBw7.out hb9)
  have hbeg := begin_any (N := (N : Int)) HBo9.out.dev HNI.out r0 r1 HR2.out HL9.out hr9 (by omega) (by omega)
  obtain ⟨eb, heb⟩ : ∃ eb, eb = begE N at_ words (q + 1) xs := ⟨_, rfl⟩
  rw [← heb] at hbeg
  have HBG := hid hbeg; have HEB := hid heb
  clear hbeg heb ho9 hr9 hb9
  go_wp2_with fail
  refine HBG.out.mono ?_
  intro e w10 hpost
  unfold BegPost at hpost
  by_cases hz : eb = 0
  · rw [if_pos hz] at hpost
    obtain ⟨v10, rfl, hst10, hl10, hg10⟩ := hpost
    have HBo10 : Hid (Both w0.heap.size w10 d g cap lb fb base (.slice A1 N c1) D) := ⟨Dev.log HBo9.out.dev HL9.out hg10, HBo9.out.ow.log HL9.out hg10, Nat.le_trans HBo9.out.hb hg10.size, HBo9.out.h1, HBo9.out.h2, HBo9.out.h3, HBo9.out.h4⟩
    have HBw10 : Hid (Below w0.heap.size w0 w10) := HBw9.out.grown hg10 HBw9.out.size (fun j hj => by cases hj; exact Nat.le_trans HB1.out.size HP.out)
    have HLT : Hid (g < w9.heap.size ∧ lb < w9.heap.size ∧ fb < w9.heap.size ∧ w9.heap.size ≤ w10.heap.size) := ⟨Dev.glt HBo9.out.dev, Dev.llt HBo9.out.dev, Dev.flt HBo9.out.dev, hg10.size⟩
    have HLT2 : Hid (g < w10.heap.size ∧ lb < w10.heap.size ∧ fb < w10.heap.size) := ⟨Dev.glt HBo10.out.dev, Dev.llt HBo10.out.dev, Dev.flt HBo10.out.dev⟩
    have hl10' : LogV w10 p d at_ words (q + 2) := by rw [show (q : Int) + 1 + 1 = q + 2 by omega] at hl10; exact hl10
    obtain ⟨ss, hss⟩ : ∃ ss, ss = allS at_ (q + 1) xs := ⟨_, rfl⟩
    have HOK : Hid (∀ s ∈ ss, s.ok D.S.length) := by
      rw [hss]; exact all_ok (n := (N : Int)) (words := words) HNI.out r0 r1 HR2.out (by rw [← HEB.out]; exact hz)
    have hsl : ss.length = n3 * 4 + 9 := by rw [hss, all_length, HXL.out]
    rw [← hss] at hst10
    obtain ⟨lo, hlo⟩ : ∃ lo, lo = w9.heap.size := ⟨_, rfl⟩
    rw [← hlo] at hst10 HLT
    obtain ⟨A10, c10, rfl⟩ := hst10.shape
    obtain ⟨M, hM⟩ : ∃ M, M = ss.length := ⟨_, rfl⟩
    have hM1 : (M : Int) ≤ 300 := by omega
    have hM0 : 1 ≤ M := by omega
    rw [← hM] at hst10 ⊢
    have HM := hid hM; have HSS := hid hss; have HST10 := hid hst10; have HL10 := hid hl10'
    have hx := HBX.out w10 HBw10.out
    have x2 := row_cell hx 2; have x3 := row_cell hx 3
    simp at x2 x3
    clear hst10 hl10 hl10' hg10 hss hlo hM hsl hx
    go_wp2_with fail
    refine (rsteps_any (N := N) (at_ := at_) (words := words) (seq := (q : Int) + 1) (by have := HN8.out; omega) r0 r1 HR2.out (by omega) (by omega) (HX.out.on (Bt HB0.out HBw10.out)) (by omega)).mono ?_
    intro e w11 hpost2
    unfold SteP at hpost2
    rw [← HEB.out, if_pos hz] at hpost2
    obtain ⟨v11, rfl, hso, hb11⟩ := hpost2
    subst hz
    rw [← HSS.out] at hso
    obtain ⟨A11, c11, rfl⟩ := hso.shape
    rw [← HM.out] at hso ⊢
    obtain ⟨lo2, hlo2⟩ : ∃ lo2, lo2 = w10.heap.size := ⟨_, rfl⟩
    rw [← hlo2] at hso HLT2
    have HSO11 := hid hso; have HST11 : Hid (StR w11 lo d lo (.slice A10 M c10) ss) := StR.on HST10.out hb11
    have HBo11 := hid (HBo10.out.on hb11); have HL11 := hid (log_on HL10.out hb11)
    have HBw11 := hid (Bt HB0.out (Bt HBw10.out hb11))
    obtain ⟨bb, hbb⟩ : ∃ bb, bb = w0.heap.size := ⟨_, rfl⟩
    rw [← hbb] at HBo11 HWW
    clear hso hb11 hlo2 x2 x3 hbb
    go_wp2_with fail
    go_loopw [6, 121] (fun r i wr => ∃ (m : Nat) (D' : DS), m ≤ M ∧ i = .int .i64 m ∧ Hid (Both bb wr d g cap lb fb base r D') ∧ Hid (D' = runS D (ss.take m)) ∧ Hid (D'.S.length = D.S.length) ∧ Hid (StR wr lo d lo (.slice A10 M c10) ss) ∧ Hid (StO wr lo2 lo2 (.slice A11 M c11) ss) ∧ Hid (LogV wr p d at_ words (q + 2)) ∧ Hid (Below w.heap.size w wr)) (fun _ i _ => M - (intOf i).toNat)
    case atStart => exact ⟨0, D, by omega, rfl, HBo11, hid rfl, hid rfl, HST11, HSO11, HL11, HBw11⟩
    case round =>
      obtain ⟨m, D', hm, rfl, HBm, HDm, HDl, HSm, HOm, HLm, HBw⟩ := hrel
      by_cases hmM : m < M
      · have HMS := hid hmM
        have hmi : (m : Int) < (M : Int) := by omega
        have hkl : m < ss.length := by rw [← HM.out]; exact hmM
        obtain ⟨s, hs⟩ : ∃ s, ss[m]? = some s := ⟨_, List.getElem?_eq_getElem hkl⟩
        have hok : s.ok D'.S.length := by rw [HDl.out]; exact HOK.out s (List.mem_of_getElem? hs)
        obtain ⟨qs, cs, vs, hv, hvl, hcell, hone, hvs⟩ := HSm.out.out (by omega)
        rw [← HM.out] at hv
        cases hv
        obtain ⟨u, hu1, hu2⟩ := hvs m s hs
        have hce := hcell m u hu1
        have HSK := hid hs; have HOKs := hid hok
        clear hs hok hvs hcell hone hvl hu1 hkl hmM hm
        obtain ⟨s', hs'⟩ : ∃ s', s' = s := ⟨_, rfl⟩
        cases s with
        | wr a_ l_ =>
          obtain ⟨rr, ra, rbx, q2x, off, c2x, x, y, rfl, l1, l2, l3, l4, g5, g6, g7, g8, g9, g9', cs2, g10, g11⟩ := hu2
          have HC := hid (wr_do HBm.out.dev HOKs.out g5 g6 g7 g9 g9' g10 g11)
          clear g5 g6 g7 g8 g9 g9' g10 g11 l1 l2 l3 l4
          rw [← hs'] at HC HSK HOKs
          clear hs'
          go_wp2_with fail
          refine HC.out.mono ?_
          rintro e z1 ⟨rfl, hd1, hf1⟩
          have HZD := hid hd1; have HZF := hid hf1
          have HOWz : Hid (OwW z1 base u6 (wordsOf D')) := HBm.out.ow.fr hf1 HBm.out.h1 HBm.out.h2 HBm.out.h3
          have HSTz : Hid (StR z1 lo d lo (.slice (some ⟨qs, 0, none⟩) M c10) ss) := StR.fr HSm.out hf1 HLT.out.1 HLT.out.2.1 HLT.out.2.2.1 (Nat.le_refl _)
          have hso1 : StO z1 lo2 lo2 (.slice A11 M c11) ss := StO.fr HOm.out hf1 HLT2.out.1 HLT2.out.2.1 HLT2.out.2.2 (Nat.le_refl _)
          have HLz : Hid (LogV z1 p d at_ words (q + 2)) := log_fr HLm.out HBm.out.dev hf1
          have HBz : Hid (Below w.heap.size w z1) := HBw.out.trans ((HBm.out.dev.below hf1).mono HWW.out)
          obtain ⟨q5, c5, o, hv5, hoc, hos⟩ := hso1.at HSK.out
          rw [← HM.out] at hv5
          cases hv5
          have HSOz := hid hso1; have HOS := hid hos
          obtain ⟨kind, oat, olong, oab, onb, ocb, obs, oak, onk, ock, oks⟩ := o
          obtain ⟨o0, o1, o2, o3, o4⟩ := hoc
          simp only at o0 o1 o2 o3 o4
          clear hd1 hf1 hso1 hos
          go_wp2_with fail
          refine (do_step (o := ⟨kind, oat, olong, oab, onb, ocb, obs, oak, onk, ock, oks⟩) (s := s') (D := D') HBm.out.dev.good HOWz.out (Nat.le_trans HBm.out.hb HZF.out.size) HOS.out HOKs.out).mono ?_
          rintro e z2 ⟨v2, er2, rfl, ho2, hb2⟩
          obtain ⟨Ar, cr, hvr, hrdr⟩ := ho2.rd
          obtain ⟨Nr, hNr⟩ : ∃ Nr, Nr = (wordsOf (s'.on D')).length := ⟨_, rfl⟩
          rw [← hNr] at hvr hrdr
          subst hvr
          have HO2 := hid ho2; have HRR := hid hrdr; have HB2 := hid hb2
          clear ho2 hb2 hrdr hNr o0 o1 o2 o3 o4
          go_wp2_with fail
          refine (same4_any (base := base) (HZD.out.on HB2.out) HRR.out).mono ?_
          rintro e z3 ⟨rfl, hb3⟩
          have hb13 : Below z1.heap.size z1 z3 := Bt HB2.out hb3
          have HBn : Hid (Both bb z3 d g cap lb fb base (.slice Ar Nr cr) (s'.on D')) := ⟨HZD.out.on hb13, HO2.out.on hb3, Nat.le_trans (Nat.le_trans HBm.out.hb HZF.out.size) hb13.size, HBm.out.h1, HBm.out.h2, HBm.out.h3, HBm.out.h4⟩
          have HSn := hid (StR.on HSTz.out hb13); have HOn := hid (HSOz.out.on hb13)
          have HLn := hid (log_on HLz.out hb13); have HBWn := hid (Bt HBz.out hb13)
          clear hb3 hb13
          go_wp2_with fail
          go_roundw
          case rel => exact ⟨m + 1, s'.on D', by have := HMS.out; omega, by simp, HBn, hid (by rw [runS_take HSK.out, ← HDm.out]), hid (by rw [Stp.on_length HOKs.out]; exact HDl.out), HSn, HOn, HLn, HBWn⟩
          case measure => have := HMS.out; simp [intOf]; omega
        | fl a_ n_ =>
          obtain ⟨rr, ra, rbx, x, y, rfl, l1, l2, l3, g5, g6, g7⟩ := hu2
          have HC := hid (fl_do HBm.out.dev HOKs.out g5 g6 g7)
          clear g5 g6 g7 l1 l2 l3
          rw [← hs'] at HC HSK HOKs
          clear hs'
          go_wp2_with fail
          refine HC.out.mono ?_
          rintro e z1 ⟨rfl, hd1, hf1⟩
          have HZD := hid hd1; have HZF := hid hf1
          have HOWz : Hid (OwW z1 base u6 (wordsOf D')) := HBm.out.ow.fr hf1 HBm.out.h1 HBm.out.h2 HBm.out.h3
          have HSTz : Hid (StR z1 lo d lo (.slice (some ⟨qs, 0, none⟩) M c10) ss) := StR.fr HSm.out hf1 HLT.out.1 HLT.out.2.1 HLT.out.2.2.1 (Nat.le_refl _)
          have hso1 : StO z1 lo2 lo2 (.slice A11 M c11) ss := StO.fr HOm.out hf1 HLT2.out.1 HLT2.out.2.1 HLT2.out.2.2 (Nat.le_refl _)
          have HLz : Hid (LogV z1 p d at_ words (q + 2)) := log_fr HLm.out HBm.out.dev hf1
          have HBz : Hid (Below w.heap.size w z1) := HBw.out.trans ((HBm.out.dev.below hf1).mono HWW.out)
          obtain ⟨q5, c5, o, hv5, hoc, hos⟩ := hso1.at HSK.out
          rw [← HM.out] at hv5
          cases hv5
          have HSOz := hid hso1; have HOS := hid hos
          obtain ⟨kind, oat, olong, oab, onb, ocb, obs, oak, onk, ock, oks⟩ := o
          obtain ⟨o0, o1, o2, o3, o4⟩ := hoc
          simp only at o0 o1 o2 o3 o4
          clear hd1 hf1 hso1 hos
          go_wp2_with fail
          refine (do_step (o := ⟨kind, oat, olong, oab, onb, ocb, obs, oak, onk, ock, oks⟩) (s := s') (D := D') HBm.out.dev.good HOWz.out (Nat.le_trans HBm.out.hb HZF.out.size) HOS.out HOKs.out).mono ?_
          rintro e z2 ⟨v2, er2, rfl, ho2, hb2⟩
          obtain ⟨Ar, cr, hvr, hrdr⟩ := ho2.rd
          obtain ⟨Nr, hNr⟩ : ∃ Nr, Nr = (wordsOf (s'.on D')).length := ⟨_, rfl⟩
          rw [← hNr] at hvr hrdr
          subst hvr
          have HO2 := hid ho2; have HRR := hid hrdr; have HB2 := hid hb2
          clear ho2 hb2 hrdr hNr o0 o1 o2 o3 o4
          go_wp2_with fail
          refine (same4_any (base := base) (HZD.out.on HB2.out) HRR.out).mono ?_
          rintro e z3 ⟨rfl, hb3⟩
          have hb13 : Below z1.heap.size z1 z3 := Bt HB2.out hb3
          have HBn : Hid (Both bb z3 d g cap lb fb base (.slice Ar Nr cr) (s'.on D')) := ⟨HZD.out.on hb13, HO2.out.on hb3, Nat.le_trans (Nat.le_trans HBm.out.hb HZF.out.size) hb13.size, HBm.out.h1, HBm.out.h2, HBm.out.h3, HBm.out.h4⟩
          have HSn := hid (StR.on HSTz.out hb13); have HOn := hid (HSOz.out.on hb13)
          have HLn := hid (log_on HLz.out hb13); have HBWn := hid (Bt HBz.out hb13)
          clear hb3 hb13
          go_wp2_with fail
          go_roundw
          case rel => exact ⟨m + 1, s'.on D', by have := HMS.out; omega, by simp, HBn, hid (by rw [runS_take HSK.out, ← HDm.out]), hid (by rw [Stp.on_length HOKs.out]; exact HDl.out), HSn, HOn, HLn, HBWn⟩
          case measure => have := HMS.out; simp [intOf]; omega
        | fe =>
          obtain rfl := hu2
          have HC : Hid (Calls Tryz.prog 53 #[.pointer (some ⟨d, 0, none⟩)] wr fun e w' => e = .returned (.tuple #[]) ∧ DevS w' bb d g cap lb fb (Stp.fe.on D') ∧ Fr g lb fb wr w') := fence_any HBm.out.dev
          rw [← hs'] at HC HSK HOKs
          clear hs'
          go_wp2_with fail
          refine HC.out.mono ?_
          rintro e z1 ⟨rfl, hd1, hf1⟩
          have HZD := hid hd1; have HZF := hid hf1
          have HOWz : Hid (OwW z1 base u6 (wordsOf D')) := HBm.out.ow.fr hf1 HBm.out.h1 HBm.out.h2 HBm.out.h3
          have HSTz : Hid (StR z1 lo d lo (.slice (some ⟨qs, 0, none⟩) M c10) ss) := StR.fr HSm.out hf1 HLT.out.1 HLT.out.2.1 HLT.out.2.2.1 (Nat.le_refl _)
          have hso1 : StO z1 lo2 lo2 (.slice A11 M c11) ss := StO.fr HOm.out hf1 HLT2.out.1 HLT2.out.2.1 HLT2.out.2.2 (Nat.le_refl _)
          have HLz : Hid (LogV z1 p d at_ words (q + 2)) := log_fr HLm.out HBm.out.dev hf1
          have HBz : Hid (Below w.heap.size w z1) := HBw.out.trans ((HBm.out.dev.below hf1).mono HWW.out)
          obtain ⟨q5, c5, o, hv5, hoc, hos⟩ := hso1.at HSK.out
          rw [← HM.out] at hv5
          cases hv5
          have HSOz := hid hso1; have HOS := hid hos
          obtain ⟨kind, oat, olong, oab, onb, ocb, obs, oak, onk, ock, oks⟩ := o
          obtain ⟨o0, o1, o2, o3, o4⟩ := hoc
          simp only at o0 o1 o2 o3 o4
          clear hd1 hf1 hso1 hos
          go_wp2_with fail
          refine (do_step (o := ⟨kind, oat, olong, oab, onb, ocb, obs, oak, onk, ock, oks⟩) (s := s') (D := D') HBm.out.dev.good HOWz.out (Nat.le_trans HBm.out.hb HZF.out.size) HOS.out HOKs.out).mono ?_
          rintro e z2 ⟨v2, er2, rfl, ho2, hb2⟩
          obtain ⟨Ar, cr, hvr, hrdr⟩ := ho2.rd
          obtain ⟨Nr, hNr⟩ : ∃ Nr, Nr = (wordsOf (s'.on D')).length := ⟨_, rfl⟩
          rw [← hNr] at hvr hrdr
          subst hvr
          have HO2 := hid ho2; have HRR := hid hrdr; have HB2 := hid hb2
          clear ho2 hb2 hrdr hNr o0 o1 o2 o3 o4
          go_wp2_with fail
          refine (same4_any (base := base) (HZD.out.on HB2.out) HRR.out).mono ?_
          rintro e z3 ⟨rfl, hb3⟩
          have hb13 : Below z1.heap.size z1 z3 := Bt HB2.out hb3
          have HBn : Hid (Both bb z3 d g cap lb fb base (.slice Ar Nr cr) (s'.on D')) := ⟨HZD.out.on hb13, HO2.out.on hb3, Nat.le_trans (Nat.le_trans HBm.out.hb HZF.out.size) hb13.size, HBm.out.h1, HBm.out.h2, HBm.out.h3, HBm.out.h4⟩
          have HSn := hid (StR.on HSTz.out hb13); have HOn := hid (HSOz.out.on hb13)
          have HLn := hid (log_on HLz.out hb13); have HBWn := hid (Bt HBz.out hb13)
          clear hb3 hb13
          go_wp2_with fail
          go_roundw
          case rel => exact ⟨m + 1, s'.on D', by have := HMS.out; omega, by simp, HBn, hid (by rw [runS_take HSK.out, ← HDm.out]), hid (by rw [Stp.on_length HOKs.out]; exact HDl.out), HSn, HOn, HLn, HBWn⟩
          case measure => have := HMS.out; simp [intOf]; omega
      · obtain rfl : m = M := by omega
        clear hm hmM
        go_wp2_with fail
        refine (alive_any _).mono ?_
        rintro e y1 ⟨rfl, by1⟩
        have HLy := hid (log_on HLm.out by1)
        have HBy := hid (Bt HBw.out by1)
        clear by1
        go_wp2_with fail
        refine (seq_any HLy.out).mono ?_
        rintro e y2 ⟨rfl, rfl⟩
        go_wp2_with fail
        go_ret
        exact ⟨rfl, HBy.out⟩
  · rw [if_neg hz] at hpost
    obtain ⟨rfl, hb10⟩ := hpost
    have hz2 : (eb != 0) = true := by simpa using hz
    have HBw10 := hid (Bt HBw9.out hb10)
    have HZ := hid hz
    have hx := HBX.out w10 HBw10.out
    have x2 := row_cell hx 2; have x3 := row_cell hx 3
    simp at x2 x3
    clear hb10 hz hx
    go_wp2_with fail
    refine (rsteps_any (N := N) (at_ := at_) (words := words) (seq := (q : Int) + 1) (by have := HN8.out; omega) r0 r1 HR2.out (by omega) (by omega) (HX.out.on (Bt HB0.out HBw10.out)) (by omega)).mono ?_
    intro e w11 hpost2
    unfold SteP at hpost2
    rw [← HEB.out, if_neg HZ.out] at hpost2
    obtain ⟨rfl, hb11⟩ := hpost2
    have HBw11 := hid (Bt HB0.out (Bt HBw10.out hb11))
    clear hb11 x2 x3
    go_wp2_with fail
    go_loopw [6, 121] (fun r i wr => r = .slice A1 N c1 ∧ i = .int .i64 0 ∧ Hid (wr = w11)) (fun _ _ _ => 0)
    case atStart => exact ⟨rfl, rfl, hid rfl⟩
    case round =>
      obtain ⟨rfl, rfl, HW⟩ := hrel
      obtain rfl : wr = w11 := HW.out
      go_wp2_with fail
      refine (alive_any _).mono ?_
      rintro e y1 ⟨rfl, by1⟩
      have HBy := hid (Bt HBw11.out by1)
      clear by1
      go_wp2_with fail
      go_ret
      exact ⟨rfl, HBy.out⟩

theorem walk_WalAll (A : Option Addr) (n c : Nat) (b : List UInt8) (A2 : Option Addr) (n2 c2 : Nat) (l : List OpV) (at_ words : Int) (A3 : Option Addr) (n3 c3 : Nat) (xs : List (Int × Int)) (w : World) (hb : Rd w w.heap.size A n c b) (h : RdO w w.heap.size A2 n2 c2 l) (ha : I64 at_) (hw : I64 words) (hx : RdS w w.heap.size A3 n3 c3 xs) :
    Calls Tryz.prog 3 #[.agg #[.slice A n c, .slice A2 n2 c2, .int .i64 at_, .int .i64 words], .slice A3 n3 c3] w fun e w' => e = .returned (.bool true) ∧ Below w.heap.size w w' := by
  cases A with
  | some ad => exact all_main hb h ha hw hx
  | none =>
    have h0 := hb.2.2.2.1 rfl
    subst h0
    obtain rfl : n = 0 := by have := hb.2.1; omega
    exact all_nil h ha hw hx
end Go.Proofs.YteggkojlpgkhbaaGreat
