/-
  wal: bring.
-/
import Derived.Test.YteggkojlpgkhbaaGreatWalS
namespace Go.Proofs.YteggkojlpgkhbaaGreat
open Go.RowKit Go.Maps Go.Shelf
set_option linter.unusedVariables false
attribute [local go_sem] Oper.semAt_some

/-- The steps that bring sets. -/
def setS (x : Int × Int) : List Stp := [.wr x.1 (le x.2 8), .fl x.1 1]
def bringP (xs : List (Int × Int)) : List Stp := (xs.map setS).flatten
def bringS (xs : List (Int × Int)) : List Stp := bringP xs ++ [.fe]
theorem bringP_length (xs : List (Int × Int)) : (bringP xs).length = xs.length * 2 := by
  induction xs with
  | nil => rfl
  | cons x xs ih => simp [bringP, setS] at ih ⊢; omega
theorem bringP_take {xs : List (Int × Int)} {k : Nat} {x : Int × Int} (h : xs[k]? = some x) : bringP (xs.take (k + 1)) = bringP (xs.take k) ++ setS x := by
  rw [List.take_add_one, h]; simp [bringP]

theorem own_at {w : World} {base : Nat} {v : Value} {l : List UInt8} (h : Own w base v l) (hl : 0 < l.length) :
    ∃ q c cs, v = .slice (some ⟨q, 0, none⟩) l.length c ∧ base ≤ q ∧ l.length ≤ c ∧ c ≤ maxLen ∧ w.heap[q]? = some (.cells cs 5 (0, 0)) ∧ ∀ i (h : i < l.length), cs[0 + i]? = some (bv l[i]) := by
  rcases h.2 with ⟨_, h0⟩ | ⟨g, c, cur, hv, hb, hg, h1, h2, h3, h4⟩
  · omega
  · refine ⟨g, c, cur, hv, hb, h1, h2, hg, fun i hi => ?_⟩
    have : (cur.toList.take (l.length * 1))[i]? = (l.map bv)[i]? := by rw [h4]
    rw [List.getElem?_take_of_lt (by omega)] at this
    simp only [Nat.zero_add]
    rw [← Array.getElem?_toList, this]; simp [hi]

theorem wpListIn_appF {n : Nat} {w w' : World} {ops : Array Oper} {rest : List Oper} {o : Oper} {a : Act} {Q : Exit → Act → World → Prop} {v v' u : Value} (hgd : o.guard = none) (s x : Operand)
    (hop : o.op = .call { callee := .builtin .append, args := #[s, x], argTypes := #[43, 43] }) (hs : a.eval s = v) (hx : a.eval x = u)
    (hrun : (Builtin.append_ #[43, 43] o.type #[v, u]).run Tryz.prog w = .ok v' w') (hk : wpListIn Fence.wide n Tryz.prog ops Q rest (a.put o.dst v') w') : wpListIn Fence.wide n Tryz.prog ops Q (o :: rest) a w := by
  refine wpListIn_plain hgd fun K hK => ⟨fun _ _ => trivial, ?_⟩
  rw [show Fence.wide.round = none from rfl, Oper.semAt_none]
  unfold execOp
  simp only [hop, resolve, invoke, builtin, Sem.run_bind, Sem.run_pure, Result.andThen_ok, List.map_toArray, List.map_cons, List.map_nil, hs, hx, hrun]
  exact hK _ _ hk

set_option maxRecDepth 100000 in
set_option maxHeartbeats 8000000 in
theorem bring_any {w : World} {gf lo d : Nat} {lb : Array Value} {xs : List (Int × Int)} {Kp : World → World → Prop} (at_ words : Int) (hi : Itr w gf lb xs Kp) (hx : ∀ x ∈ xs, I64 x.1 ∧ U64 x.2) (hl : xs.length ≤ 70000) (hlo : lo ≤ w.heap.size) :
    Calls Tryz.prog 38 #[.agg (regC d at_ words), .func (.func gf) #[] lb] w fun e w' => ∃ v, e = .returned v ∧ StR w' lo d w.heap.size v (bringS xs) ∧ Below w.heap.size w w' := by
  have HI := hid hi; have HX := hid hx; have HL := hid hl; have HLO := hid hlo
  clear hi hx hl hlo
  unfold regC
  refine (callsIn_wide (n := 5)).1 (callsIn_of_wp_marks Tryz.func38 rfl trivial ?_ rfl)
  simp only [Tryz.ntmps38, List.size_toArray, List.length_cons, List.length_nil, Nat.reduceAdd, Nat.reduceSub, Array.replicate_succ, Array.replicate_zero, List.push_toArray, List.append_toArray, List.nil_append, List.cons_append]
  gi_wp2_with (fail)
  obtain ⟨W0, hW0, hs0, hB0, y0, y1⟩ := alloc2 w (.cells #[.pointer (some ⟨d, 0, none⟩), .int .i64 at_, .int .i64 words] 73) (.cells #[.slice none 0 0] 43)
  rw [← hW0]
  clear hW0
  obtain ⟨rb, hrb⟩ : ∃ rb, rb = w.heap.size := ⟨_, rfl⟩
  obtain ⟨bx, hbx⟩ : ∃ bx, bx = w.heap.size + 1 := ⟨_, rfl⟩
  rw [← hbx] at y1 ⊢
  rw [← hrb] at y0 ⊢
  have HRB := hid hrb; have HBX := hid hbx
  clear hrb hbx
  have HI0 := hid (HI.out.later hB0)
  obtain ⟨I, HI1⟩ : ∃ I : Nat → World → Prop, Hid (I = fun k W => (∃ v, W.heap[bx]? = some (.cells #[v] 43 (0, 0)) ∧ StR W lo d W0.heap.size v (bringP (xs.take k))) ∧ W.heap[rb]? = some (.cells #[.pointer (some ⟨d, 0, none⟩), .int .i64 at_, .int .i64 words] 73 (0, 0)) ∧ Below w.heap.size w W ∧ W0.heap.size ≤ W.heap.size) := ⟨_, hid rfl⟩
  have HS0 := hid hs0
  refine range_any (gf := gf) (lb := lb) rfl HI0.out.en HI0.out.it HI0.out.kt HI0.out.kb (fun _ => rfl) I (fun _ _ _ => False)
    (by
      rw [HI1.out]
      refine OwnFrom.and (fun s A C row hs hg hr => by obtain ⟨v, h1, h2⟩ := hs; exact ⟨v, blk_keep h1 hg (fun r e => (hr r e).2), h2.non hg (fun r e => (hr r e).2)⟩) (OwnFrom.and (fun s A C row hs hg hr => blk_keep hs hg (fun r e => (hr r e).2)) (OwnFrom.and (ownFrom_below (Nat.le_refl _) (by omega)) (fun s A C row hs hg hr => Nat.le_trans hs hg.size))))
    (fun c s A C row hs _ _ => hs)
    (by rw [HI1.out]; exact ⟨⟨_, y1, StR.nil _ _ _ _⟩, y0, hB0, Nat.le_refl _⟩) ?_ ?_ ?_
  · rintro l k x W1 hx hi1 hl hl2
    obtain ⟨x1, x2⟩ := x
    have hi1' := hi1
    rw [HI1.out] at hi1'
    obtain ⟨⟨v, hv1, hv2⟩, hv3, hb1, hz1⟩ := hi1'
    simp only [setV]
    gi_wp2_with (fail)
    refine ⟨kf_below (B1 _ _), HI0.out.kp _ _ ((Below.refl _ _).alloc hz1 _) (KeepC.below (B1 _ _)), by rw [HI1.out]; exact ⟨⟨v, (Below.heap_alloc _ _ _ (row_lt hv1)).trans hv1, hv2.on (B1 _ _)⟩, (Below.heap_alloc _ _ _ (row_lt hv3)).trans hv3, hb1.alloc hb1.size _, by simp; omega⟩, ?_⟩
    rintro W2 hg2 hi2
    rw [HI1.out] at hi2
    obtain ⟨⟨v, hv1, hv2⟩, hv3, hb2, hz2⟩ := hi2
    have hset : W2.heap[W1.heap.size]? = some (.cells #[.int .i64 x1, .int .u64 x2] 66 (0, 0)) := (hg2.block _ (by simp) (by simp; omega)).trans (heap_alloc_new W1 _)
    obtain ⟨sb, hsb⟩ : ∃ sb, sb = W1.heap.size := ⟨_, rfl⟩
    rw [← hsb] at hset ⊢
    have hst : Hid (SSt w W2 W2 W0.heap.size bx lo d W0.heap.size v (bringP (xs.take k))) := (⟨hv1, by have := HBX.out; omega, by have := HS0.out; omega, hz2, hv2, hb2, KeepsFrom.refl _ _, Below.refl _ _, KeepC.refl _⟩ : SSt w W2 W2 W0.heap.size bx lo d W0.heap.size v _)
    obtain ⟨hx1, hx2⟩ := HX.out _ (List.mem_of_getElem? hx)
    simp only at hx1 hx2
    have U2 := hid hx2
    have hkl : k < xs.length := (List.getElem?_eq_some_iff.1 hx).1
    have HKL : Hid ((bringP (xs.take k)).length + 2 ≤ 1000000) := by
      show _ + 2 ≤ _
      rw [bringP_length, List.length_take]; have := HL.out; omega
    have HXk := hid hx; have HSB := hid hsb; have HSET := hid hset; have HRR := hid hv3
    have hsblt : sb < W2.heap.size := row_lt hset
    have hrblt : rb < W2.heap.size := row_lt hv3
    have OB : Hid (∀ (v : Value) (W : World) (ss : List Stp) (b : Nat) (cs : Array Value) (t : TypeId), StR W lo d W0.heap.size v ss → W.heap[b]? = some (.cells cs t (0, 0)) → t ≠ 1 → some b ≠ v.ownBlock) := by
      intro v W ss b cs t h hb ht e
      obtain ⟨_, cs', hc⟩ := h.row b e.symm
      rw [hc] at hb; cases hb; exact ht rfl
    clear hset hx hsb hv1 hv2 hi1 hg2 hb2 hx1 hx2 hs0 y0 y1 hkl hv3 hz2
    have hnb : sb ≠ bx := by have := HSB.out; have := HBX.out; have := HS0.out; omega
    have hnb2 : rb ≠ bx := by have := HRB.out; have := HBX.out; omega
    gi_wp2_with (fail)
    refine reg_begin2 sb rb (by kernel_rfl) (by kernel_rfl) hsblt hrblt (fun w0a hh0a hx0a hHeld => ?_)
    have c1 : ∀ w', Two sb rb w0a w' → w'.cell? ⟨sb, 0, none⟩ = some (.int .i64 x1) := fun w' h => by rw [row_cell (h.h1.trans (by rw [hh0a.out]; exact HSET.out))]; rfl
    have c2 : ∀ w', Two sb rb w0a w' → w'.cell? ⟨sb, 1, none⟩ = some (.int .u64 x2) := fun w' h => by rw [row_cell (h.h1.trans (by rw [hh0a.out]; exact HSET.out))]; rfl
    have c3 : ∀ w', Two sb rb w0a w' → w'.cell? ⟨rb, 0, none⟩ = some (.pointer (some ⟨d, 0, none⟩)) := fun w' h => by rw [row_cell (h.h2.trans (by rw [hh0a.out]; exact HRR.out))]; rfl
    have c4 : ∀ w', Two sb rb w0a w' → w'.cell? ⟨rb, 1, none⟩ = some (.int .i64 at_) := fun w' h => by rw [row_cell (h.h2.trans (by rw [hh0a.out]; exact HRR.out))]; rfl
    have c5 : ∀ w', Two sb rb w0a w' → w'.cell? ⟨rb, 2, none⟩ = some (.int .i64 words) := fun w' h => by rw [row_cell (h.h2.trans (by rw [hh0a.out]; exact HRR.out))]; rfl
    have C1 : Hid (∀ w', Two sb rb w0a w' → w'.heap[sb]? = some (.cells #[.int .i64 x1, .int .u64 x2] 66 (0, 0))) := fun w' h => h.h1.trans (by rw [hh0a.out]; exact HSET.out)
    have C2 : Hid (∀ w', Two sb rb w0a w' → w'.heap[rb]? = some (.cells #[.pointer (some ⟨d, 0, none⟩), .int .i64 at_, .int .i64 words] 73 (0, 0))) := fun w' h => h.h2.trans (by rw [hh0a.out]; exact HRR.out)
    have hst := hid (hst.out.on hx0a)
    refine reg_take2 1 (v := ?vy1_1) (atS at0) (by kernel_rfl) (by kernel_rfl) (by kernel_rfl) (by rfl) ?hyy1_1 hHeld ?resty1_1
    case hyy1_1 => (intro w' hSw; go_simp; try with_reducible rfl)
    try simp only [Act.put, List.setIfInBounds_toArray, List.set_cons_zero, List.set_cons_succ]
    refine reg_take2 2 (v := ?vy2_2) (atS (atS at0)) (by kernel_rfl) (by kernel_rfl) (by kernel_rfl) (by rfl) ?hyy2_2 hHeld ?resty2_2
    case hyy2_2 => (intro w' hSw; go_simp; try with_reducible rfl)
    try simp only [Act.put, List.setIfInBounds_toArray, List.set_cons_zero, List.set_cons_succ]
    refine reg_take2 3 (v := ?vy3_3) (atS (atS (atS at0))) (by kernel_rfl) (by kernel_rfl) (by kernel_rfl) (by rfl) ?hyy3_3 hHeld ?resty3_3
    case hyy3_3 => (intro w' hSw; go_simp; try with_reducible rfl)
    try simp only [Act.put, List.setIfInBounds_toArray, List.set_cons_zero, List.set_cons_succ]
    refine reg_take2 4 (v := ?vy4_4) (atS (atS (atS (atS at0)))) (by kernel_rfl) (by kernel_rfl) (by kernel_rfl) (by rfl) ?hyy4_4 hHeld ?resty4_4
    case hyy4_4 => (intro w' hSw; go_simp; try with_reducible rfl)
    try simp only [Act.put, List.setIfInBounds_toArray, List.set_cons_zero, List.set_cons_succ]
    refine reg_take2 5 (v := ?vy5_5) (atS5 at0) (by kernel_rfl) (by kernel_rfl) (by kernel_rfl) (by rfl) ?hyy5_5 hHeld ?resty5_5
    case hyy5_5 => (intro w' hSw; go_simp; try with_reducible rfl)
    try simp only [Act.put, List.setIfInBounds_toArray, List.set_cons_zero, List.set_cons_succ]
    refine reg_take2 8 (v := ?vy6_8) (atS5 (atS (atS (atS at0)))) (by kernel_rfl) (by kernel_rfl) (by kernel_rfl) (by rfl) ?hyy6_8 hHeld ?resty6_8
    case hyy6_8 => (intro w' hSw; go_simp; try with_reducible rfl)
    try simp only [Act.put, List.setIfInBounds_toArray, List.set_cons_zero, List.set_cons_succ]
    refine reg_take2 9 (v := ?vy7_9) (atS5 (atS (atS (atS (atS at0))))) (by kernel_rfl) (by kernel_rfl) (by kernel_rfl) (by rfl) ?hyy7_9 hHeld ?resty7_9
    case hyy7_9 => (intro w' hSw; go_simp; try with_reducible rfl)
    try simp only [Act.put, List.setIfInBounds_toArray, List.set_cons_zero, List.set_cons_succ]
    refine reg_take2 10 (v := ?vy8_10) (atS5 (atS5 at0)) (by kernel_rfl) (by kernel_rfl) (by kernel_rfl) (by rfl) ?hyy8_10 hHeld ?resty8_10
    case hyy8_10 => (intro w' hSw; go_simp; try with_reducible rfl)
    try simp only [Act.put, List.setIfInBounds_toArray, List.set_cons_zero, List.set_cons_succ]
    refine wpAnyH_ready (rs := [0, 6]) (by kernel_rfl) (by simp) ?_
    refine AllReadyH.cons at0 (fun K hK => ?_) (AllReadyH.cons (atS5 (atS at0)) (fun K hK => ?_) AllReadyH.nil)
    · skip
      have hbx0 := hst.out.cell
      go_simp
      refine hK.out _ _ hHeld (fun hHeld => ?_)
      clear hK K
      try simp only [Act.put, List.setIfInBounds_toArray, List.set_cons_zero, List.set_cons_succ]
      refine wpAnyH_ready (rs := [6]) (by kernel_rfl) (by simp) ?_
      refine AllReadyH.cons (atS5 (atS at0)) (fun K hK => ?_) AllReadyH.nil
      go_simp
      refine (nb_any x2 U2.out _).mono ?_
      rintro e w6a ⟨va, rfl, ho6, hb6⟩
      obtain ⟨q6, cc6, cs6, rfl, hq6, hc6, hm6, hb6', hcs6⟩ := own_at ho6 (by rw [le_length]; omega)
      rw [le_length] at hc6 ⊢
      have HP6 : Hid (lo ≤ q6 ∧ 8 ≤ cc6 ∧ cc6 ≤ maxLen) := ⟨by have := HLO.out; have := hst.out.lt; omega, hc6, hm6⟩
      have HB6 := hid hb6'
      have HC6 := hid hcs6
      have hst := hid (hst.out.on hb6)
      clear ho6 hq6 hc6 hm6 hb6' hcs6
      go_wp2_with fail
      refine hK.out _ _ (hHeld.on hb6) (fun hHeld => ?_)
      clear hK K
      try simp only [Act.put, List.setIfInBounds_toArray, List.set_cons_zero, List.set_cons_succ]
      refine wpAnyH_ready (rs := [7]) (by kernel_rfl) (by simp) ?_
      refine AllReadyH.cons (atS5 (atS (atS at0))) (fun K hK => ?_) AllReadyH.nil
      go_simp
      refine (write_step (lo := lo) (by have := HLO.out; have := hst.out.lt; omega) d at_ words x1 (le_length x2 8) HP6.out.2.1 HP6.out.2.2 HP6.out.1 HB6.out HC6.out).mono ?_
      rintro e w7a ⟨r7, a7, b7, rfl, hs7, hb7⟩
      have HS7 := hid hs7
      have hst := hid (hst.out.on hb7)
      clear hs7
      go_wp2_with fail
      refine hK.out _ _ (hHeld.on hb7) (fun hHeld => ?_)
      clear hK K
      try simp only [Act.put, List.setIfInBounds_toArray, List.set_cons_zero, List.set_cons_succ]
      refine wpAnyH_ready (rs := [11]) (by kernel_rfl) (by simp) ?_
      refine AllReadyH.cons (atS5 (atS5 (atS at0))) (fun K hK => ?_) AllReadyH.nil
      go_simp
      refine (flush_step (lo := lo) (by have := HLO.out; have := hst.out.lt; omega) d at_ words x1 1).mono ?_
      rintro e w11a ⟨r11, a11, b11, rfl, hs11, hb11⟩
      have HS11 := hid hs11
      have HS7 := hid (HS7.out.keep (KeepT.below hb11))
      have hst := hid (hst.out.on hb11)
      clear hs11
      go_wp2_with fail
      refine hK.out _ _ (hHeld.on hb11) (fun hHeld => ?_)
      clear hK K
      try simp only [Act.put, List.setIfInBounds_toArray, List.set_cons_zero, List.set_cons_succ]
      refine wpAnyH_ready (rs := [12]) (by kernel_rfl) (by simp) ?_
      refine AllReadyH.cons (atS5 (atS5 (atS (atS at0)))) (fun K hK => ?_) AllReadyH.nil
      go_simp
      obtain ⟨w12a, hw12⟩ : ∃ w', w' = w11a.alloc (.cells #[.func (.func 85) #[] #[.pointer (some ⟨r7, 0, none⟩), .pointer (some ⟨a7, 0, none⟩), .pointer (some ⟨b7, 0, none⟩)], .func (.func 86) #[] #[.pointer (some ⟨r11, 0, none⟩), .pointer (some ⟨a11, 0, none⟩), .pointer (some ⟨b11, 0, none⟩)]] 1) := ⟨_, rfl⟩
      obtain ⟨q12, hq12⟩ : ∃ q12, q12 = w11a.heap.size := ⟨_, rfl⟩
      rw [← hw12]
      try rw [← hq12]
      have hb12 : Below w11a.heap.size w11a w12a := by rw [hw12]; exact B1 _ _
      have hc12 : w12a.heap[q12]? = some (.cells #[.func (.func 85) #[] #[.pointer (some ⟨r7, 0, none⟩), .pointer (some ⟨a7, 0, none⟩), .pointer (some ⟨b7, 0, none⟩)], .func (.func 86) #[] #[.pointer (some ⟨r11, 0, none⟩), .pointer (some ⟨a11, 0, none⟩), .pointer (some ⟨b11, 0, none⟩)]] 1 (0, 0)) := by rw [hw12, hq12]; exact heap_alloc_new _ _
      have HC12 := hid hc12
      have HS11 := hid (HS11.out.keep (KeepT.below hb12))
      have HS7 := hid (HS7.out.keep (KeepT.below hb12))
      have hst := hid (hst.out.on hb12)
      clear hc12 hw12 hq12
      refine hK.out _ _ (hHeld.on hb12) (fun hHeld => ?_)
      clear hK K
      try simp only [Act.put, List.setIfInBounds_toArray, List.set_cons_zero, List.set_cons_succ]
      refine wpAnyH_ready (rs := [13]) (by kernel_rfl) (by simp) ?_
      refine AllReadyH.cons (atS5 (atS5 (atS (atS (atS at0))))) (fun K hK => ?_) AllReadyH.nil
      obtain ⟨v13, w13a, hrun13, ho13, hg13⟩ := run_appF (c := 2) (ss' := setS (x1, x2)) hst.out.ow (q := q12) (m := 2) (news := [.func (.func 85) #[] #[.pointer (some ⟨r7, 0, none⟩), .pointer (some ⟨a7, 0, none⟩), .pointer (some ⟨b7, 0, none⟩)], .func (.func 86) #[] #[.pointer (some ⟨r11, 0, none⟩), .pointer (some ⟨a11, 0, none⟩), .pointer (some ⟨b11, 0, none⟩)]]) rfl (by intro j u hj; rw [row_cell HC12.out]; match j, hj with | 0, h => exact h | 1, h => exact h) (by intro u hu; simp at hu; rcases hu with rfl | rfl <;> rfl) HKL.out hst.out.az rfl (by intro i s hi; match i, hi with | 0, h => (cases h; exact ⟨_, rfl, HS7.out⟩) | 1, h => (cases h; exact ⟨_, rfl, HS11.out⟩)) 43
      obtain ⟨n13, A13, cc13, rfl⟩ : ∃ n13 A13 cc13, v13 = .slice A13 n13 cc13 := by obtain ⟨A, c, h⟩ := ho13.shape; exact ⟨_, A, c, h⟩
      refine step_appF (by rfl) (.tmp 9) (.tmp 21) (by rfl) (by rfl) (by rfl) hrun13 ?_
      have hst5 := hst.out.app hg13 ho13
      have HS5 := hid hst5.1
      have hc13 := hst5.2.1
      have hf13 := hst5.2.2
      clear hst5
      refine hK.out _ _ (hHeld.by hg13 (OB.out _ _ _ _ _ _ hst.out.ow (C1.out _ hHeld) (by decide)) (OB.out _ _ _ _ _ _ hst.out.ow (C2.out _ hHeld) (by decide))) (fun hHeld => ?_)
      clear hK K
      try simp only [Act.put, List.setIfInBounds_toArray, List.set_cons_zero, List.set_cons_succ]
      refine wpAnyH_ready (rs := [14]) (by kernel_rfl) (by simp) ?_
      refine AllReadyH.cons (atS5 (atS5 (atS (atS (atS (atS at0)))))) (fun K hK => ?_) AllReadyH.nil
      go_simp
      go_simp
      go_wp2_with fail
      refine hK.out _ _ (hHeld.by (grownBy_setCell' _ _ _) (by simpa using hnb) (by simpa using hnb2)) (fun hHeld => ?_)
      clear hK K
      try simp only [Act.put]
      refine wpAnyH_done (by kernel_rfl) ?_ _
      refine NoPanic.normal ?_
      refine Only.normal ?_
      have hrr := C2.out _ hHeld
      gi_wp2_with (fail)
      refine ⟨HS5.out.kf, HI.out.kp _ _ HS5.out.b2 HS5.out.kc, ?_⟩
      rw [HI1.out]
      refine ⟨⟨_, HS5.out.bo, ?_⟩, hrr, HS5.out.bl, HS5.out.az⟩
      rw [bringP_take HXk.out]
      exact HS5.out.ow
    · skip
      go_simp
      refine (nb_any x2 U2.out _).mono ?_
      rintro e w6a ⟨va, rfl, ho6, hb6⟩
      obtain ⟨q6, cc6, cs6, rfl, hq6, hc6, hm6, hb6', hcs6⟩ := own_at ho6 (by rw [le_length]; omega)
      rw [le_length] at hc6 ⊢
      have HP6 : Hid (lo ≤ q6 ∧ 8 ≤ cc6 ∧ cc6 ≤ maxLen) := ⟨by have := HLO.out; have := hst.out.lt; omega, hc6, hm6⟩
      have HB6 := hid hb6'
      have HC6 := hid hcs6
      have hst := hid (hst.out.on hb6)
      clear ho6 hq6 hc6 hm6 hb6' hcs6
      go_wp2_with fail
      refine hK.out _ _ (hHeld.on hb6) (fun hHeld => ?_)
      clear hK K
      try simp only [Act.put, List.setIfInBounds_toArray, List.set_cons_zero, List.set_cons_succ]
      refine wpAnyH_ready (rs := [0, 7]) (by kernel_rfl) (by simp) ?_
      refine AllReadyH.cons at0 (fun K hK => ?_) (AllReadyH.cons (atS5 (atS (atS at0))) (fun K hK => ?_) AllReadyH.nil)
      · skip
        have hbx0 := hst.out.cell
        go_simp
        refine hK.out _ _ hHeld (fun hHeld => ?_)
        clear hK K
        try simp only [Act.put, List.setIfInBounds_toArray, List.set_cons_zero, List.set_cons_succ]
        refine wpAnyH_ready (rs := [7]) (by kernel_rfl) (by simp) ?_
        refine AllReadyH.cons (atS5 (atS (atS at0))) (fun K hK => ?_) AllReadyH.nil
        go_simp
        refine (write_step (lo := lo) (by have := HLO.out; have := hst.out.lt; omega) d at_ words x1 (le_length x2 8) HP6.out.2.1 HP6.out.2.2 HP6.out.1 HB6.out HC6.out).mono ?_
        rintro e w7a ⟨r7, a7, b7, rfl, hs7, hb7⟩
        have HS7 := hid hs7
        have hst := hid (hst.out.on hb7)
        clear hs7
        go_wp2_with fail
        refine hK.out _ _ (hHeld.on hb7) (fun hHeld => ?_)
        clear hK K
        try simp only [Act.put, List.setIfInBounds_toArray, List.set_cons_zero, List.set_cons_succ]
        refine wpAnyH_ready (rs := [11]) (by kernel_rfl) (by simp) ?_
        refine AllReadyH.cons (atS5 (atS5 (atS at0))) (fun K hK => ?_) AllReadyH.nil
        go_simp
        refine (flush_step (lo := lo) (by have := HLO.out; have := hst.out.lt; omega) d at_ words x1 1).mono ?_
        rintro e w11a ⟨r11, a11, b11, rfl, hs11, hb11⟩
        have HS11 := hid hs11
        have HS7 := hid (HS7.out.keep (KeepT.below hb11))
        have hst := hid (hst.out.on hb11)
        clear hs11
        go_wp2_with fail
        refine hK.out _ _ (hHeld.on hb11) (fun hHeld => ?_)
        clear hK K
        try simp only [Act.put, List.setIfInBounds_toArray, List.set_cons_zero, List.set_cons_succ]
        refine wpAnyH_ready (rs := [12]) (by kernel_rfl) (by simp) ?_
        refine AllReadyH.cons (atS5 (atS5 (atS (atS at0)))) (fun K hK => ?_) AllReadyH.nil
        go_simp
        obtain ⟨w12a, hw12⟩ : ∃ w', w' = w11a.alloc (.cells #[.func (.func 85) #[] #[.pointer (some ⟨r7, 0, none⟩), .pointer (some ⟨a7, 0, none⟩), .pointer (some ⟨b7, 0, none⟩)], .func (.func 86) #[] #[.pointer (some ⟨r11, 0, none⟩), .pointer (some ⟨a11, 0, none⟩), .pointer (some ⟨b11, 0, none⟩)]] 1) := ⟨_, rfl⟩
        obtain ⟨q12, hq12⟩ : ∃ q12, q12 = w11a.heap.size := ⟨_, rfl⟩
        rw [← hw12]
        try rw [← hq12]
        have hb12 : Below w11a.heap.size w11a w12a := by rw [hw12]; exact B1 _ _
        have hc12 : w12a.heap[q12]? = some (.cells #[.func (.func 85) #[] #[.pointer (some ⟨r7, 0, none⟩), .pointer (some ⟨a7, 0, none⟩), .pointer (some ⟨b7, 0, none⟩)], .func (.func 86) #[] #[.pointer (some ⟨r11, 0, none⟩), .pointer (some ⟨a11, 0, none⟩), .pointer (some ⟨b11, 0, none⟩)]] 1 (0, 0)) := by rw [hw12, hq12]; exact heap_alloc_new _ _
        have HC12 := hid hc12
        have HS11 := hid (HS11.out.keep (KeepT.below hb12))
        have HS7 := hid (HS7.out.keep (KeepT.below hb12))
        have hst := hid (hst.out.on hb12)
        clear hc12 hw12 hq12
        refine hK.out _ _ (hHeld.on hb12) (fun hHeld => ?_)
        clear hK K
        try simp only [Act.put, List.setIfInBounds_toArray, List.set_cons_zero, List.set_cons_succ]
        refine wpAnyH_ready (rs := [13]) (by kernel_rfl) (by simp) ?_
        refine AllReadyH.cons (atS5 (atS5 (atS (atS (atS at0))))) (fun K hK => ?_) AllReadyH.nil
        obtain ⟨v13, w13a, hrun13, ho13, hg13⟩ := run_appF (c := 2) (ss' := setS (x1, x2)) hst.out.ow (q := q12) (m := 2) (news := [.func (.func 85) #[] #[.pointer (some ⟨r7, 0, none⟩), .pointer (some ⟨a7, 0, none⟩), .pointer (some ⟨b7, 0, none⟩)], .func (.func 86) #[] #[.pointer (some ⟨r11, 0, none⟩), .pointer (some ⟨a11, 0, none⟩), .pointer (some ⟨b11, 0, none⟩)]]) rfl (by intro j u hj; rw [row_cell HC12.out]; match j, hj with | 0, h => exact h | 1, h => exact h) (by intro u hu; simp at hu; rcases hu with rfl | rfl <;> rfl) HKL.out hst.out.az rfl (by intro i s hi; match i, hi with | 0, h => (cases h; exact ⟨_, rfl, HS7.out⟩) | 1, h => (cases h; exact ⟨_, rfl, HS11.out⟩)) 43
        obtain ⟨n13, A13, cc13, rfl⟩ : ∃ n13 A13 cc13, v13 = .slice A13 n13 cc13 := by obtain ⟨A, c, h⟩ := ho13.shape; exact ⟨_, A, c, h⟩
        refine step_appF (by rfl) (.tmp 9) (.tmp 21) (by rfl) (by rfl) (by rfl) hrun13 ?_
        have hst5 := hst.out.app hg13 ho13
        have HS5 := hid hst5.1
        have hc13 := hst5.2.1
        have hf13 := hst5.2.2
        clear hst5
        refine hK.out _ _ (hHeld.by hg13 (OB.out _ _ _ _ _ _ hst.out.ow (C1.out _ hHeld) (by decide)) (OB.out _ _ _ _ _ _ hst.out.ow (C2.out _ hHeld) (by decide))) (fun hHeld => ?_)
        clear hK K
        try simp only [Act.put, List.setIfInBounds_toArray, List.set_cons_zero, List.set_cons_succ]
        refine wpAnyH_ready (rs := [14]) (by kernel_rfl) (by simp) ?_
        refine AllReadyH.cons (atS5 (atS5 (atS (atS (atS (atS at0)))))) (fun K hK => ?_) AllReadyH.nil
        go_simp
        go_simp
        go_wp2_with fail
        refine hK.out _ _ (hHeld.by (grownBy_setCell' _ _ _) (by simpa using hnb) (by simpa using hnb2)) (fun hHeld => ?_)
        clear hK K
        try simp only [Act.put]
        refine wpAnyH_done (by kernel_rfl) ?_ _
        refine NoPanic.normal ?_
        refine Only.normal ?_
        have hrr := C2.out _ hHeld
        gi_wp2_with (fail)
        refine ⟨HS5.out.kf, HI.out.kp _ _ HS5.out.b2 HS5.out.kc, ?_⟩
        rw [HI1.out]
        refine ⟨⟨_, HS5.out.bo, ?_⟩, hrr, HS5.out.bl, HS5.out.az⟩
        rw [bringP_take HXk.out]
        exact HS5.out.ow
      · skip
        go_simp
        refine (write_step (lo := lo) (by have := HLO.out; have := hst.out.lt; omega) d at_ words x1 (le_length x2 8) HP6.out.2.1 HP6.out.2.2 HP6.out.1 HB6.out HC6.out).mono ?_
        rintro e w7a ⟨r7, a7, b7, rfl, hs7, hb7⟩
        have HS7 := hid hs7
        have hst := hid (hst.out.on hb7)
        clear hs7
        go_wp2_with fail
        refine hK.out _ _ (hHeld.on hb7) (fun hHeld => ?_)
        clear hK K
        try simp only [Act.put, List.setIfInBounds_toArray, List.set_cons_zero, List.set_cons_succ]
        refine wpAnyH_ready (rs := [0, 11]) (by kernel_rfl) (by simp) ?_
        refine AllReadyH.cons at0 (fun K hK => ?_) (AllReadyH.cons (atS5 (atS5 (atS at0))) (fun K hK => ?_) AllReadyH.nil)
        · skip
          have hbx0 := hst.out.cell
          go_simp
          refine hK.out _ _ hHeld (fun hHeld => ?_)
          clear hK K
          try simp only [Act.put, List.setIfInBounds_toArray, List.set_cons_zero, List.set_cons_succ]
          refine wpAnyH_ready (rs := [11]) (by kernel_rfl) (by simp) ?_
          refine AllReadyH.cons (atS5 (atS5 (atS at0))) (fun K hK => ?_) AllReadyH.nil
          go_simp
          refine (flush_step (lo := lo) (by have := HLO.out; have := hst.out.lt; omega) d at_ words x1 1).mono ?_
          rintro e w11a ⟨r11, a11, b11, rfl, hs11, hb11⟩
          have HS11 := hid hs11
          have HS7 := hid (HS7.out.keep (KeepT.below hb11))
          have hst := hid (hst.out.on hb11)
          clear hs11
          go_wp2_with fail
          refine hK.out _ _ (hHeld.on hb11) (fun hHeld => ?_)
          clear hK K
          try simp only [Act.put, List.setIfInBounds_toArray, List.set_cons_zero, List.set_cons_succ]
          refine wpAnyH_ready (rs := [12]) (by kernel_rfl) (by simp) ?_
          refine AllReadyH.cons (atS5 (atS5 (atS (atS at0)))) (fun K hK => ?_) AllReadyH.nil
          go_simp
          obtain ⟨w12a, hw12⟩ : ∃ w', w' = w11a.alloc (.cells #[.func (.func 85) #[] #[.pointer (some ⟨r7, 0, none⟩), .pointer (some ⟨a7, 0, none⟩), .pointer (some ⟨b7, 0, none⟩)], .func (.func 86) #[] #[.pointer (some ⟨r11, 0, none⟩), .pointer (some ⟨a11, 0, none⟩), .pointer (some ⟨b11, 0, none⟩)]] 1) := ⟨_, rfl⟩
          obtain ⟨q12, hq12⟩ : ∃ q12, q12 = w11a.heap.size := ⟨_, rfl⟩
          rw [← hw12]
          try rw [← hq12]
          have hb12 : Below w11a.heap.size w11a w12a := by rw [hw12]; exact B1 _ _
          have hc12 : w12a.heap[q12]? = some (.cells #[.func (.func 85) #[] #[.pointer (some ⟨r7, 0, none⟩), .pointer (some ⟨a7, 0, none⟩), .pointer (some ⟨b7, 0, none⟩)], .func (.func 86) #[] #[.pointer (some ⟨r11, 0, none⟩), .pointer (some ⟨a11, 0, none⟩), .pointer (some ⟨b11, 0, none⟩)]] 1 (0, 0)) := by rw [hw12, hq12]; exact heap_alloc_new _ _
          have HC12 := hid hc12
          have HS11 := hid (HS11.out.keep (KeepT.below hb12))
          have HS7 := hid (HS7.out.keep (KeepT.below hb12))
          have hst := hid (hst.out.on hb12)
          clear hc12 hw12 hq12
          refine hK.out _ _ (hHeld.on hb12) (fun hHeld => ?_)
          clear hK K
          try simp only [Act.put, List.setIfInBounds_toArray, List.set_cons_zero, List.set_cons_succ]
          refine wpAnyH_ready (rs := [13]) (by kernel_rfl) (by simp) ?_
          refine AllReadyH.cons (atS5 (atS5 (atS (atS (atS at0))))) (fun K hK => ?_) AllReadyH.nil
          obtain ⟨v13, w13a, hrun13, ho13, hg13⟩ := run_appF (c := 2) (ss' := setS (x1, x2)) hst.out.ow (q := q12) (m := 2) (news := [.func (.func 85) #[] #[.pointer (some ⟨r7, 0, none⟩), .pointer (some ⟨a7, 0, none⟩), .pointer (some ⟨b7, 0, none⟩)], .func (.func 86) #[] #[.pointer (some ⟨r11, 0, none⟩), .pointer (some ⟨a11, 0, none⟩), .pointer (some ⟨b11, 0, none⟩)]]) rfl (by intro j u hj; rw [row_cell HC12.out]; match j, hj with | 0, h => exact h | 1, h => exact h) (by intro u hu; simp at hu; rcases hu with rfl | rfl <;> rfl) HKL.out hst.out.az rfl (by intro i s hi; match i, hi with | 0, h => (cases h; exact ⟨_, rfl, HS7.out⟩) | 1, h => (cases h; exact ⟨_, rfl, HS11.out⟩)) 43
          obtain ⟨n13, A13, cc13, rfl⟩ : ∃ n13 A13 cc13, v13 = .slice A13 n13 cc13 := by obtain ⟨A, c, h⟩ := ho13.shape; exact ⟨_, A, c, h⟩
          refine step_appF (by rfl) (.tmp 9) (.tmp 21) (by rfl) (by rfl) (by rfl) hrun13 ?_
          have hst5 := hst.out.app hg13 ho13
          have HS5 := hid hst5.1
          have hc13 := hst5.2.1
          have hf13 := hst5.2.2
          clear hst5
          refine hK.out _ _ (hHeld.by hg13 (OB.out _ _ _ _ _ _ hst.out.ow (C1.out _ hHeld) (by decide)) (OB.out _ _ _ _ _ _ hst.out.ow (C2.out _ hHeld) (by decide))) (fun hHeld => ?_)
          clear hK K
          try simp only [Act.put, List.setIfInBounds_toArray, List.set_cons_zero, List.set_cons_succ]
          refine wpAnyH_ready (rs := [14]) (by kernel_rfl) (by simp) ?_
          refine AllReadyH.cons (atS5 (atS5 (atS (atS (atS (atS at0)))))) (fun K hK => ?_) AllReadyH.nil
          go_simp
          go_simp
          go_wp2_with fail
          refine hK.out _ _ (hHeld.by (grownBy_setCell' _ _ _) (by simpa using hnb) (by simpa using hnb2)) (fun hHeld => ?_)
          clear hK K
          try simp only [Act.put]
          refine wpAnyH_done (by kernel_rfl) ?_ _
          refine NoPanic.normal ?_
          refine Only.normal ?_
          have hrr := C2.out _ hHeld
          gi_wp2_with (fail)
          refine ⟨HS5.out.kf, HI.out.kp _ _ HS5.out.b2 HS5.out.kc, ?_⟩
          rw [HI1.out]
          refine ⟨⟨_, HS5.out.bo, ?_⟩, hrr, HS5.out.bl, HS5.out.az⟩
          rw [bringP_take HXk.out]
          exact HS5.out.ow
        · skip
          go_simp
          refine (flush_step (lo := lo) (by have := HLO.out; have := hst.out.lt; omega) d at_ words x1 1).mono ?_
          rintro e w11a ⟨r11, a11, b11, rfl, hs11, hb11⟩
          have HS11 := hid hs11
          have HS7 := hid (HS7.out.keep (KeepT.below hb11))
          have hst := hid (hst.out.on hb11)
          clear hs11
          go_wp2_with fail
          refine hK.out _ _ (hHeld.on hb11) (fun hHeld => ?_)
          clear hK K
          try simp only [Act.put, List.setIfInBounds_toArray, List.set_cons_zero, List.set_cons_succ]
          refine wpAnyH_ready (rs := [0, 12]) (by kernel_rfl) (by simp) ?_
          refine AllReadyH.cons at0 (fun K hK => ?_) (AllReadyH.cons (atS5 (atS5 (atS (atS at0)))) (fun K hK => ?_) AllReadyH.nil)
          · skip
            have hbx0 := hst.out.cell
            go_simp
            refine hK.out _ _ hHeld (fun hHeld => ?_)
            clear hK K
            try simp only [Act.put, List.setIfInBounds_toArray, List.set_cons_zero, List.set_cons_succ]
            refine wpAnyH_ready (rs := [12]) (by kernel_rfl) (by simp) ?_
            refine AllReadyH.cons (atS5 (atS5 (atS (atS at0)))) (fun K hK => ?_) AllReadyH.nil
            go_simp
            obtain ⟨w12a, hw12⟩ : ∃ w', w' = w11a.alloc (.cells #[.func (.func 85) #[] #[.pointer (some ⟨r7, 0, none⟩), .pointer (some ⟨a7, 0, none⟩), .pointer (some ⟨b7, 0, none⟩)], .func (.func 86) #[] #[.pointer (some ⟨r11, 0, none⟩), .pointer (some ⟨a11, 0, none⟩), .pointer (some ⟨b11, 0, none⟩)]] 1) := ⟨_, rfl⟩
            obtain ⟨q12, hq12⟩ : ∃ q12, q12 = w11a.heap.size := ⟨_, rfl⟩
            rw [← hw12]
            try rw [← hq12]
            have hb12 : Below w11a.heap.size w11a w12a := by rw [hw12]; exact B1 _ _
            have hc12 : w12a.heap[q12]? = some (.cells #[.func (.func 85) #[] #[.pointer (some ⟨r7, 0, none⟩), .pointer (some ⟨a7, 0, none⟩), .pointer (some ⟨b7, 0, none⟩)], .func (.func 86) #[] #[.pointer (some ⟨r11, 0, none⟩), .pointer (some ⟨a11, 0, none⟩), .pointer (some ⟨b11, 0, none⟩)]] 1 (0, 0)) := by rw [hw12, hq12]; exact heap_alloc_new _ _
            have HC12 := hid hc12
            have HS11 := hid (HS11.out.keep (KeepT.below hb12))
            have HS7 := hid (HS7.out.keep (KeepT.below hb12))
            have hst := hid (hst.out.on hb12)
            clear hc12 hw12 hq12
            refine hK.out _ _ (hHeld.on hb12) (fun hHeld => ?_)
            clear hK K
            try simp only [Act.put, List.setIfInBounds_toArray, List.set_cons_zero, List.set_cons_succ]
            refine wpAnyH_ready (rs := [13]) (by kernel_rfl) (by simp) ?_
            refine AllReadyH.cons (atS5 (atS5 (atS (atS (atS at0))))) (fun K hK => ?_) AllReadyH.nil
            obtain ⟨v13, w13a, hrun13, ho13, hg13⟩ := run_appF (c := 2) (ss' := setS (x1, x2)) hst.out.ow (q := q12) (m := 2) (news := [.func (.func 85) #[] #[.pointer (some ⟨r7, 0, none⟩), .pointer (some ⟨a7, 0, none⟩), .pointer (some ⟨b7, 0, none⟩)], .func (.func 86) #[] #[.pointer (some ⟨r11, 0, none⟩), .pointer (some ⟨a11, 0, none⟩), .pointer (some ⟨b11, 0, none⟩)]]) rfl (by intro j u hj; rw [row_cell HC12.out]; match j, hj with | 0, h => exact h | 1, h => exact h) (by intro u hu; simp at hu; rcases hu with rfl | rfl <;> rfl) HKL.out hst.out.az rfl (by intro i s hi; match i, hi with | 0, h => (cases h; exact ⟨_, rfl, HS7.out⟩) | 1, h => (cases h; exact ⟨_, rfl, HS11.out⟩)) 43
            obtain ⟨n13, A13, cc13, rfl⟩ : ∃ n13 A13 cc13, v13 = .slice A13 n13 cc13 := by obtain ⟨A, c, h⟩ := ho13.shape; exact ⟨_, A, c, h⟩
            refine step_appF (by rfl) (.tmp 9) (.tmp 21) (by rfl) (by rfl) (by rfl) hrun13 ?_
            have hst5 := hst.out.app hg13 ho13
            have HS5 := hid hst5.1
            have hc13 := hst5.2.1
            have hf13 := hst5.2.2
            clear hst5
            refine hK.out _ _ (hHeld.by hg13 (OB.out _ _ _ _ _ _ hst.out.ow (C1.out _ hHeld) (by decide)) (OB.out _ _ _ _ _ _ hst.out.ow (C2.out _ hHeld) (by decide))) (fun hHeld => ?_)
            clear hK K
            try simp only [Act.put, List.setIfInBounds_toArray, List.set_cons_zero, List.set_cons_succ]
            refine wpAnyH_ready (rs := [14]) (by kernel_rfl) (by simp) ?_
            refine AllReadyH.cons (atS5 (atS5 (atS (atS (atS (atS at0)))))) (fun K hK => ?_) AllReadyH.nil
            go_simp
            go_simp
            go_wp2_with fail
            refine hK.out _ _ (hHeld.by (grownBy_setCell' _ _ _) (by simpa using hnb) (by simpa using hnb2)) (fun hHeld => ?_)
            clear hK K
            try simp only [Act.put]
            refine wpAnyH_done (by kernel_rfl) ?_ _
            refine NoPanic.normal ?_
            refine Only.normal ?_
            have hrr := C2.out _ hHeld
            gi_wp2_with (fail)
            refine ⟨HS5.out.kf, HI.out.kp _ _ HS5.out.b2 HS5.out.kc, ?_⟩
            rw [HI1.out]
            refine ⟨⟨_, HS5.out.bo, ?_⟩, hrr, HS5.out.bl, HS5.out.az⟩
            rw [bringP_take HXk.out]
            exact HS5.out.ow
          · skip
            go_simp
            obtain ⟨w12a, hw12⟩ : ∃ w', w' = w11a.alloc (.cells #[.func (.func 85) #[] #[.pointer (some ⟨r7, 0, none⟩), .pointer (some ⟨a7, 0, none⟩), .pointer (some ⟨b7, 0, none⟩)], .func (.func 86) #[] #[.pointer (some ⟨r11, 0, none⟩), .pointer (some ⟨a11, 0, none⟩), .pointer (some ⟨b11, 0, none⟩)]] 1) := ⟨_, rfl⟩
            obtain ⟨q12, hq12⟩ : ∃ q12, q12 = w11a.heap.size := ⟨_, rfl⟩
            rw [← hw12]
            try rw [← hq12]
            have hb12 : Below w11a.heap.size w11a w12a := by rw [hw12]; exact B1 _ _
            have hc12 : w12a.heap[q12]? = some (.cells #[.func (.func 85) #[] #[.pointer (some ⟨r7, 0, none⟩), .pointer (some ⟨a7, 0, none⟩), .pointer (some ⟨b7, 0, none⟩)], .func (.func 86) #[] #[.pointer (some ⟨r11, 0, none⟩), .pointer (some ⟨a11, 0, none⟩), .pointer (some ⟨b11, 0, none⟩)]] 1 (0, 0)) := by rw [hw12, hq12]; exact heap_alloc_new _ _
            have HC12 := hid hc12
            have HS11 := hid (HS11.out.keep (KeepT.below hb12))
            have HS7 := hid (HS7.out.keep (KeepT.below hb12))
            have hst := hid (hst.out.on hb12)
            clear hc12 hw12 hq12
            refine hK.out _ _ (hHeld.on hb12) (fun hHeld => ?_)
            clear hK K
            try simp only [Act.put, List.setIfInBounds_toArray, List.set_cons_zero, List.set_cons_succ]
            refine wpAnyH_ready (rs := [0]) (by kernel_rfl) (by simp) ?_
            refine AllReadyH.cons at0 (fun K hK => ?_) AllReadyH.nil
            have hbx0 := hst.out.cell
            go_simp
            refine hK.out _ _ hHeld (fun hHeld => ?_)
            clear hK K
            try simp only [Act.put, List.setIfInBounds_toArray, List.set_cons_zero, List.set_cons_succ]
            refine wpAnyH_ready (rs := [13]) (by kernel_rfl) (by simp) ?_
            refine AllReadyH.cons (atS5 (atS5 (atS (atS (atS at0))))) (fun K hK => ?_) AllReadyH.nil
            obtain ⟨v13, w13a, hrun13, ho13, hg13⟩ := run_appF (c := 2) (ss' := setS (x1, x2)) hst.out.ow (q := q12) (m := 2) (news := [.func (.func 85) #[] #[.pointer (some ⟨r7, 0, none⟩), .pointer (some ⟨a7, 0, none⟩), .pointer (some ⟨b7, 0, none⟩)], .func (.func 86) #[] #[.pointer (some ⟨r11, 0, none⟩), .pointer (some ⟨a11, 0, none⟩), .pointer (some ⟨b11, 0, none⟩)]]) rfl (by intro j u hj; rw [row_cell HC12.out]; match j, hj with | 0, h => exact h | 1, h => exact h) (by intro u hu; simp at hu; rcases hu with rfl | rfl <;> rfl) HKL.out hst.out.az rfl (by intro i s hi; match i, hi with | 0, h => (cases h; exact ⟨_, rfl, HS7.out⟩) | 1, h => (cases h; exact ⟨_, rfl, HS11.out⟩)) 43
            obtain ⟨n13, A13, cc13, rfl⟩ : ∃ n13 A13 cc13, v13 = .slice A13 n13 cc13 := by obtain ⟨A, c, h⟩ := ho13.shape; exact ⟨_, A, c, h⟩
            refine step_appF (by rfl) (.tmp 9) (.tmp 21) (by rfl) (by rfl) (by rfl) hrun13 ?_
            have hst5 := hst.out.app hg13 ho13
            have HS5 := hid hst5.1
            have hc13 := hst5.2.1
            have hf13 := hst5.2.2
            clear hst5
            refine hK.out _ _ (hHeld.by hg13 (OB.out _ _ _ _ _ _ hst.out.ow (C1.out _ hHeld) (by decide)) (OB.out _ _ _ _ _ _ hst.out.ow (C2.out _ hHeld) (by decide))) (fun hHeld => ?_)
            clear hK K
            try simp only [Act.put, List.setIfInBounds_toArray, List.set_cons_zero, List.set_cons_succ]
            refine wpAnyH_ready (rs := [14]) (by kernel_rfl) (by simp) ?_
            refine AllReadyH.cons (atS5 (atS5 (atS (atS (atS (atS at0)))))) (fun K hK => ?_) AllReadyH.nil
            go_simp
            go_simp
            go_wp2_with fail
            refine hK.out _ _ (hHeld.by (grownBy_setCell' _ _ _) (by simpa using hnb) (by simpa using hnb2)) (fun hHeld => ?_)
            clear hK K
            try simp only [Act.put]
            refine wpAnyH_done (by kernel_rfl) ?_ _
            refine NoPanic.normal ?_
            refine Only.normal ?_
            have hrr := C2.out _ hHeld
            gi_wp2_with (fail)
            refine ⟨HS5.out.kf, HI.out.kp _ _ HS5.out.b2 HS5.out.kc, ?_⟩
            rw [HI1.out]
            refine ⟨⟨_, HS5.out.bo, ?_⟩, hrr, HS5.out.bl, HS5.out.az⟩
            rw [bringP_take HXk.out]
            exact HS5.out.ow
  · rintro D W1 hD hi1 hdf
    rw [HI1.out] at hi1
    obtain ⟨⟨v, hv1, hv2⟩, hv3, hb1, hz1⟩ := hi1
    rw [List.take_length] at hv2
    have c5 : W1.cell? ⟨bx, 0, none⟩ = some v := by rw [row_cell hv1]; rfl
    have c6 : W1.cell? ⟨rb, 0, none⟩ = some (.pointer (some ⟨d, 0, none⟩)) := by rw [row_cell hv3]; rfl
    obtain ⟨W2, hW2⟩ : ∃ W2, W2 = W1.alloc (.cells #[.func (.func 53) #[.pointer (some ⟨d, 0, none⟩)] #[]] 1) := ⟨_, rfl⟩
    have hb2 : Below W1.heap.size W1 W2 := by rw [hW2]; exact B1 _ _
    have hc2 : W2.heap[W1.heap.size]? = some (.cells #[.func (.func 53) #[.pointer (some ⟨d, 0, none⟩)] #[]] 1 (0, 0)) := by rw [hW2]; exact heap_alloc_new _ _
    obtain ⟨v3, W3, hrun, ho3, hg3⟩ := run_appF (c := 1) (ss' := [.fe]) (hv2.on hb2) (q := W1.heap.size) (m := 1) (news := [.func (.func 53) #[.pointer (some ⟨d, 0, none⟩)] #[]]) rfl (by intro j u hj; rw [row_cell hc2]; match j, hj with | 0, h => exact h) (by intro u hu; simp at hu; rcases hu with rfl; rfl) (by rw [bringP_length]; have := HL.out; omega) (by have := hb2.size; omega) rfl (by intro i s hi; match i, hi with | 0, h => (cases h; exact ⟨_, rfl, rfl⟩)) 43
    have HG3 := hid hg3; have HV2 := hid hv2; have HO3 := hid ho3
    clear hg3 hv2 ho3 hc2 hv1 hv3
    rw [hW2] at hrun
    have HRUN := hid hrun
    clear hrun
    gi_wp2_with (gi_at_builtin; refine wpListIn_appF rfl _ _ rfl rfl rfl HRUN.out ?_)
    have hb3 : Below w.heap.size w W3 := (hb1.trans (hb2.mono hb1.size)).grown HG3.out (by have := hb1.size; have := hb2.size; omega) (fun j hj => by have := (HV2.out.row j hj).1; omega)
    have hdf3 : W3.heap[D]? = some (.deferred (some [])) := (HG3.out.block D (by have := (Array.getElem?_eq_some_iff.1 hdf).1; have := hb2.size; omega) (fun e => by
      obtain ⟨_, cs, hc⟩ := HV2.out.row D e.symm; rw [hc] at hdf; cases hdf)).trans ((hb2.block D (Array.getElem?_eq_some_iff.1 hdf).1).trans hdf)
    refine ⟨by simp, .inl ⟨_, _, rfl, run_takeDeferred hdf3, ?_⟩⟩
    refine ⟨_, results_tmp rfl _ _ _, v3, rfl, ?_, hb3.trans (belowK_b (w := w) (Nat.le_refl _) _ D _ _ (by omega) hdf3 rfl rfl)⟩
    exact (HO3.out.non (grownBy_putObj' W3 D (.deferred none)) (fun r e => by cases e; exact ⟨_, hdf3, rfl⟩)).less (by omega)
  · rintro D c k W1 hD hk hi1 hdf
    exact hi1.elim
end Go.Proofs.YteggkojlpgkhbaaGreat
