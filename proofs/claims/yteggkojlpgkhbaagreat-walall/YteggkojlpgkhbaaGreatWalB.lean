/-
  wal: bodyOf: a record's bytes behind the head.
-/
import Derived.Test.YteggkojlpgkhbaaGreatWalC
namespace Go.Proofs.YteggkojlpgkhbaaGreat
open Go.RowKit Go.Maps Go.Shelf
set_option linter.unusedVariables false
attribute [local go_sem] Oper.semAt_some

/-! ### Regions that hold two blocks -/
structure Two (b1 b2 : Nat) (w w' : World) : Prop where
  l1 : b1 < w.heap.size
  l2 : b2 < w.heap.size
  sz : w.heap.size ≤ w'.heap.size
  h1 : w'.heap[b1]? = w.heap[b1]?
  h2 : w'.heap[b2]? = w.heap[b2]?
theorem Two.on {b1 b2 : Nat} {w w' w'' : World} (h : Two b1 b2 w w') (hb : Below w'.heap.size w' w'') : Two b1 b2 w w'' :=
  ⟨h.l1, h.l2, Nat.le_trans h.sz hb.size, (hb.block _ (Nat.lt_of_lt_of_le h.l1 h.sz)).trans h.h1, (hb.block _ (Nat.lt_of_lt_of_le h.l2 h.sz)).trans h.h2⟩
theorem Two.by {b1 b2 : Nat} {w w' w'' : World} {r : Option Nat} (h : Two b1 b2 w w') (hg : w'.grownBy w'' r) (e1 : some b1 ≠ r) (e2 : some b2 ≠ r) : Two b1 b2 w w'' :=
  ⟨h.l1, h.l2, Nat.le_trans h.sz hg.size, (hg.block _ (Nat.lt_of_lt_of_le h.l1 h.sz) e1).trans h.h1, (hg.block _ (Nat.lt_of_lt_of_le h.l2 h.sz) e2).trans h.h2⟩
section
variable {P : Program} {md : Region.Mode} {ops : Array Oper} {Q : Exit → Act → World → Prop} {l n : Nat}
theorem reg_begin2 (b1 b2 : Nat) (hd : noDefer ops = true) {id : Nat} {a : Act} {w : World} (hm : P.follows .mixedOrders = true) (h1 : b1 < w.heap.size) (h2 : b2 < w.heap.size)
    (h : ∀ w0, Hid (w0.heap = w.heap) → Below w.heap.size w w0 → Two b1 b2 w0 w0 → wpAnyH P .any ops (NoPanic (Only Q)) (Two b1 b2 w0) ops.size (Array.replicate ops.size false) a w0) : (Code.region id ops true).wpIn (Fence.wide.inRound l) n P Q a w := by
  have k1 := wpAny_of_held _ _ _ _ (h w.drew (hid rfl) (Below.drew (B0 w)) ⟨h1, h2, Nat.le_refl _, rfl, rfl⟩)
  have e : NoPanic (Only Q) = Only Q := by funext e a w; cases e <;> rfl
  rw [e] at k1
  exact wpAny_in hd hm k1
theorem reg_take2 (i : Nat) {b1 b2 : Nat} {oi : Oper} {v : Value} {fuel : Nat} {listed : Array Bool} {a : Act} {w w1 : World} (hi : ops[i]? = some oi)
    (hs : Region.noSelect ops = true) (hf : Region.free md ops listed i = true) (hr : (Region.ready md ops listed).contains i = true)
    (hy : Region.wanted oi (yielded ops a.tmps) = true) (hv : ∀ w', Two b1 b2 w1 w' → (execOp a.eval oi).run P w' = .ok (.value v) w') (hS : Two b1 b2 w1 w)
    (h : wpAnyH P md ops (NoPanic Q) (Two b1 b2 w1) fuel (listed.setIfInBounds i true) (a.put oi.dst v) w) : wpAnyH P md ops (NoPanic Q) (Two b1 b2 w1) (fuel + 1) listed a w :=
  wpAnyH_take hi hs hf hr (fun _ _ _ h => h) (Or.inl ⟨hy, hv⟩) hS h
end

/-- A record's bytes behind the head. -/
def bodyL (xs : List (Int × Int)) : List UInt8 := (xs.map fun x => le x.1 8 ++ le x.2 8).flatten
theorem bodyL_length (xs : List (Int × Int)) : (bodyL xs).length = xs.length * 16 := by
  induction xs with
  | nil => rfl
  | cons x xs ih => simp [bodyL, le_length] at ih ⊢; omega
theorem bodyL_take {xs : List (Int × Int)} {k : Nat} {x : Int × Int} (h : xs[k]? = some x) : bodyL (xs.take (k + 1)) = bodyL (xs.take k) ++ le x.1 8 ++ le x.2 8 := by
  rw [List.take_add_one, h]; simp [bodyL]

/-- Where bodyOf is: its box holds v, which owns l. -/
structure BSt (w W2 W : World) (B : Nat) (v : Value) (l : List UInt8) : Prop where
  bx : W.heap[w.heap.size]? = some (.cells #[v] 22 (0, 0))
  ow : Own W (w.heap.size + 1) v l
  bl : Below w.heap.size w W
  kf : KeepsFrom B W2 W
  b2 : Below w.heap.size W2 W
section
variable {w W2 W W' : World} {B : Nat} {v v' : Value} {l l' : List UInt8}
theorem BSt.cell (h : BSt w W2 W B v l) : W.cell? ⟨w.heap.size, 0, none⟩ = some v := by rw [row_cell h.bx]; rfl
theorem BSt.lt (h : BSt w W2 W B v l) : w.heap.size < W.heap.size := row_lt h.bx
theorem BSt.on (h : BSt w W2 W B v l) (hb : Below W.heap.size W W') : BSt w W2 W' B v l :=
  ⟨(hb.block _ (row_lt h.bx)).trans h.bx, h.ow.grown hb, h.bl.trans (hb.mono (by have := h.lt; omega)), h.kf.trans (kf_below hb), h.b2.trans (hb.mono (by have := h.lt; omega))⟩
theorem BSt.not (h : BSt w W2 W B v l) : some w.heap.size ≠ v.ownBlock := by
  rcases h.ow.2 with ⟨rfl, _⟩ | ⟨g, cap, cur, rfl, hbs, hg, _⟩
  · simp [Value.ownBlock]
  · simp [Value.ownBlock]; omega
theorem BSt.app (h : BSt w W2 W B v l) (hg : W.grownBy W' v.ownBlock) (ho : Own W' (w.heap.size + 1) v' l') : BSt w W2 (W'.setCell ⟨w.heap.size, 0, none⟩ v') B v' l' ∧ W'.cell? ⟨w.heap.size, 0, none⟩ = some v ∧ W'.frozen? ⟨w.heap.size, 0, none⟩ = false := by
  have b1 : W'.heap[w.heap.size]? = some (.cells #[v] 22 (0, 0)) := (hg.block _ (row_lt h.bx) h.not).trans h.bx
  have hrow : ∀ j, v.ownBlock = some j → w.heap.size ≤ j ∧ ∃ cs t, W.heap[j]? = some (.cells cs t (0, 0)) := by
    intro j hj
    rcases h.ow.2 with ⟨rfl, _⟩ | ⟨g, cap, cur, rfl, hbs, hg, _⟩
    · simp [Value.ownBlock] at hj
    · simp [Value.ownBlock] at hj; subst hj; exact ⟨by omega, _, _, hg⟩
  have k1 : KeepsFrom B W W' := ⟨hg.size, fun k o _ hk ho => (hg.block k (Array.getElem?_eq_some_iff.1 hk).1 (fun e => by
    obtain ⟨_, cs, t, hc⟩ := hrow k e.symm; rw [hc] at hk; cases hk; cases ho)).trans hk⟩
  have k2 : Below w.heap.size W W' := (Below.refl _ W).grown hg (by have := h.lt; omega) (fun j hj => (hrow j hj).1)
  refine ⟨⟨row_set b1 0 v', ?_, (h.bl.trans k2).setCell (p := ⟨w.heap.size, 0, none⟩) (Nat.le_refl _) _, (h.kf.trans k1).trans ((KeepsOthers.setCell _ _ _).from _), (h.b2.trans k2).setCell (p := ⟨w.heap.size, 0, none⟩) (Nat.le_refl _) _⟩, by rw [row_cell b1]; rfl, row_frozen b1 0⟩
  refine ho.kept (grownBy_setCell' W' w.heap.size v') (.inr ?_)
  rcases ho.2 with ⟨rfl, _⟩ | ⟨g, cap, cur, rfl, hbs, hg, _⟩
  · simp [Value.ownBlock]
  · simp [Value.ownBlock]; omega
end
theorem own_keep {W W' : World} {row : Option Nat} {base : Nat} {v : Value} {l : List UInt8} (h : Own W base v l) (hg : W.grownBy W' row) (hr : ∀ r, row = some r → ∃ o : Obj, W.heap[r]? = some o ∧ o.isCells = false) : Own W' base v l := by
  refine ⟨h.1, ?_⟩
  rcases h.2 with h3 | ⟨g, c, cur, hv, hbase, h4, h5⟩
  · exact .inl h3
  · refine .inr ⟨g, c, cur, hv, hbase, (hg.block _ (row_lt h4) (fun e => ?_)).trans h4, h5⟩
    obtain ⟨o, ho, hc⟩ := hr _ e.symm
    rw [h4] at ho; cases ho; cases hc
theorem blk_keep {W W' : World} {row : Option Nat} {b : Nat} {cs : Array Value} {t : TypeId} (h : W.heap[b]? = some (.cells cs t (0, 0))) (hg : W.grownBy W' row) (hr : ∀ r, row = some r → ∃ o : Obj, W.heap[r]? = some o ∧ o.isCells = false) : W'.heap[b]? = some (.cells cs t (0, 0)) :=
  (hg.block _ (row_lt h) (fun e => by obtain ⟨o, ho, hc⟩ := hr _ e.symm; rw [h] at ho; cases ho; cases hc)).trans h

set_option maxRecDepth 100000 in
set_option maxHeartbeats 4000000 in
theorem body_any {w : World} {gf n₀ : Nat} {lb : Array Value} {xs : List (Int × Int)} (hi : Iter Tryz.prog gf lb (fun x => #[setV x]) xs (Below n₀) w) (en : ∀ args w, (callFunc gf args).run Tryz.prog w = .ok (.enter gf args) w) (hn : n₀ ≤ w.heap.size) (hx : ∀ x ∈ xs, 0 ≤ x.1 ∧ I64 x.1 ∧ U64 x.2) (hl : xs.length ≤ 5000) :
    Calls Tryz.prog 33 #[.func (.func gf) #[] lb] w fun e w' => ∃ v, e = .returned v ∧ Own w' w.heap.size v (bodyL xs) ∧ Below w.heap.size w w' := by
  have HI := hid hi; have HX := hid hx; have HEN := hid en; have HN := hid hn; have HL := hid hl
  clear hi hx en hn hl
  refine (callsIn_wide (n := 5)).1 (callsIn_of_wp_marks Tryz.func33 rfl trivial ?_ rfl)
  simp only [Tryz.ntmps33, List.size_toArray, List.length_cons, List.length_nil, Nat.reduceAdd, Nat.reduceSub, Array.replicate_succ, Array.replicate_zero, List.push_toArray, List.append_toArray, List.nil_append, List.cons_append]
  gi_wp2_with (fail)
  obtain ⟨W0, hW0⟩ : ∃ W0, W0 = w.alloc (.cells #[.slice none 0 0] 22) := ⟨_, rfl⟩
  have hs0 : W0.heap.size = w.heap.size + 1 := by rw [hW0]; simp
  have hB0 : Below w.heap.size w W0 := by rw [hW0]; exact B1 w _
  have y0 : W0.heap[w.heap.size]? = some (.cells #[.slice none 0 0] 22 (0, 0)) := by rw [hW0]; exact heap_alloc_new w _
  rw [← hW0]
  clear hW0
  obtain ⟨I, HI1⟩ : ∃ I : Nat → World → Prop, Hid (I = fun k W => (∃ v, W.heap[w.heap.size]? = some (.cells #[v] 22 (0, 0)) ∧ Own W (w.heap.size + 1) v (bodyL (xs.take k))) ∧ Below w.heap.size w W) := ⟨_, hid rfl⟩
  have HS0 := hid hs0
  refine range_any (gf := gf) (lb := lb) rfl HEN.out (HI.out.later hB0) (fun h k => belowKt h k) (belowKb (by have := HN.out; omega)) (fun _ => rfl) I (fun _ _ _ => False)
    (by rw [HI1.out]; exact (OwnFrom.and (fun s A C row hs hg hr => by obtain ⟨v, h1, h2⟩ := hs; exact ⟨v, blk_keep h1 hg (fun r e => (hr r e).2), own_keep h2 hg (fun r e => (hr r e).2)⟩) (ownFrom_below (Nat.le_refl _) (by omega))))
    (fun c s A C row hs _ _ => hs)
    (by rw [HI1.out]; exact ⟨⟨_, y0, own_nil _ _⟩, hB0⟩) ?_ ?_ ?_
  · rintro l k x W1 hx hi1 hl hl2
    obtain ⟨x1, x2⟩ := x
    have hi1' := hi1
    rw [HI1.out] at hi1'
    obtain ⟨⟨v, hv1, hv2⟩, hb1⟩ := hi1'
    simp only [setV]
    gi_wp2_with (fail)
    refine ⟨kf_below (B1 _ _), (Below.refl _ _).alloc (by have := HN.out; have := hb1.size; omega) _, by rw [HI1.out]; exact ⟨⟨v, (Below.heap_alloc _ _ _ (row_lt hv1)).trans hv1, hv2.grown (B1 _ _)⟩, hb1.alloc hb1.size _⟩, ?_⟩
    rintro W2 hg2 hi2
    rw [HI1.out] at hi2
    obtain ⟨⟨v, hv1, hv2⟩, hb2⟩ := hi2
    have hset : W2.heap[W1.heap.size]? = some (.cells #[.int .i64 x1, .int .u64 x2] 66 (0, 0)) := (hg2.block _ (by simp) (by simp; omega)).trans (heap_alloc_new W1 _)
    obtain ⟨sb, hsb⟩ : ∃ sb, sb = W1.heap.size := ⟨_, rfl⟩
    rw [← hsb] at hset ⊢
    have hst : Hid (BSt w W2 W2 W0.heap.size v (bodyL (xs.take k))) := (⟨hv1, hv2, hb2, KeepsFrom.refl _ _, Below.refl _ _⟩ : BSt w W2 W2 W0.heap.size v _)
    obtain ⟨hx0, hx1, hx2⟩ := HX.out _ (List.mem_of_getElem? hx)
    simp only at hx0 hx1 hx2
    have hx1' := i64_iff.1 hx1
    have q1 : IntKind.u64.wrap x1 = x1 := u64_conv hx0 (by omega)
    have U1 : Hid (U64 x1) := show U64 x1 by unfold U64; rw [pw8]; omega
    have U2 := hid hx2
    have hkl : k < xs.length := (List.getElem?_eq_some_iff.1 hx).1
    have HKL : Hid (xs.length ≤ 5000 ∧ (bodyL (xs.take k)).length = k * 16 ∧ k < xs.length) := by
      refine ⟨HL.out, ?_, hkl⟩
      rw [bodyL_length, List.length_take]; omega
    have HXk := hid hx; have HSB := hid hsb; have HSET := hid hset
    have hsblt : sb < W2.heap.size := row_lt hset
    have SB2 : Hid (∀ v : Value, ∀ W l', Own W (w.heap.size + 1) v l' → W.heap[sb]? = W2.heap[sb]? → some sb ≠ v.ownBlock) := by
      intro v W l' h e
      rcases h.2 with ⟨rfl, _⟩ | ⟨g, cap, cur, rfl, hbs, hg, _⟩
      · simp [Value.ownBlock]
      · intro ee
        simp [Value.ownBlock] at ee
        subst ee
        rw [hset] at e; rw [e] at hg; cases hg
    clear hset hx hsb hv1 hv2 hi1 hg2 hb2 hx1 hx2 hs0 y0 hx0 hkl
    have hnb : sb ≠ w.heap.size := by have := HSB.out; have := hb1.size; have := HS0.out; omega
    gi_wp2_with (fail)
    refine reg_begin2 sb sb (by kernel_rfl) (by kernel_rfl) hsblt hsblt (fun w0a hh0a hx0a hHeld => ?_)
    have c1 : ∀ w', Two sb sb w0a w' → w'.cell? ⟨sb, 0, none⟩ = some (.int .i64 x1) := fun w' h => by rw [row_cell (h.h1.trans (by rw [hh0a.out]; exact HSET.out))]; rfl
    have c2 : ∀ w', Two sb sb w0a w' → w'.heap[sb]? = W2.heap[sb]? := fun w' h => h.h1.trans (by rw [hh0a.out])
    have C2 := hid c2
    have hst := hid (hst.out.on hx0a)
    clear c2
    refine reg_take2 1 (v := ?vy1_1) (atS at0) (by kernel_rfl) (by kernel_rfl) (by kernel_rfl) (by rfl) ?hyy1_1 hHeld ?resty1_1
    case hyy1_1 => (intro w' hSw; go_simp; try with_reducible rfl)
    try simp only [Act.put, List.setIfInBounds_toArray, List.set_cons_zero, List.set_cons_succ]
    refine reg_take2 2 (v := ?vy2_2) (atS (atS at0)) (by kernel_rfl) (by kernel_rfl) (by kernel_rfl) (by rfl) ?hyy2_2 hHeld ?resty2_2
    case hyy2_2 => (intro w' hSw; go_simp; try with_reducible rfl)
    try simp only [Act.put, List.setIfInBounds_toArray, List.set_cons_zero, List.set_cons_succ]
    refine reg_take2 3 (v := ?vy3_3) (atS (atS (atS at0))) (by kernel_rfl) (by kernel_rfl) (by kernel_rfl) (by rfl) ?hyy3_3 hHeld ?resty3_3
    case hyy3_3 => (intro w' hSw; go_simp; try with_reducible rfl)
    try simp only [Act.put, List.setIfInBounds_toArray, List.set_cons_zero, List.set_cons_succ]
    refine wpAnyH_ready (rs := [0, 4]) (by kernel_rfl) (by simp) ?_
    refine AllReadyH.cons at0 (fun K hK => ?_) (AllReadyH.cons (atS (atS (atS (atS at0)))) (fun K hK => ?_) AllReadyH.nil)
    · skip
      have hbx := hst.out.cell
      go_simp
      refine hK.out _ _ hHeld (fun hHeld => ?_)
      clear hK K
      try simp only [Act.put, List.setIfInBounds_toArray, List.set_cons_zero, List.set_cons_succ]
      refine wpAnyH_ready (rs := [4]) (by kernel_rfl) (by simp) ?_
      refine AllReadyH.cons (atS (atS (atS (atS at0)))) (fun K hK => ?_) AllReadyH.nil
      go_simp
      refine (nb_any x1 U1.out _).mono ?_
      rintro e w4a ⟨va, rfl, ho4, hb4⟩
      obtain ⟨A4, cc4, rfl, hr4⟩ := ho4.rd
      have HR4 := hid hr4
      have hst := hid (hst.out.on hb4)
      clear ho4 hr4
      go_wp2_with fail
      refine hK.out _ _ (hHeld.on hb4) (fun hHeld => ?_)
      clear hK K
      try simp only [Act.put, List.setIfInBounds_toArray, List.set_cons_zero, List.set_cons_succ]
      refine wpAnyH_ready (rs := [5]) (by kernel_rfl) (by simp) ?_
      refine AllReadyH.cons (atS5 at0) (fun K hK => ?_) AllReadyH.nil
      have HK2 := hid (HKL.out)
      obtain ⟨v5, w5a, hrun5, ho5, hg5, hnn5⟩ := run_append8 hst.out.ow (HR4.out.on (Below.refl _ _)) hst.out.lt (by rw [HKL.out.2.1, le_length]; have := HKL.out; omega) 22
      obtain ⟨n5, A5, cc5, rfl⟩ : ∃ n5 A5 cc5, v5 = .slice A5 n5 cc5 := by obtain ⟨A, c, h, _⟩ := ho5.rd; exact ⟨_, A, c, h⟩
      refine step_append8 (by rfl) (.tmp 7) (.tmp 11) (by rfl) (by rfl) (by rfl) hrun5 ?_
      have hst5 := hst.out.app hg5 ho5
      have HS5 := hid hst5.1
      have hc5 := hst5.2.1
      have hf5 := hst5.2.2
      clear hst5
      refine hK.out _ _ (hHeld.by hg5 (SB2.out _ _ _ hst.out.ow (C2.out _ hHeld)) (SB2.out _ _ _ hst.out.ow (C2.out _ hHeld))) (fun hHeld => ?_)
      clear hK K
      try simp only [Act.put, List.setIfInBounds_toArray, List.set_cons_zero, List.set_cons_succ]
      refine wpAnyH_ready (rs := [6]) (by kernel_rfl) (by simp) ?_
      refine AllReadyH.cons (atS5 (atS at0)) (fun K hK => ?_) AllReadyH.nil
      go_simp
      go_simp
      go_wp2_with fail
      refine hK.out _ _ (hHeld.by (grownBy_setCell' _ _ _) (by simpa using hnb) (by simpa using hnb)) (fun hHeld => ?_)
      clear hK K
      try simp only [Act.put]
      refine wpAnyH_done (by kernel_rfl) ?_ _
      refine NoPanic.normal ?_
      refine Only.normal ?_
      have hsb6 := C2.out _ hHeld
      obtain ⟨W6, hW6⟩ : ∃ W6, W6 = w5a.setCell ⟨w.heap.size, 0, none⟩ (.slice A5 n5 cc5) := ⟨_, rfl⟩
      rw [← hW6] at HS5 hsb6 ⊢
      have hsblt6 : sb < W6.heap.size := row_lt (hsb6.trans HSET.out)
      have hst := HS5
      have HSB6 := hid hsb6
      clear hW6 hsb6 HS5 hHeld hc5 hf5 c1
      obtain ⟨v6, hv6⟩ : ∃ v6, v6 = Value.slice A5 n5 cc5 := ⟨_, rfl⟩
      rw [← hv6] at hst ⊢
      clear hv6
      obtain ⟨u7, hu7⟩ : ∃ u7, u7 = v := ⟨_, rfl⟩
      have hn6 : Hid ((bodyL (List.take k xs) ++ le x1 8).length + 8 ≤ 140737488355328) := by
        show _ + 8 ≤ _
        rw [List.length_append, HKL.out.2.1, le_length]; have := HKL.out; omega
      gi_wp2_with (fail)
      refine reg_begin2 sb sb (by kernel_rfl) (by kernel_rfl) hsblt6 hsblt6 (fun w0b hh0b hx0b hHeld => ?_)
      have c1 : ∀ w', Two sb sb w0b w' → w'.cell? ⟨sb, 1, none⟩ = some (.int .u64 x2) := fun w' h => by rw [row_cell (h.h1.trans (by rw [hh0b.out]; exact HSB6.out.trans HSET.out))]; rfl
      have c2 : ∀ w', Two sb sb w0b w' → w'.heap[sb]? = W2.heap[sb]? := fun w' h => h.h1.trans (by rw [hh0b.out]; exact HSB6.out)
      have C2 := hid c2
      have hst := hid (hst.out.on hx0b)
      clear c2
      refine reg_take2 1 (v := ?vy4_1) (atS at0) (by kernel_rfl) (by kernel_rfl) (by kernel_rfl) (by rfl) ?hyy4_1 hHeld ?resty4_1
      case hyy4_1 => (intro w' hSw; go_simp; try with_reducible rfl)
      try simp only [Act.put, List.setIfInBounds_toArray, List.set_cons_zero, List.set_cons_succ]
      refine reg_take2 2 (v := ?vy5_2) (atS (atS at0)) (by kernel_rfl) (by kernel_rfl) (by kernel_rfl) (by rfl) ?hyy5_2 hHeld ?resty5_2
      case hyy5_2 => (intro w' hSw; go_simp; try with_reducible rfl)
      try simp only [Act.put, List.setIfInBounds_toArray, List.set_cons_zero, List.set_cons_succ]
      refine wpAnyH_ready (rs := [0, 3]) (by kernel_rfl) (by simp) ?_
      refine AllReadyH.cons at0 (fun K hK => ?_) (AllReadyH.cons (atS (atS (atS at0))) (fun K hK => ?_) AllReadyH.nil)
      · skip
        have hbx := hst.out.cell
        go_simp
        refine hK.out _ _ hHeld (fun hHeld => ?_)
        clear hK K
        try simp only [Act.put, List.setIfInBounds_toArray, List.set_cons_zero, List.set_cons_succ]
        refine wpAnyH_ready (rs := [3]) (by kernel_rfl) (by simp) ?_
        refine AllReadyH.cons (atS (atS (atS at0))) (fun K hK => ?_) AllReadyH.nil
        go_simp
        refine (nb_any x2 U2.out _).mono ?_
        rintro e w3b ⟨va, rfl, ho4, hb4⟩
        obtain ⟨A4, cc4, rfl, hr4⟩ := ho4.rd
        have HR4 := hid hr4
        have hst := hid (hst.out.on hb4)
        clear ho4 hr4
        go_wp2_with fail
        refine hK.out _ _ (hHeld.on hb4) (fun hHeld => ?_)
        clear hK K
        try simp only [Act.put, List.setIfInBounds_toArray, List.set_cons_zero, List.set_cons_succ]
        refine wpAnyH_ready (rs := [4]) (by kernel_rfl) (by simp) ?_
        refine AllReadyH.cons (atS (atS (atS (atS at0)))) (fun K hK => ?_) AllReadyH.nil
        obtain ⟨v5, w4b, hrun5, ho5, hg5, hnn5⟩ := run_append8 hst.out.ow (HR4.out.on (Below.refl _ _)) hst.out.lt (by have := hn6.out; rw [le_length]; omega) 22
        obtain ⟨n5, A5, cc5, rfl⟩ : ∃ n5 A5 cc5, v5 = .slice A5 n5 cc5 := by obtain ⟨A, c, h, _⟩ := ho5.rd; exact ⟨_, A, c, h⟩
        refine step_append8 (by rfl) (.tmp 13) (.tmp 16) (by rfl) (by rfl) (by rfl) hrun5 ?_
        have hst5 := hst.out.app hg5 ho5
        have HS5 := hid hst5.1
        have hc5 := hst5.2.1
        have hf5 := hst5.2.2
        clear hst5
        refine hK.out _ _ (hHeld.by hg5 (SB2.out _ _ _ hst.out.ow (C2.out _ hHeld)) (SB2.out _ _ _ hst.out.ow (C2.out _ hHeld))) (fun hHeld => ?_)
        clear hK K
        try simp only [Act.put, List.setIfInBounds_toArray, List.set_cons_zero, List.set_cons_succ]
        refine wpAnyH_ready (rs := [5]) (by kernel_rfl) (by simp) ?_
        refine AllReadyH.cons (atS5 at0) (fun K hK => ?_) AllReadyH.nil
        go_simp
        go_simp
        go_wp2_with fail
        refine hK.out _ _ (hHeld.by (grownBy_setCell' _ _ _) (by simpa using hnb) (by simpa using hnb)) (fun hHeld => ?_)
        clear hK K
        try simp only [Act.put]
        refine wpAnyH_done (by kernel_rfl) ?_ _
        refine NoPanic.normal ?_
        refine Only.normal ?_
        gi_wp2_with (fail)
        refine ⟨HS5.out.kf, HS5.out.b2.mono HN.out, ?_⟩
        rw [HI1.out]
        refine ⟨⟨_, HS5.out.bx, ?_⟩, HS5.out.bl⟩
        rw [bodyL_take HXk.out]
        exact HS5.out.ow
      · skip
        go_simp
        refine (nb_any x2 U2.out _).mono ?_
        rintro e w3b ⟨va, rfl, ho4, hb4⟩
        obtain ⟨A4, cc4, rfl, hr4⟩ := ho4.rd
        have HR4 := hid hr4
        have hst := hid (hst.out.on hb4)
        clear ho4 hr4
        go_wp2_with fail
        refine hK.out _ _ (hHeld.on hb4) (fun hHeld => ?_)
        clear hK K
        try simp only [Act.put, List.setIfInBounds_toArray, List.set_cons_zero, List.set_cons_succ]
        refine wpAnyH_ready (rs := [0]) (by kernel_rfl) (by simp) ?_
        refine AllReadyH.cons at0 (fun K hK => ?_) AllReadyH.nil
        have hbx := hst.out.cell
        go_simp
        refine hK.out _ _ hHeld (fun hHeld => ?_)
        clear hK K
        try simp only [Act.put, List.setIfInBounds_toArray, List.set_cons_zero, List.set_cons_succ]
        refine wpAnyH_ready (rs := [4]) (by kernel_rfl) (by simp) ?_
        refine AllReadyH.cons (atS (atS (atS (atS at0)))) (fun K hK => ?_) AllReadyH.nil
        obtain ⟨v5, w4b, hrun5, ho5, hg5, hnn5⟩ := run_append8 hst.out.ow (HR4.out.on (Below.refl _ _)) hst.out.lt (by have := hn6.out; rw [le_length]; omega) 22
        obtain ⟨n5, A5, cc5, rfl⟩ : ∃ n5 A5 cc5, v5 = .slice A5 n5 cc5 := by obtain ⟨A, c, h, _⟩ := ho5.rd; exact ⟨_, A, c, h⟩
        refine step_append8 (by rfl) (.tmp 13) (.tmp 16) (by rfl) (by rfl) (by rfl) hrun5 ?_
        have hst5 := hst.out.app hg5 ho5
        have HS5 := hid hst5.1
        have hc5 := hst5.2.1
        have hf5 := hst5.2.2
        clear hst5
        refine hK.out _ _ (hHeld.by hg5 (SB2.out _ _ _ hst.out.ow (C2.out _ hHeld)) (SB2.out _ _ _ hst.out.ow (C2.out _ hHeld))) (fun hHeld => ?_)
        clear hK K
        try simp only [Act.put, List.setIfInBounds_toArray, List.set_cons_zero, List.set_cons_succ]
        refine wpAnyH_ready (rs := [5]) (by kernel_rfl) (by simp) ?_
        refine AllReadyH.cons (atS5 at0) (fun K hK => ?_) AllReadyH.nil
        go_simp
        go_simp
        go_wp2_with fail
        refine hK.out _ _ (hHeld.by (grownBy_setCell' _ _ _) (by simpa using hnb) (by simpa using hnb)) (fun hHeld => ?_)
        clear hK K
        try simp only [Act.put]
        refine wpAnyH_done (by kernel_rfl) ?_ _
        refine NoPanic.normal ?_
        refine Only.normal ?_
        gi_wp2_with (fail)
        refine ⟨HS5.out.kf, HS5.out.b2.mono HN.out, ?_⟩
        rw [HI1.out]
        refine ⟨⟨_, HS5.out.bx, ?_⟩, HS5.out.bl⟩
        rw [bodyL_take HXk.out]
        exact HS5.out.ow
    · skip
      go_simp
      refine (nb_any x1 U1.out _).mono ?_
      rintro e w4a ⟨va, rfl, ho4, hb4⟩
      obtain ⟨A4, cc4, rfl, hr4⟩ := ho4.rd
      have HR4 := hid hr4
      have hst := hid (hst.out.on hb4)
      clear ho4 hr4
      go_wp2_with fail
      refine hK.out _ _ (hHeld.on hb4) (fun hHeld => ?_)
      clear hK K
      try simp only [Act.put, List.setIfInBounds_toArray, List.set_cons_zero, List.set_cons_succ]
      refine wpAnyH_ready (rs := [0]) (by kernel_rfl) (by simp) ?_
      refine AllReadyH.cons at0 (fun K hK => ?_) AllReadyH.nil
      have hbx := hst.out.cell
      go_simp
      refine hK.out _ _ hHeld (fun hHeld => ?_)
      clear hK K
      try simp only [Act.put, List.setIfInBounds_toArray, List.set_cons_zero, List.set_cons_succ]
      refine wpAnyH_ready (rs := [5]) (by kernel_rfl) (by simp) ?_
      refine AllReadyH.cons (atS5 at0) (fun K hK => ?_) AllReadyH.nil
      have HK2 := hid (HKL.out)
      obtain ⟨v5, w5a, hrun5, ho5, hg5, hnn5⟩ := run_append8 hst.out.ow (HR4.out.on (Below.refl _ _)) hst.out.lt (by rw [HKL.out.2.1, le_length]; have := HKL.out; omega) 22
      obtain ⟨n5, A5, cc5, rfl⟩ : ∃ n5 A5 cc5, v5 = .slice A5 n5 cc5 := by obtain ⟨A, c, h, _⟩ := ho5.rd; exact ⟨_, A, c, h⟩
      refine step_append8 (by rfl) (.tmp 7) (.tmp 11) (by rfl) (by rfl) (by rfl) hrun5 ?_
      have hst5 := hst.out.app hg5 ho5
      have HS5 := hid hst5.1
      have hc5 := hst5.2.1
      have hf5 := hst5.2.2
      clear hst5
      refine hK.out _ _ (hHeld.by hg5 (SB2.out _ _ _ hst.out.ow (C2.out _ hHeld)) (SB2.out _ _ _ hst.out.ow (C2.out _ hHeld))) (fun hHeld => ?_)
      clear hK K
      try simp only [Act.put, List.setIfInBounds_toArray, List.set_cons_zero, List.set_cons_succ]
      refine wpAnyH_ready (rs := [6]) (by kernel_rfl) (by simp) ?_
      refine AllReadyH.cons (atS5 (atS at0)) (fun K hK => ?_) AllReadyH.nil
      go_simp
      go_simp
      go_wp2_with fail
      refine hK.out _ _ (hHeld.by (grownBy_setCell' _ _ _) (by simpa using hnb) (by simpa using hnb)) (fun hHeld => ?_)
      clear hK K
      try simp only [Act.put]
      refine wpAnyH_done (by kernel_rfl) ?_ _
      refine NoPanic.normal ?_
      refine Only.normal ?_
      have hsb6 := C2.out _ hHeld
      obtain ⟨W6, hW6⟩ : ∃ W6, W6 = w5a.setCell ⟨w.heap.size, 0, none⟩ (.slice A5 n5 cc5) := ⟨_, rfl⟩
      rw [← hW6] at HS5 hsb6 ⊢
      have hsblt6 : sb < W6.heap.size := row_lt (hsb6.trans HSET.out)
      have hst := HS5
      have HSB6 := hid hsb6
      clear hW6 hsb6 HS5 hHeld hc5 hf5 c1
      obtain ⟨v6, hv6⟩ : ∃ v6, v6 = Value.slice A5 n5 cc5 := ⟨_, rfl⟩
      rw [← hv6] at hst ⊢
      clear hv6
      obtain ⟨u7, hu7⟩ : ∃ u7, u7 = v := ⟨_, rfl⟩
      have hn6 : Hid ((bodyL (List.take k xs) ++ le x1 8).length + 8 ≤ 140737488355328) := by
        show _ + 8 ≤ _
        rw [List.length_append, HKL.out.2.1, le_length]; have := HKL.out; omega
      gi_wp2_with (fail)
      refine reg_begin2 sb sb (by kernel_rfl) (by kernel_rfl) hsblt6 hsblt6 (fun w0b hh0b hx0b hHeld => ?_)
      have c1 : ∀ w', Two sb sb w0b w' → w'.cell? ⟨sb, 1, none⟩ = some (.int .u64 x2) := fun w' h => by rw [row_cell (h.h1.trans (by rw [hh0b.out]; exact HSB6.out.trans HSET.out))]; rfl
      have c2 : ∀ w', Two sb sb w0b w' → w'.heap[sb]? = W2.heap[sb]? := fun w' h => h.h1.trans (by rw [hh0b.out]; exact HSB6.out)
      have C2 := hid c2
      have hst := hid (hst.out.on hx0b)
      clear c2
      refine reg_take2 1 (v := ?vy6_1) (atS at0) (by kernel_rfl) (by kernel_rfl) (by kernel_rfl) (by rfl) ?hyy6_1 hHeld ?resty6_1
      case hyy6_1 => (intro w' hSw; go_simp; try with_reducible rfl)
      try simp only [Act.put, List.setIfInBounds_toArray, List.set_cons_zero, List.set_cons_succ]
      refine reg_take2 2 (v := ?vy7_2) (atS (atS at0)) (by kernel_rfl) (by kernel_rfl) (by kernel_rfl) (by rfl) ?hyy7_2 hHeld ?resty7_2
      case hyy7_2 => (intro w' hSw; go_simp; try with_reducible rfl)
      try simp only [Act.put, List.setIfInBounds_toArray, List.set_cons_zero, List.set_cons_succ]
      refine wpAnyH_ready (rs := [0, 3]) (by kernel_rfl) (by simp) ?_
      refine AllReadyH.cons at0 (fun K hK => ?_) (AllReadyH.cons (atS (atS (atS at0))) (fun K hK => ?_) AllReadyH.nil)
      · skip
        have hbx := hst.out.cell
        go_simp
        refine hK.out _ _ hHeld (fun hHeld => ?_)
        clear hK K
        try simp only [Act.put, List.setIfInBounds_toArray, List.set_cons_zero, List.set_cons_succ]
        refine wpAnyH_ready (rs := [3]) (by kernel_rfl) (by simp) ?_
        refine AllReadyH.cons (atS (atS (atS at0))) (fun K hK => ?_) AllReadyH.nil
        go_simp
        refine (nb_any x2 U2.out _).mono ?_
        rintro e w3b ⟨va, rfl, ho4, hb4⟩
        obtain ⟨A4, cc4, rfl, hr4⟩ := ho4.rd
        have HR4 := hid hr4
        have hst := hid (hst.out.on hb4)
        clear ho4 hr4
        go_wp2_with fail
        refine hK.out _ _ (hHeld.on hb4) (fun hHeld => ?_)
        clear hK K
        try simp only [Act.put, List.setIfInBounds_toArray, List.set_cons_zero, List.set_cons_succ]
        refine wpAnyH_ready (rs := [4]) (by kernel_rfl) (by simp) ?_
        refine AllReadyH.cons (atS (atS (atS (atS at0)))) (fun K hK => ?_) AllReadyH.nil
        obtain ⟨v5, w4b, hrun5, ho5, hg5, hnn5⟩ := run_append8 hst.out.ow (HR4.out.on (Below.refl _ _)) hst.out.lt (by have := hn6.out; rw [le_length]; omega) 22
        obtain ⟨n5, A5, cc5, rfl⟩ : ∃ n5 A5 cc5, v5 = .slice A5 n5 cc5 := by obtain ⟨A, c, h, _⟩ := ho5.rd; exact ⟨_, A, c, h⟩
        refine step_append8 (by rfl) (.tmp 13) (.tmp 16) (by rfl) (by rfl) (by rfl) hrun5 ?_
        have hst5 := hst.out.app hg5 ho5
        have HS5 := hid hst5.1
        have hc5 := hst5.2.1
        have hf5 := hst5.2.2
        clear hst5
        refine hK.out _ _ (hHeld.by hg5 (SB2.out _ _ _ hst.out.ow (C2.out _ hHeld)) (SB2.out _ _ _ hst.out.ow (C2.out _ hHeld))) (fun hHeld => ?_)
        clear hK K
        try simp only [Act.put, List.setIfInBounds_toArray, List.set_cons_zero, List.set_cons_succ]
        refine wpAnyH_ready (rs := [5]) (by kernel_rfl) (by simp) ?_
        refine AllReadyH.cons (atS5 at0) (fun K hK => ?_) AllReadyH.nil
        go_simp
        go_simp
        go_wp2_with fail
        refine hK.out _ _ (hHeld.by (grownBy_setCell' _ _ _) (by simpa using hnb) (by simpa using hnb)) (fun hHeld => ?_)
        clear hK K
        try simp only [Act.put]
        refine wpAnyH_done (by kernel_rfl) ?_ _
        refine NoPanic.normal ?_
        refine Only.normal ?_
        gi_wp2_with (fail)
        refine ⟨HS5.out.kf, HS5.out.b2.mono HN.out, ?_⟩
        rw [HI1.out]
        refine ⟨⟨_, HS5.out.bx, ?_⟩, HS5.out.bl⟩
        rw [bodyL_take HXk.out]
        exact HS5.out.ow
      · skip
        go_simp
        refine (nb_any x2 U2.out _).mono ?_
        rintro e w3b ⟨va, rfl, ho4, hb4⟩
        obtain ⟨A4, cc4, rfl, hr4⟩ := ho4.rd
        have HR4 := hid hr4
        have hst := hid (hst.out.on hb4)
        clear ho4 hr4
        go_wp2_with fail
        refine hK.out _ _ (hHeld.on hb4) (fun hHeld => ?_)
        clear hK K
        try simp only [Act.put, List.setIfInBounds_toArray, List.set_cons_zero, List.set_cons_succ]
        refine wpAnyH_ready (rs := [0]) (by kernel_rfl) (by simp) ?_
        refine AllReadyH.cons at0 (fun K hK => ?_) AllReadyH.nil
        have hbx := hst.out.cell
        go_simp
        refine hK.out _ _ hHeld (fun hHeld => ?_)
        clear hK K
        try simp only [Act.put, List.setIfInBounds_toArray, List.set_cons_zero, List.set_cons_succ]
        refine wpAnyH_ready (rs := [4]) (by kernel_rfl) (by simp) ?_
        refine AllReadyH.cons (atS (atS (atS (atS at0)))) (fun K hK => ?_) AllReadyH.nil
        obtain ⟨v5, w4b, hrun5, ho5, hg5, hnn5⟩ := run_append8 hst.out.ow (HR4.out.on (Below.refl _ _)) hst.out.lt (by have := hn6.out; rw [le_length]; omega) 22
        obtain ⟨n5, A5, cc5, rfl⟩ : ∃ n5 A5 cc5, v5 = .slice A5 n5 cc5 := by obtain ⟨A, c, h, _⟩ := ho5.rd; exact ⟨_, A, c, h⟩
        refine step_append8 (by rfl) (.tmp 13) (.tmp 16) (by rfl) (by rfl) (by rfl) hrun5 ?_
        have hst5 := hst.out.app hg5 ho5
        have HS5 := hid hst5.1
        have hc5 := hst5.2.1
        have hf5 := hst5.2.2
        clear hst5
        refine hK.out _ _ (hHeld.by hg5 (SB2.out _ _ _ hst.out.ow (C2.out _ hHeld)) (SB2.out _ _ _ hst.out.ow (C2.out _ hHeld))) (fun hHeld => ?_)
        clear hK K
        try simp only [Act.put, List.setIfInBounds_toArray, List.set_cons_zero, List.set_cons_succ]
        refine wpAnyH_ready (rs := [5]) (by kernel_rfl) (by simp) ?_
        refine AllReadyH.cons (atS5 at0) (fun K hK => ?_) AllReadyH.nil
        go_simp
        go_simp
        go_wp2_with fail
        refine hK.out _ _ (hHeld.by (grownBy_setCell' _ _ _) (by simpa using hnb) (by simpa using hnb)) (fun hHeld => ?_)
        clear hK K
        try simp only [Act.put]
        refine wpAnyH_done (by kernel_rfl) ?_ _
        refine NoPanic.normal ?_
        refine Only.normal ?_
        gi_wp2_with (fail)
        refine ⟨HS5.out.kf, HS5.out.b2.mono HN.out, ?_⟩
        rw [HI1.out]
        refine ⟨⟨_, HS5.out.bx, ?_⟩, HS5.out.bl⟩
        rw [bodyL_take HXk.out]
        exact HS5.out.ow
  · rintro D W1 hD hi1 hdf
    rw [HI1.out] at hi1
    obtain ⟨⟨v, hv1, hv2⟩, hb1⟩ := hi1
    rw [List.take_length] at hv2
    have c5 : W1.cell? ⟨w.heap.size, 0, none⟩ = some v := by rw [row_cell hv1]; rfl
    gi_wp2_with (fail)
    refine ⟨by simp, .inl ⟨_, _, rfl, run_takeDeferred hdf, ?_⟩⟩
    refine ⟨_, results_tmp rfl _ _ _, v, rfl, ?_, hb1.trans (belowK_b (w := w) (Nat.le_refl _) _ D _ _ (by omega) hdf rfl rfl)⟩
    exact (own_keep hv2 (grownBy_putObj' W1 D (.deferred none)) (fun r e => by cases e; exact ⟨_, hdf, rfl⟩)).less (by omega)
  · rintro D c k W1 hD hk hi1 hdf
    exact hi1.elim
end Go.Proofs.YteggkojlpgkhbaaGreat
