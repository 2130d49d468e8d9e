/-
  The program's Layout of layer 6.
  The program's Refs, New of layer 6.
-/
import Derived.Test.YtaegencmnmjgbaaGreatM22
import Derived.Test.YtaegencmnmjgbaaGreatM19

namespace Go.Proofs.YtaegencmnmjgbaaGreat
open Go.RowKit
set_option linter.unusedVariables false
attribute [local go_sem] Oper.semAt_some
theorem wpListIn_app {P : Program} {l n : Nat} {w w' : World} {ops : Array Oper} {rest : List Oper} {o : Oper} {a : Act} {Q : Exit → Act → World → Prop} {v v' u : Value} {t1 t2 : TypeId} (hgd : o.guard = none) (s x : Operand)
    (hop : o.op = .call { callee := .builtin .append, args := #[s, x], argTypes := #[t1, t2] }) (hs : a.eval s = v) (hx : a.eval x = u)
    (hrun : (Builtin.append_ #[t1, t2] o.type #[v, u]).run P w = .ok v' w') (hk : wpListIn (Fence.wide.inRound l) n P ops Q rest (a.put o.dst v') w') : wpListIn (Fence.wide.inRound l) n P ops Q (o :: rest) a w := by
  refine wpListIn_plain hgd fun K hK => ⟨fun _ _ => trivial, ?_⟩
  rw [Oper.semAt_eq _ _ _ (by rw [hop]; intro c h; cases h)]
  unfold execOp
  simp only [hop, resolve, invoke, builtin, Sem.run_bind, Sem.run_pure, Result.andThen_ok, List.map_toArray, List.map_cons, List.map_nil, hs, hx, hrun]
  exact hK _ _ hk
theorem run_appI2 {w : World} {base : Nat} {v : Value} {l : List Int} (h : OwI w base v l) (x : Int) (hlen : l.length ≤ 1000000) (hb : base ≤ w.heap.size) (ty : TypeId) :
    ∃ v' w', (Builtin.append_ #[52, 52] ty #[v, .slice (some ⟨w.heap.size, 0, none⟩) 1 1]).run Tryz.prog (w.alloc (.cells #[.int .i64 x] 3)) = .ok v' w' ∧ OwI w' base v' (l ++ [x]) ∧ (w.alloc (.cells #[.int .i64 x] 3)).grownBy w' v.ownBlock := by
  have hi8 := infoI
  have hk : Below w.heap.size w (w.alloc (.cells #[.int .i64 x] 3)) := B1 _ _
  cases hi : Tryz.prog.info? 3 with
  | none => rw [hi] at hi8; cases hi8
  | some i =>
    rw [hi] at hi8
    simp only [Option.map_some, Option.some.injEq, Prod.mk.injEq] at hi8
    obtain ⟨hz, hsz, hby⟩ := hi8
    obtain ⟨v', W', hr, ho, hg, hnil⟩ := run_append_own (P := Tryz.prog) (w.alloc (.cells #[.int .i64 x] 3)) base 52 ty 3 i (.int .i64 0) 1 8 Tryz.underlying52 hi hz hsz hby rfl (by omega) v l.length (l.map iv) (h.on hk) ⟨w.heap.size, 0, none⟩ 1 1 [iv x] rfl (fun j u hj => by rw [add_plain, Nat.zero_add, row_cell (heap_alloc_new w _)]; match j, hj with | 0, h => exact h) (by intro u hu; simp at hu; subst hu; rfl) (by unfold maxLen; omega) (by omega) (Nat.le_trans hb hk.size)
    refine ⟨v', W', hr, ?_, hg⟩
    unfold OwI
    rw [List.length_append, List.map_append]; exact ho
section
variable {w w' : World} {base : Nat} {v : Value} {l : List Int} {row : Option Nat}
theorem OwI.blk2 (h : OwI w base v l) : ∀ r, v.ownBlock = some r → base ≤ r ∧ ∃ cs, w.heap[r]? = some (.cells cs 3 (0, 0)) := by
  intro j hj
  rcases h.2 with ⟨e, _⟩ | ⟨g, cap, cur, e, hbase, hg, _⟩
  · rw [e] at hj; simp [Value.ownBlock] at hj
  · rw [e] at hj; simp [Value.ownBlock] at hj; subst hj; exact ⟨hbase, _, hg⟩
theorem OwI.keep (h : OwI w base v l) (hg : w.grownBy w' row) (hr : ∀ r, row = some r → ∃ o : Obj, w.heap[r]? = some o ∧ o.isCells = false) : OwI w' base v l := by
  refine ⟨h.1, ?_⟩
  rcases h.2 with h1 | ⟨g, cap, cur, hv, hbase, hg2, h3⟩
  · exact .inl h1
  · refine .inr ⟨g, cap, cur, hv, hbase, (hg.block g (row_lt hg2) (fun e => ?_)).trans hg2, h3⟩
    obtain ⟨o, ho, hc⟩ := hr g e.symm
    rw [hg2] at ho; cases ho; cases hc
theorem OwI.shape (h : OwI w base v l) : ∃ A n c, v = .slice A n c := by
  rcases h.2 with ⟨e, _⟩ | ⟨g, cap, cur, hv, _⟩
  · exact ⟨_, _, _, e⟩
  · exact ⟨_, _, _, hv⟩
theorem OwI.less (h : OwI w base v l) {b : Nat} (hb : b ≤ base) : OwI w b v l := by
  refine ⟨h.1, ?_⟩
  rcases h.2 with h1 | ⟨g, cap, cur, hv, hbase, hg, h3⟩
  · exact .inl h1
  · exact .inr ⟨g, cap, cur, hv, Nat.le_trans hb hbase, hg, h3⟩
theorem OwI.set (h : OwI w base v l) {g : Nat} (hb : g < base) (i : Nat) (u : Value) : OwI (w.setCell ⟨g, i, none⟩ u) base v l := by
  refine ⟨h.1, ?_⟩
  rcases h.2 with h1 | ⟨g2, cap, cur, hv, hbase, hg, h3⟩
  · exact .inl h1
  · exact .inr ⟨g2, cap, cur, hv, hbase, (Below.heap_setCell w ⟨g, i, none⟩ u g2 (show g2 ≠ g by omega)).trans hg, h3⟩
end
theorem cells_keep {W W' : World} {row : Option Nat} {b : Nat} {cs : Array Value} {t : TypeId} (h : W.heap[b]? = some (.cells cs t (0, 0))) (hg : W.grownBy W' row) (hr : ∀ r, row = some r → ∃ o : Obj, W.heap[r]? = some o ∧ o.isCells = false) : W'.heap[b]? = some (.cells cs t (0, 0)) :=
  (hg.block _ (row_lt h) (fun e => by obtain ⟨o, ho, hc⟩ := hr _ e.symm; rw [h] at ho; cases ho; cases hc)).trans h
theorem kf_grown {W W' : World} {row : Option Nat} {B : Nat} (hg : W.grownBy W' row) (hr : ∀ r, row = some r → ∃ cs t, W.heap[r]? = some (.cells cs t (0, 0))) : KeepsFrom B W W' :=
  ⟨hg.size, fun k o _ hk hc => (hg.block k (Array.getElem?_eq_some_iff.1 hk).1 (fun e => by
    obtain ⟨cs, t, h⟩ := hr k e.symm
    rw [hk] at h; cases h; cases hc)).trans hk⟩
theorem kf_set {W : World} {g B : Nat} {cs : Array Value} {t : TypeId} (h : W.heap[g]? = some (.cells cs t (0, 0))) (i : Nat) (u : Value) : KeepsFrom B W (W.setCell ⟨g, i, none⟩ u) :=
  ⟨by simp [World.setCell], fun k o _ hk hc => (Below.heap_setCell W ⟨g, i, none⟩ u k (fun e => by
    have e : k = g := e
    subst e
    rw [hk] at h; cases h; cases hc)).trans hk⟩
theorem places_any (w : World) (A : Option Addr) (n c : Nat) :
    Calls Tryz.prog 126 #[.slice A n c] w fun e w' => e = .returned (.func (.func 160) #[] #[.pointer (some ⟨w.heap.size, 0, none⟩)]) ∧ w' = w.alloc (.cells #[.slice A n c] 32) := by
  go_enter Tryz.func126, Tryz.ntmps126
  go_wp2_with fail
  go_ret
  exact ⟨rfl, rfl⟩
theorem plc_end (l : List Fd) : layP 0 (l.take (plcL l).length) = layL l ∧ up8 (layE 0 (l.take (plcL l).length)) = layT l := by
  cases hr : rightL l with
  | false => rw [plcL_wrong hr, layL_wrong hr, layT_wrong hr]; exact ⟨rfl, rfl⟩
  | true => rw [plcL_length hr, List.take_length, layL_right hr, layT_right hr]; exact ⟨rfl, rfl⟩
theorem plc_bd (l : List Fd) : 0 ≤ layE 0 (l.take (plcL l).length) ∧ layE 0 (l.take (plcL l).length) ≤ 1160 := by
  cases hr : rightL l with
  | false => rw [plcL_wrong hr, List.length_nil, List.take_zero]; exact ⟨by decide, by decide⟩
  | true =>
    rw [plcL_length hr, List.take_length]
    have h1 := layN_bounds hr
    have h2 := layE_bounds l 0 (right_may hr) (Int.le_refl _)
    omega
theorem below_put {w W : World} {D : Nat} {o o' : Obj} (h : Below w.heap.size w W) (hD : w.heap.size ≤ D) (hd : W.heap[D]? = some o) (hc : o.isCells = false) : Below w.heap.size w (W.putObj D o') := h.trans (belowKb (m := w.heap.size) (Nat.le_refl _) W D o o' hD hd hc)
structure LaySt (w W : World) (B : Nat) (l : List Fd) (k : Nat) (v : Value) (z : Int) : Prop where
  cl : W.heap[w.heap.size]? = some (.cells #[v] 52 (0, 0))
  ce : W.heap[w.heap.size + 1]? = some (.cells #[.int .i64 z] 3 (0, 0))
  ow : OwI W B v (layP 0 (l.take k))
  ez : z = layE 0 (l.take k)
  bl : Below w.heap.size w W
  az : B ≤ W.heap.size
theorem LaySt.on {w W W' : World} {B k : Nat} {l : List Fd} {v : Value} {z : Int} (h : LaySt w W B l k v z) (hb : Below W.heap.size W W') : LaySt w W' B l k v z :=
  ⟨(hb.block _ (row_lt h.cl)).trans h.cl, (hb.block _ (row_lt h.ce)).trans h.ce, h.ow.on hb, h.ez, h.bl.trans (hb.mono h.bl.size), Nat.le_trans h.az hb.size⟩
theorem LaySt.keep {w W W' : World} {B k : Nat} {l : List Fd} {v : Value} {z : Int} {row : Option Nat} (h : LaySt w W B l k v z) (hg : W.grownBy W' row) (hr : ∀ r, row = some r → w.heap.size ≤ r ∧ ∃ o : Obj, W.heap[r]? = some o ∧ o.isCells = false) : LaySt w W' B l k v z :=
  ⟨cells_keep h.cl hg (fun r e => (hr r e).2), cells_keep h.ce hg (fun r e => (hr r e).2), h.ow.keep hg (fun r e => (hr r e).2), h.ez, h.bl.grown hg (h.bl.size) (fun r e => (hr r e).1), Nat.le_trans h.az hg.size⟩
set_option maxRecDepth 100000 in
set_option maxHeartbeats 8000000 in
theorem p6layout_any {w : World} {A : Option Addr} {n c : Nat} {l : List Fd} (h : RdF w w.heap.size A n c l) (hs : short l) : Calls Tryz.prog 88 #[.slice A n c] w (LayQ w l) := by
  have HL := hid h.1
  have H := hid h; have HS := hid hs; clear h hs
  refine (callsIn_wide (n := 5)).1 (callsIn_of_wp_marks Tryz.func88 rfl trivial ?_ rfl)
  simp only [Tryz.ntmps88, List.size_toArray, List.length_cons, List.length_nil, Nat.reduceAdd, Nat.reduceSub, Array.replicate_succ, Array.replicate_zero, List.push_toArray, List.append_toArray, List.nil_append, List.cons_append]
  gi_wp2_with (fail)
  obtain ⟨w2, hw2⟩ : ∃ w2, w2 = (w.alloc (.cells #[.slice none 0 0] 52)).alloc (.cells #[.int .i64 0] 3) := ⟨_, rfl⟩
  rw [← hw2]
  have hs2 : w2.heap.size = w.heap.size + 2 := by rw [hw2]; simp
  have hb2 : Below w.heap.size w w2 := by rw [hw2]; exact Ba (B1 w _) _
  have y0 : w2.heap[w.heap.size]? = some (.cells #[.slice none 0 0] 52 (0, 0)) := by rw [hw2]; exact (Below.heap_alloc _ _ _ (by simp)).trans (heap_alloc_new w _)
  have y1 : w2.heap[w.heap.size + 1]? = some (.cells #[.int .i64 0] 3 (0, 0)) := by
    rw [hw2]; have := heap_alloc_new (w.alloc (.cells #[.slice none 0 0] 52)) (.cells #[.int .i64 0] 3); simpa using this
  clear hw2
  refine ⟨trivial, callsIn_wide.2 ((places_any _ _ _ _).mono ?_)⟩
  rintro e W0 ⟨rfl, hW0⟩
  have hs0 : W0.heap.size = w.heap.size + 3 := by rw [hW0]; simp [hs2]
  have hb0 : Below w2.heap.size w2 W0 := by rw [hW0]; exact B1 _ _
  have z0 := (hb0.block _ (row_lt y0)).trans y0
  have z1 := (hb0.block _ (row_lt y1)).trans y1
  have yB : W0.heap[w2.heap.size]? = some (.cells #[.slice A n c] 32 (0, 0)) := by rw [hW0]; exact heap_alloc_new _ _
  have hB0 : Below w.heap.size w W0 := Bt hb2 hb0
  have hit := places_iter (w := W0) yB (H.out.below hB0) HS.out (by omega)
  have hL0 : LaySt w W0 W0.heap.size l 0 (.slice none 0 0) 0 := ⟨z0, z1, OwI.nil _ _, rfl, hB0, Nat.le_refl _⟩
  have HS0 := hid hs0
  clear hW0 y0 y1 z0 z1 hb2 hb0 yB hs2
  gi_wp2_with (fail)
  obtain ⟨I, HI1⟩ : ∃ I : Nat → World → Prop, Hid (I = fun k W => ∃ v z, LaySt w W W0.heap.size l k v z) := ⟨_, hid rfl⟩
  refine range_any (gf := 160) (lb := #[.pointer (some ⟨w2.heap.size, 0, none⟩)]) rfl (enters_of Tryz.func160 (by kernel_rfl) rfl)
    hit (fun h k => KeepF.trans h k) (fun W l o o' hl h hc => KeepF.put (by have := HS0.out; omega) W l o o' hl h hc) (fun _ => rfl) I (fun _ _ _ => False)
    (by
      rw [HI1.out]
      rintro s A C row ⟨v, z, hs⟩ hg hr
      exact ⟨v, z, hs.keep hg (fun r e => ⟨by have := (hr r e).1; have := HS0.out; omega, (hr r e).2⟩)⟩)
    (fun c s A C row hs _ _ => hs)
    (by rw [HI1.out]; exact ⟨_, _, hL0⟩) ?_ ?_ ?_
  · rintro ll k x W1 hki hi1 hll hll2
    obtain ⟨f, P⟩ := x
    obtain ⟨hrt, hfk, hpk, hPe⟩ := plcL_at hki
    dsimp only at hfk hpk hPe
    have HRT := hid hrt; have HFK := hid hfk; have HPK := hid hpk; have HPE := hid hPe
    clear hrt hfk hpk hPe hki
    have hi1' := hi1
    rw [HI1.out] at hi1'
    obtain ⟨v1, z1, hst1⟩ := hi1'
    dsimp only [fv]
    gi_wp2_with (fail)
    refine ⟨kf_below (B1 _ _), KeepF.below (B1 _ _) (by have := hst1.bl.size; omega), by rw [HI1.out]; exact ⟨_, _, hst1.on (B1 _ _)⟩, ?_⟩
    rintro W2 hg2 hi2
    rw [HI1.out] at hi2
    obtain ⟨v, z, hst⟩ := hi2
    have hfb : FB W2 W1.heap.size (bs f.nm) f.k f.g := (hg2.block _ (by simp) (by simp; omega)).trans (heap_alloc_new W1 _)
    obtain ⟨q, hq⟩ : ∃ q, q = W1.heap.size := ⟨_, rfl⟩
    rw [← hq] at hfb ⊢
    have HQQ := hid hq
    clear hq
    have hrt := HRT.out; have hfk := HFK.out; have hpk := HPK.out; have hPe := HPE.out
    have hlen : (layP 0 (l.take k)).length ≤ 1000000 := by
      rw [layP_length, List.length_take]; have := right_len hrt; omega
    obtain ⟨v3, w3, hrun, hown, hgr⟩ := run_appI2 hst.ow P hlen hst.az 52
    obtain ⟨A3, n3, cc3, rfl⟩ := hown.shape
    have c0 : W2.cell? ⟨w.heap.size, 0, none⟩ = some v := by rw [row_cell hst.cl]; rfl
    -- behind the append
    have hb3 : Below W2.heap.size W2 (W2.alloc (.cells #[.int .i64 P] 3)) := B1 _ _
    have hrow : ∀ r, v.ownBlock = some r → W0.heap.size ≤ r ∧ ∃ cs, (W2.alloc (.cells #[.int .i64 P] 3)).heap[r]? = some (.cells cs 3 (0, 0)) := fun r e => by
      obtain ⟨h1, cs, h2⟩ := hst.ow.blk2 r e
      exact ⟨h1, cs, (hb3.block _ (row_lt h2)).trans h2⟩
    have hsz3 : W2.heap.size + 1 ≤ w3.heap.size := by have := hgr.size; simpa using this
    have hcl3 : w3.heap[w.heap.size]? = some (.cells #[v] 52 (0, 0)) := (hgr.block _ (by have := row_lt hst.cl; simp; omega) (fun e => by have := (hrow _ e.symm).1; have := HS0.out; omega)).trans ((hb3.block _ (row_lt hst.cl)).trans hst.cl)
    have hce3 : w3.heap[w.heap.size + 1]? = some (.cells #[.int .i64 z] 3 (0, 0)) := (hgr.block _ (by have := row_lt hst.ce; simp; omega) (fun e => by have := (hrow _ e.symm).1; have := HS0.out; omega)).trans ((hb3.block _ (row_lt hst.ce)).trans hst.ce)
    have hfb3 : FB w3 q (bs f.nm) f.k f.g := (hgr.block _ (by have := hfb.lt; simp; omega) (fun e => by
      obtain ⟨_, cs, hc⟩ := hrow _ e.symm
      have h1 := (hb3.block _ (row_lt hfb)).trans hfb
      rw [hc] at h1; cases h1)).trans ((hb3.block _ (row_lt hfb)).trans hfb)
    have hkf3 : KeepsFrom W0.heap.size W2 w3 := (kf_below hb3).trans (kf_grown hgr (fun r e => by obtain ⟨_, cs, hc⟩ := hrow r e; exact ⟨_, _, hc⟩))
    have hkp3 : KeepF w.heap.size W2 w3 := (KeepF.below hb3 (by have := hst.bl.size; omega)).trans (KeepF.grown hgr (fun r e => by obtain ⟨h1, cs, hc⟩ := hrow r e; exact ⟨by have := HS0.out; omega, _, _, hc, by decide⟩) (by have := hst.bl.size; simp; omega))
    obtain ⟨w4, hw4⟩ : ∃ w4, w4 = w3.setCell ⟨w.heap.size, 0, none⟩ (.slice A3 n3 cc3) := ⟨_, rfl⟩
    have fz3 := row_frozen hcl3 0
    have cz3 : w3.cell? ⟨w.heap.size, 0, none⟩ = some v := by rw [row_cell hcl3]; rfl
    have hcl4 : w4.heap[w.heap.size]? = some (.cells #[.slice A3 n3 cc3] 52 (0, 0)) := by rw [hw4]; exact row_set hcl3 0 _
    have hce4 : w4.heap[w.heap.size + 1]? = some (.cells #[.int .i64 z] 3 (0, 0)) := by rw [hw4]; exact (Below.heap_setCell w3 ⟨w.heap.size, 0, none⟩ (.slice A3 n3 cc3) (w.heap.size + 1) (show w.heap.size + 1 ≠ w.heap.size by omega)).trans hce3
    have hqn : q ≠ w.heap.size := by
      intro e; rw [e] at hfb3; have h1 := hfb3; unfold FB at h1; rw [hcl3] at h1; cases h1
    have hfb4 : FB w4 q (bs f.nm) f.k f.g := by rw [hw4]; exact (Below.heap_setCell w3 ⟨w.heap.size, 0, none⟩ (.slice A3 n3 cc3) q hqn).trans hfb3
    have hkf4 : KeepsFrom W0.heap.size W2 w4 := by rw [hw4]; exact hkf3.trans (kf_set hcl3 0 _)
    have hkp4 : KeepF w.heap.size W2 w4 := by rw [hw4]; exact hkp3.trans (KeepF.set hcl3 (Nat.le_refl _) (by decide) 0 _)
    have how4 : OwI w4 W0.heap.size (.slice A3 n3 cc3) (layP 0 (l.take (k + 1))) := by
      rw [hw4, layP_take hfk, ← hPe]; exact hown.set (by have := HS0.out; omega) 0 _
    have HRUN := hid hrun; have HW4 := hid hw4
    have HCE4 := hid hce4; have HCL4 := hid hcl4; have HFB4 := hid hfb4; have HKF4 := hid hkf4; have HKP4 := hid hkp4; have HOW4 := hid how4
    have HST := hid hst
    have hPz := lay_in hrt hfk hpk
    have hlb := layN_bounds hrt
    have hlp := long_pos (right_may hrt f (List.mem_of_getElem? hfk))
    obtain ⟨L, hL⟩ : ∃ L, L = longF f.k f.g := ⟨_, rfl⟩
    have q1 : IntKind.i64.wrap (P + L) = P + L := by
      rw [IntKind.wrap_i64, hL]; have : f.long = longF f.k f.g := rfl; omega
    have HEZ : Hid (P + L = layE 0 (l.take (k + 1))) := by
      show _ = _; rw [layE_take hfk, ← hPe, hL]; rfl
    have HLL := hid hL
    have hfb4' := hfb4
    rw [hw4] at hfb4'
    obtain ⟨g0, g1, g2⟩ := hfb4'.cells
    clear hfb4'
    clear hrun hown hgr hb3 hrow hcl3 hce3 hfb3 hkf3 hkp3 hw4 hcl4 hce4 hfb4 hkf4 hkp4 how4 hst hfb hPz hlb hlp hL hg2 hi1 hst1 hlen hrt hfk hpk hPe hL0 hB0 hit hsz3
    gi_wp2_with (gi_at_builtin; refine wpListIn_app rfl _ _ rfl rfl rfl HRUN.out ?_)
    rw [← HW4.out]
    refine ⟨trivial, calls_in ((klong_any (bs f.nm) f.k f.g w4).mono ?_)⟩
    rintro e w5 ⟨rfl, hb5⟩
    rw [← HLL.out]
    have HB5 := hid hb5
    have hce5 := (hb5.block _ (row_lt HCE4.out)).trans HCE4.out
    have hcl5 := (hb5.block _ (row_lt HCL4.out)).trans HCL4.out
    have fz5 := row_frozen hce5 0
    have cz5 : w5.cell? ⟨w.heap.size + 1, 0, none⟩ = some (.int .i64 z) := by rw [row_cell hce5]; rfl
    have HCE5 := hid hce5; have HCL5 := hid hcl5
    clear hb5 hce5 hcl5 g0 g1 g2 fz3 cz3 c0
    gi_wp2_with (fail)
    have hbl : Below w.heap.size w w5 := (HST.out.bl.trans HKP4.out.1).trans (HB5.out.mono (by have := HST.out.bl.size; have := HKP4.out.1.size; omega))
    refine ⟨(HKF4.out.trans (kf_below HB5.out)).trans (kf_set HCE5.out 0 _), (HKP4.out.trans (KeepF.below HB5.out (by have := HST.out.bl.size; have := HKP4.out.1.size; omega))).trans (KeepF.set HCE5.out (by omega) (by decide) 0 _), ?_⟩
    rw [HI1.out]
    exact ⟨_, P + L, ⟨(Below.heap_setCell w5 ⟨w.heap.size + 1, 0, none⟩ _ w.heap.size (show w.heap.size ≠ w.heap.size + 1 by omega)).trans HCL5.out, row_set HCE5.out 0 _, (HOW4.out.on HB5.out).set (by have := HS0.out; omega) 0 _, HEZ.out, hbl.setCell (p := ⟨w.heap.size + 1, 0, none⟩) (show w.heap.size ≤ w.heap.size + 1 by omega) _, by have := HST.out.az; have := HKP4.out.1.size; have := HB5.out.size; simp; omega⟩⟩
  · rintro D W1 hD hi1 hdf
    rw [HI1.out] at hi1
    obtain ⟨v, z, hst⟩ := hi1
    obtain ⟨A3, n3, cc3, rfl⟩ := hst.ow.shape
    have hzb : 0 ≤ z ∧ z ≤ 1160 := by rw [hst.ez]; exact plc_bd l
    obtain ⟨hz0, hz1⟩ := hzb
    have HST := hid hst
    have HDF := hid hdf
    have HUP : Hid (upI z 8 = layT l) := by show _ = _; rw [up_up8, hst.ez]; exact (plc_end l).2
    have HLE : Hid (layP 0 (l.take (plcL l).length) = layL l) := (plc_end l).1
    clear hst hdf hL0 hit
    gi_wp2_with (fail)
    refine wpIn_wide.2 ?_
    refine reg_begin (by kernel_rfl) (fun w0z hx0z hHeld => ?_)
    have c1 : ∀ w', Ext w0z w' → w'.cell? ⟨w.heap.size, 0, none⟩ = some (.slice A3 n3 cc3) := fun w' h => by rw [row_cell ((HST.out.on (hx0z.trans h)).cl)]; rfl
    have c2 : ∀ w', Ext w0z w' → w'.cell? ⟨w.heap.size + 1, 0, none⟩ = some (.int .i64 z) := fun w' h => by rw [row_cell ((HST.out.on (hx0z.trans h)).ce)]; rfl
    refine reg_take 0 (v := ?vb0) at0 (by kernel_rfl) (by kernel_rfl) (by kernel_rfl) (by rfl) ?hyb0 hHeld ?restb0
    case hyb0 => (intro w' hSw; go_simp; try with_reducible rfl)
    try simp only [Act.put, List.setIfInBounds_toArray, List.set_cons_zero, List.set_cons_succ]
    refine reg_take 1 (v := ?vb1) (atS at0) (by kernel_rfl) (by kernel_rfl) (by kernel_rfl) (by rfl) ?hyb1 hHeld ?restb1
    case hyb1 => (intro w' hSw; go_simp; try with_reducible rfl)
    try simp only [Act.put, List.setIfInBounds_toArray, List.set_cons_zero, List.set_cons_succ]
    refine wpAnyH_ready (rs := [2]) (by kernel_rfl) (by simp) ?_
    refine AllReadyH.cons (atS (atS at0)) (fun K hK => ?_) AllReadyH.nil
    go_simp
    refine (up_any z 8 _ hz0 (by omega) (by omega) (by omega)).mono ?_
    rintro e w5 ⟨rfl, rfl⟩
    rw [HUP.out]
    go_wp2_with fail
    refine hK.out _ _ (Ext.refl _) (fun hHeld => ?_)
    clear hK K
    try simp only [Act.put, List.setIfInBounds_toArray, List.set_cons_zero, List.set_cons_succ]
    refine reg_take 3 (v := ?vb3) (atS (atS (atS at0))) (by kernel_rfl) (by kernel_rfl) (by kernel_rfl) (by rfl) ?hyb3 hHeld ?restb3
    case hyb3 => (intro w' hSw; go_simp; try with_reducible rfl)
    try simp only [Act.put, List.setIfInBounds_toArray, List.set_cons_zero, List.set_cons_succ]
    refine reg_take 4 (v := ?vb4) (atS (atS (atS (atS at0)))) (by kernel_rfl) (by kernel_rfl) (by kernel_rfl) (by rfl) ?hyb4 hHeld ?restb4
    case hyb4 => (intro w' hSw; go_simp; try with_reducible rfl)
    try simp only [Act.put, List.setIfInBounds_toArray, List.set_cons_zero, List.set_cons_succ]
    refine wpAnyH_done (by kernel_rfl) ?_ _
    refine NoPanic.normal ?_
    have hdf3 : w0z.heap[D]? = some (.deferred (some [])) := (Below.block hx0z D (Array.getElem?_eq_some_iff.1 HDF.out).1).trans HDF.out
    gi_wp2_with (fail)
    refine ⟨by simp, .inl ⟨_, _, rfl, run_takeDeferred hdf3, ?_⟩⟩
    refine ⟨_, results_tmp2 rfl _ _ _, _, rfl, ?_, below_put (HST.out.on hx0z).bl (by have := HS0.out; omega) hdf3 rfl⟩
    rw [← HLE.out]
    exact ((HST.out.on hx0z).ow.keep (grownBy_putObj' _ D (.deferred none)) (fun r e => by cases e; exact ⟨_, hdf3, rfl⟩)).less (by have := HS0.out; omega)
  · rintro D c k W1 hD hk hi1 hdf
    exact hi1.elim
end Go.Proofs.YtaegencmnmjgbaaGreat

namespace Go.Proofs.YtaegencmnmjgbaaGreat
open Go.RowKit
set_option linter.unusedVariables false
attribute [local go_sem] Oper.semAt_some
theorem p6new_any {w : World} {A : Option Addr} {n c : Nat} {l : List Fd} (h : RdF w w.heap.size A n c l) (hs : short l) :
    Calls Tryz.prog 91 #[.slice A n c] w fun e w' => ∃ v, e = .returned v ∧ Own w' w.heap.size v (List.replicate (layT l).toNat 0) ∧ Below w.heap.size w w' := by
  have H := hid h; have HS := hid hs; clear h hs
  obtain ⟨hT0, hT1⟩ := layT_bd l
  obtain ⟨T, hT⟩ : ∃ T : Nat, (T : Int) = layT l := ⟨(layT l).toNat, by omega⟩
  have HT : Hid ((layT l).toNat = T) := show _ = _ by omega
  have hT2 : T ≤ 1160 := by omega
  have HTT := hid hT
  clear hT0 hT1 hT
  go_enter Tryz.func91, Tryz.ntmps91
  go_wp2_with fail
  refine (p6layout_any H.out HS.out).mono ?_
  rintro e w1 ⟨v1, rfl, ho1, hb1⟩
  rw [← HTT.out]
  have hm := fun w => run_make8 T (T : Int) rfl (by omega) w
  have HB1 := hid hb1
  clear ho1 hb1
  go_wp2_with fail
  go_ret
  rw [HT.out]
  refine ⟨_, rfl, ?_, Ba HB1.out _⟩
  refine own_row (g := w1.heap.size) (m := T) ?_ HB1.out.size (by simp) (by unfold maxLen; omega)
  have := heap_alloc_new w1 (.cells (zrow T).toArray 5)
  rw [show zrow T = (List.replicate T (0 : UInt8)).map bv by simp [zrow]] at this ⊢
  exact this
end Go.Proofs.YtaegencmnmjgbaaGreat
