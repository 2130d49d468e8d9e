/-
  The program's tables that a change turns: rows of the call's own; add of layer 8.
-/
import Derived.Test.YtaegencmnmjgbaaGreatM36
import Derived.Test.YtaegencmnmjgbaaGreatM35
import Derived.Test.YtaegencmnmjgbaaGreatM28
import Derived.Test.YtaegencmnmjgbaaGreatM34

namespace Go.Proofs.YtaegencmnmjgbaaGreat
open Go.RowKit
set_option linter.unusedVariables false
set_option linter.unusedSimpArgs false
def KeepTy (ty : TypeId) (W W' : World) : Prop := ∀ (b : Nat) (cs : Array Value), W.heap[b]? = some (.cells cs ty (0, 0)) → W'.heap[b]? = some (.cells cs ty (0, 0))
theorem KeepTy.trans {ty : TypeId} {A B C : World} (h : KeepTy ty A B) (k : KeepTy ty B C) : KeepTy ty A C := fun b cs hb => k b cs (h b cs hb)
theorem KeepTy.below {ty : TypeId} {W W' : World} (h : Below W.heap.size W W') : KeepTy ty W W' := fun b cs hb => (h.block b (row_lt hb)).trans hb
theorem KeepTy.set {ty ty2 : TypeId} {W : World} {b : Nat} {cs : Array Value} (hb : W.heap[b]? = some (.cells cs ty2 (0, 0))) (hne : ty2 ≠ ty) (i : Nat) (u : Value) : KeepTy ty W (W.setCell ⟨b, i, none⟩ u) := fun b' cs' h' =>
  (Below.heap_setCell W ⟨b, i, none⟩ u b' (fun e => by
    have e : b' = b := e
    subst e; rw [hb] at h'; cases h'; exact hne rfl)).trans h'
theorem KeepTy.grown {ty ty2 : TypeId} {W W' : World} {row : Option Nat} (hg : W.grownBy W' row) (hr : ∀ r, row = some r → ∃ cs, W.heap[r]? = some (.cells cs ty2 (0, 0))) (hne : ty2 ≠ ty) : KeepTy ty W W' := fun b cs hb =>
  (hg.block b (row_lt hb) (fun e => by obtain ⟨cs2, h2⟩ := hr b e.symm; rw [hb] at h2; cases h2; exact hne rfl)).trans hb
section
variable {W W' : World} {B B2 : Nat} {v v1 v2 v3 : Value} {l : List Fd} {m : List Mv} {T : Tb}
theorem OwF.ty (h : OwF W B v l) (hk : KeepTy 68 W W') : OwF W' B v l := by
  refine ⟨h.1, ?_⟩
  rcases h.2 with h1 | ⟨g, cap, cur, hv, hbase, hg, h3⟩
  · exact .inl h1
  · exact .inr ⟨g, cap, cur, hv, hbase, hk _ _ hg, h3⟩
theorem OwM.ty (h : OwM W B 161 v m) (hk : KeepTy 161 W W') : OwM W' B 161 v m := by
  refine ⟨h.1, ?_⟩
  rcases h.2 with h1 | ⟨g, cap, cur, hv, hbase, hg, h3⟩
  · exact .inl h1
  · exact .inr ⟨g, cap, cur, hv, hbase, hk _ _ hg, h3⟩
structure TS (W : World) (B B2 : Nat) (v1 v2 v3 : Value) (T : Tb) : Prop where
  o : OwF W B v1 T.o
  n : OwF W B2 v2 T.nw
  m : OwM W B 161 v3 T.mv
  b2 : B ≤ B2
  sz : B2 ≤ W.heap.size
  ap : ∀ r, v1.ownBlock = some r → r < B2
theorem OwT.ts (h : OwT W B v T) : ∃ v1 v2 v3 B2, v = .agg #[v1, v2, v3] ∧ TS W B B2 v1 v2 v3 T := by
  obtain ⟨v1, v2, v3, B2, e, h1, h2, h3, h4, h5, h6⟩ := h
  exact ⟨v1, v2, v3, B2, e, h1, h2, h3, h4, h5, h6⟩
theorem TS.owt (h : TS W B B2 v1 v2 v3 T) : OwT W B (.agg #[v1, v2, v3]) T := ⟨v1, v2, v3, B2, rfl, h.o, h.n, h.m, h.b2, h.sz, h.ap⟩
theorem TS.ty (h : TS W B B2 v1 v2 v3 T) (hf : KeepTy 68 W W') (hm : KeepTy 161 W W') (hs : W.heap.size ≤ W'.heap.size) : TS W' B B2 v1 v2 v3 T :=
  ⟨h.o.ty hf, h.n.ty hf, h.m.ty hm, h.b2, Nat.le_trans h.sz hs, h.ap⟩
theorem TS.on (h : TS W B B2 v1 v2 v3 T) (hb : Below W.heap.size W W') : TS W' B B2 v1 v2 v3 T := h.ty (KeepTy.below hb) (KeepTy.below hb) hb.size
theorem TS.box {q : Nat} {u1 u2 u3 : Value} (h : TS W B B2 v1 v2 v3 T) (hq : TBx W q u1 u2 u3 92) (i : Nat) (u : Value) : TS (W.setCell ⟨q, i, none⟩ u) B B2 v1 v2 v3 T :=
  h.ty (KeepTy.set hq (by decide) i u) (KeepTy.set hq (by decide) i u) (by simp)
theorem TS.box3 {q : Nat} {u1 u2 u3 : Value} (h : TS W B B2 v1 v2 v3 T) (hq : TBx W q u1 u2 u3 92) (x1 x2 x3 : Value) : TS (((W.setCell ⟨q, 0, none⟩ x1).setCell ⟨q, 1, none⟩ x2).setCell ⟨q, 2, none⟩ x3) B B2 v1 v2 v3 T :=
  ((h.box hq 0 x1).box (hq.set0 x1) 1 x2).box ((hq.set0 x1).set1 x2) 2 x3
theorem TS.newF {v2' : Value} {l' : List Fd} (h : TS W B B2 v1 v2 v3 T) (hg : W.grownBy W' v2.ownBlock) (ho : OwF W' B2 v2' l') : TS W' B B2 v1 v2' v3 ⟨T.o, l', T.mv⟩ :=
  ⟨by
    refine ⟨h.o.1, ?_⟩
    rcases h.o.2 with h1 | ⟨g, cap, cur, hv, hbase, hgg, h3⟩
    · exact .inl h1
    · refine .inr ⟨g, cap, cur, hv, hbase, (hg.block g (row_lt hgg) (fun e => ?_)).trans hgg, h3⟩
      have h1 := (h.n.blk2 g e.symm).1
      have h2 := h.ap g (by rw [hv]; simp [Value.ownBlock])
      omega,
   ho, h.m.ty (KeepTy.grown hg (fun r e => (h.n.blk2 r e).2) (by decide)), h.b2, Nat.le_trans h.sz hg.size, h.ap⟩
theorem TS.newM {v3' : Value} {l' : List Mv} (h : TS W B B2 v1 v2 v3 T) (hg : W.grownBy W' v3.ownBlock) (ho : OwM W' B 161 v3' l') : TS W' B B2 v1 v2 v3' ⟨T.o, T.nw, l'⟩ :=
  ⟨h.o.ty (KeepTy.grown hg (fun r e => (h.m.blk2 r e).2) (by decide)), h.n.ty (KeepTy.grown hg (fun r e => (h.m.blk2 r e).2) (by decide)), ho, h.b2, Nat.le_trans h.sz hg.size, h.ap⟩
theorem TS.belowF (h : TS W B B2 v1 v2 v3 T) {w : World} (hb : Below B w W) (hw : B ≤ W.heap.size) (hg : W.grownBy W' v2.ownBlock) : Below B w W' := hb.grown hg hw (fun j e => Nat.le_trans h.b2 (h.n.blk2 j e).1)
theorem TS.belowM (h : TS W B B2 v1 v2 v3 T) {w : World} (hb : Below B w W) (hw : B ≤ W.heap.size) (hg : W.grownBy W' v3.ownBlock) : Below B w W' := hb.grown hg hw (fun j e => (h.m.blk2 j e).1)
theorem TBx.byF {q : Nat} {u1 u2 u3 : Value} (hq : TBx W q u1 u2 u3 92) (h : TS W B B2 v1 v2 v3 T) (hg : W.grownBy W' v2.ownBlock) : TBx W' q u1 u2 u3 92 :=
  (KeepTy.grown hg (fun r e => (h.n.blk2 r e).2) (by decide)) q _ hq
theorem TBx.byM {q : Nat} {u1 u2 u3 : Value} (hq : TBx W q u1 u2 u3 92) (h : TS W B B2 v1 v2 v3 T) (hg : W.grownBy W' v3.ownBlock) : TBx W' q u1 u2 u3 92 :=
  (KeepTy.grown hg (fun r e => (h.m.blk2 r e).2) (by decide)) q _ hq
theorem TS.shapes (h : TS W B B2 v1 v2 v3 T) : (∃ A n c, v1 = .slice A n c) ∧ (∃ A n c, v2 = .slice A n c) ∧ ∃ A n c, v3 = .slice A n c := ⟨h.o.shape, h.n.shape, h.m.shape⟩
end
def BK (w : World) (B : Nat) (W : World) : Prop := Below B w W ∧ KeepTy 92 w W
theorem KeepTy.setN {ty : TypeId} {w W : World} (h : KeepTy ty w W) {p : Nat} (hp : w.heap.size ≤ p) (i : Nat) (u : Value) : KeepTy ty w (W.setCell ⟨p, i, none⟩ u) := fun b cs hb =>
  (Below.heap_setCell W ⟨p, i, none⟩ u b (show b ≠ p by have := row_lt hb; omega)).trans (h b cs hb)
section
variable {w W W' : World} {B B2 : Nat} {v1 v2 v3 : Value} {T : Tb}
theorem BK.start (hb : Below w.heap.size w W) (hB : B ≤ w.heap.size) : BK w B W := ⟨hb.mono hB, KeepTy.below hb⟩
theorem BK.on (h : BK w B W) (hB : B ≤ W.heap.size) (hb : Below W.heap.size W W') : BK w B W' := ⟨h.1.trans (hb.mono hB), h.2.trans (KeepTy.below hb)⟩
theorem BK.setN (h : BK w B W) {p : Nat} (hp : B ≤ w.heap.size ∧ w.heap.size ≤ p) (i : Nat) (u : Value) : BK w B (W.setCell ⟨p, i, none⟩ u) := ⟨h.1.setCell (p := ⟨p, i, none⟩) (Nat.le_trans hp.1 hp.2) u, h.2.setN hp.2 i u⟩
theorem BK.set3 (h : BK w B W) {p : Nat} (hp : B ≤ w.heap.size ∧ w.heap.size ≤ p) (x y z : Value) : BK w B (((W.setCell ⟨p, 0, none⟩ x).setCell ⟨p, 1, none⟩ y).setCell ⟨p, 2, none⟩ z) := ((h.setN hp 0 x).setN hp 1 y).setN hp 2 z
theorem TS.bkF (h : TS W B B2 v1 v2 v3 T) (k : BK w B W) (hg : W.grownBy W' v2.ownBlock) : BK w B W' := ⟨h.belowF k.1 (Nat.le_trans h.b2 h.sz) hg, k.2.trans (KeepTy.grown hg (fun r e => (h.n.blk2 r e).2) (by decide))⟩
theorem TS.bkM (h : TS W B B2 v1 v2 v3 T) (k : BK w B W) (hg : W.grownBy W' v3.ownBlock) : BK w B W' := ⟨h.belowM k.1 (Nat.le_trans h.b2 h.sz) hg, k.2.trans (KeepTy.grown hg (fun r e => (h.m.blk2 r e).2) (by decide))⟩
end
def vlV (k n : Int) (t : ByteArray) : Value := .agg #[.int .i64 k, .int .u64 n, .string t]
def DeedQ (w : World) (B : Nat) (T : Tb) (E : Int) (e : Ending) (w' : World) : Prop := ∃ v, e = .returned (.tuple #[v, .int .i64 E]) ∧ OwT w' B v T ∧ BK w B w'
theorem OwT.none (w : World) (B : Nat) (hB : B ≤ w.heap.size) : OwT w B (.agg #[.slice none 0 0, .slice none 0 0, .slice none 0 0]) Tb.none := ⟨_, _, _, B, rfl, OwF.nil _ _, OwF.nil _ _, OwM.nil _ _ _, Nat.le_refl _, hB, fun r e => by simp [Value.ownBlock] at e⟩
set_option maxRecDepth 20000 in
set_option maxHeartbeats 8000000 in
theorem add_any {w : World} {B : Nat} {v : Value} {T : Tb} (h : OwT w B v T) (hl : T.nw.length ≤ 1000 ∧ T.mv.length ≤ 1000) (f : Fd) (k n : Int) (t : ByteArray) :
    Calls Tryz.prog 172 #[v, fdV f, vlV k n t] w (DeedQ w B ⟨T.o, T.nw ++ [f], T.mv ++ [⟨-1, k, n, t⟩]⟩ 0) := by
  obtain ⟨v1, v2, v3, B2, rfl, hts⟩ := h.ts
  have hBw : B ≤ w.heap.size := Nat.le_trans hts.b2 hts.sz
  obtain ⟨w0, hw0⟩ : ∃ w0, w0 = (((w.alloc (.cells #[v1, v2, v3] 92)).alloc (.cells #[.string (bs f.nm), .int .i64 f.k, .int .i64 f.g] 68)).alloc (.cells #[.int .i64 k, .int .u64 n, .string t] 71)).alloc (.cells #[.slice none 0 0, .slice none 0 0, .slice none 0 0] 92) := ⟨_, rfl⟩
  obtain ⟨p0, hp0⟩ : ∃ p0, p0 = w.heap.size := ⟨_, rfl⟩
  obtain ⟨p1, hp1⟩ : ∃ p1, p1 = w.heap.size + 1 := ⟨_, rfl⟩
  obtain ⟨p2, hp2⟩ : ∃ p2, p2 = w.heap.size + 1 + 1 := ⟨_, rfl⟩
  obtain ⟨p3, hp3⟩ : ∃ p3, p3 = w.heap.size + 1 + 1 + 1 := ⟨_, rfl⟩
  have HW0 := hid hw0; have HP0 := hid hp0; have HP1 := hid hp1; have HP2 := hid hp2; have HP3 := hid hp3
  have HB0 : Hid (Below w.heap.size w w0) := by rw [hw0]; exact hid (Ba (Ba (Ba (B1 _ _) _) _) _)
  have HT0 : Hid (TBx w0 p0 v1 v2 v3 92) := by rw [hw0, hp0]; exact hid ((((tb_new w _ _ _ _).on (B1 _ _)).on (B1 _ _)).on (B1 _ _))
  have HF0 : Hid (FB w0 p1 (bs f.nm) f.k f.g) := by rw [hw0, hp1]; exact hid (((fb_new2 w _ _ _ _).on (B1 _ _)).on (B1 _ _))
  have HV0 : Hid (VB w0 p2 k n t) := by
    rw [hw0, hp2]
    have := (vb_new ((w.alloc (.cells #[v1, v2, v3] 92)).alloc (.cells #[.string (bs f.nm), .int .i64 f.k, .int .i64 f.g] 68)) k n t).on (B1 _ (.cells #[.slice none 0 0, .slice none 0 0, .slice none 0 0] 92))
    simpa only [World.size_alloc] using hid this
  have HZ0 : Hid (TBx w0 p3 (.slice none 0 0) (.slice none 0 0) (.slice none 0 0) 92) := by
    have e : p3 = (((w.alloc (.cells #[v1, v2, v3] 92)).alloc (.cells #[.string (bs f.nm), .int .i64 f.k, .int .i64 f.g] 68)).alloc (.cells #[.int .i64 k, .int .u64 n, .string t] 71)).heap.size := by rw [hp3]; simp
    rw [hw0, e]; exact hid (tb_new _ _ _ _ _)
  have hts0 := hts.on HB0.out
  have hB0 : BK w B w0 := BK.start HB0.out hBw
  -- the field
  obtain ⟨v2', w1, hrun, hown, hgr⟩ := run_appFd2 hts0.n f (by omega) hts0.sz 32
  have ba := B1 w0 (.cells #[.string (bs f.nm), .int .i64 f.k, .int .i64 f.g] 68)
  have hts1 := (hts0.on ba).newF hgr hown
  have hB1 : BK w B w1 := (hts0.on ba).bkF (hB0.on (Nat.le_trans hts0.b2 hts0.sz) ba) hgr
  have HT1 := hid (((HT0.out.on ba)).byF (hts0.on ba) hgr)
  have HZ1 := hid (((HZ0.out.on ba)).byF (hts0.on ba) hgr)
  have HV1 : Hid (VB w1 p2 k n t) := hid ((KeepTy.grown hgr (fun r e => ((hts0.on ba).n.blk2 r e).2) (by decide)) p2 _ (HV0.out.on ba))
  obtain ⟨W1, hW1⟩ : ∃ W1, W1 = w1.setCell ⟨p0, 1, none⟩ v2' := ⟨_, rfl⟩
  have HTW1 : Hid (TBx W1 p0 v1 v2' v3 92) := by rw [hW1]; exact hid (HT1.out.set1 _)
  have HZW1 : Hid (TBx W1 p3 (.slice none 0 0) (.slice none 0 0) (.slice none 0 0) 92) := by rw [hW1]; exact hid (HZ1.out.other (by omega) _ _)
  have HVW1 : Hid (VB W1 p2 k n t) := by rw [hW1]; exact hid ((KeepTy.set HT1.out (by decide) 1 v2') p2 _ HV1.out)
  have htw1 : TS W1 B B2 v1 v2' v3 ⟨T.o, T.nw ++ [f], T.mv⟩ := by rw [hW1]; exact hts1.box HT1.out 1 v2'
  have hBW1 : BK w B W1 := by rw [hW1]; exact hB1.setN ⟨hBw, by omega⟩ 1 _
  -- the move
  obtain ⟨v3', w2, hrun2, hown2, hgr2⟩ := run_appMv Tryz.underlying90 infoMp htw1.m ⟨-1, k, n, t⟩ (by show T.mv.length ≤ _; omega) (Nat.le_trans htw1.b2 htw1.sz) 90
  have ba2 := B1 W1 (.cells #[.int .i64 (-1), .int .i64 k, .int .u64 n, .string t] 161)
  have hts2 := (htw1.on ba2).newM hgr2 hown2
  have hB2 : BK w B w2 := (htw1.on ba2).bkM (hBW1.on (Nat.le_trans htw1.b2 htw1.sz) ba2) hgr2
  have HT2 := hid (((HTW1.out.on ba2)).byM (htw1.on ba2) hgr2)
  have HZ2 := hid (((HZW1.out.on ba2)).byM (htw1.on ba2) hgr2)
  obtain ⟨W2, hW2⟩ : ∃ W2, W2 = w2.setCell ⟨p0, 2, none⟩ v3' := ⟨_, rfl⟩
  have HTW2 : Hid (TBx W2 p0 v1 v2' v3' 92) := by rw [hW2]; exact hid (HT2.out.set2 _)
  have HZW2 : Hid (TBx W2 p3 (.slice none 0 0) (.slice none 0 0) (.slice none 0 0) 92) := by rw [hW2]; exact hid (HZ2.out.other (by omega) _ _)
  have HTS2 : Hid (TS W2 B B2 v1 v2' v3' ⟨T.o, T.nw ++ [f], T.mv ++ [⟨-1, k, n, t⟩]⟩) := by rw [hW2]; exact hid (hts2.box HT2.out 2 v3')
  have HBW2 : Hid (BK w B W2) := by rw [hW2]; exact hid (hB2.setN ⟨hBw, by omega⟩ 2 _)
  have HP3B : Hid (B ≤ w.heap.size ∧ w.heap.size ≤ p3) := hid (by omega)
  obtain ⟨⟨A, n1, c1, rfl⟩, ⟨A2, n2, c2, rfl⟩, ⟨A3, n3, c3, rfl⟩⟩ := hts.shapes
  obtain ⟨A4, n4, c4, rfl⟩ := hown.shape
  obtain ⟨A5, n5, c5, rfl⟩ := hown2.shape
  have HRUN := hid hrun; have HRUN2 := hid hrun2; have HWW1 := hid hW1; have HWW2 := hid hW2
  clear h hts hw0 hp0 hp1 hp2 hp3 hts0 hB0 hrun hown hgr ba hts1 hB1 hW1 htw1 hBW1 hrun2 hown2 hgr2 ba2 hts2 hB2 hW2 hl
  obtain ⟨a0, a1, a2⟩ := HT0.out.cells
  obtain ⟨f0, f1, f2⟩ := HF0.out.cells
  have fz1 := HT1.out.frozen 1
  have d1 := HT1.out.cells.2.1
  obtain ⟨b0, b1, b2⟩ := HTW1.out.cells
  obtain ⟨g0, g1, g2⟩ := HVW1.out.cells
  have fz2 := HT2.out.frozen 2
  have d2 := HT2.out.cells.2.2
  obtain ⟨e0, e1, e2⟩ := HTW2.out.cells
  obtain ⟨z0, z1, z2⟩ := HZW2.out.cells
  have y0 := HZW2.out.frozen 0; have y1 := HZW2.out.frozen 1; have y2 := HZW2.out.frozen 2
  unfold fdV vlV
  go_enter Tryz.func172, Tryz.ntmps172
  go_upto_region 1 with fail
  rw [← HW0.out, ← HP3.out, ← HP2.out, ← HP1.out, ← HP0.out]
  go_upto_region 2 with (at_builtin; refine wpList_appG rfl _ _ rfl rfl rfl HRUN.out ?_)
  rw [← HWW1.out]
  go_upto_region 3 with (at_builtin; refine wpList_appG rfl _ _ rfl rfl rfl HRUN2.out ?_)
  rw [← HWW2.out]
  go_wp2_with fail
  exact ret_TBpe (by rfl) (by rfl) (HZW2.out.set3 _ _ _) (by rfl) (by rfl) ⟨_, rfl, (HTS2.out.box3 HZW2.out _ _ _).owt, HBW2.out.set3 HP3B.out _ _ _⟩
end Go.Proofs.YtaegencmnmjgbaaGreat
