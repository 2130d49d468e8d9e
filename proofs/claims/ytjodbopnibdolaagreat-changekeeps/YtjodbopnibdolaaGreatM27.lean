/-
  reorder of layer 8.
  What each Op does, as a closure, of layer 8.
-/
import Derived.Test.YtjodbopnibdolaaGreatM25
import Derived.Test.YtjodbopnibdolaaGreatM26
import Derived.Deep.RegionLaw

namespace Go.Proofs.YtjodbopnibdolaaGreat
open Go.RowKit
set_option linter.unusedVariables false
set_option linter.unusedSimpArgs false

/-- append at a step of a region, by its run's equation. -/
theorem step_appG {w w' : World} {o : Oper} {a : Act} {K : Act → World → Prop} {Q : Exit → Act → World → Prop} {E : Prop} {y : Nat → Option Bool} {v v' u : Value} {t1 t2 : TypeId} (hgd : o.guard = none) (s x : Operand)
    (hop : o.op = .call { callee := .builtin .append, args := #[s, x], argTypes := #[t1, t2] }) (hs : a.eval s = v) (hx : a.eval x = u)
    (hrun : (Builtin.append_ #[t1, t2] o.type #[v, u]).run Tryz.prog w = .ok v' w') (hk : K (a.put o.dst v') w') :
    if Region.wanted o y = true then Oper.wp Tryz.prog o a w K Q else E := by
  simp only [Region.wanted, hgd, if_true]
  unfold Oper.wp execOp
  simp only [hop, resolve, invoke, builtin, Sem.run_bind, Sem.run_pure, Result.andThen_ok, List.map_toArray, List.map_cons, List.map_nil, hs, hx, hrun]
  exact hk

def mvAt (l : List Mv) (i : Int) : Option Mv := if 0 ≤ i then l[i.toNat]? else none
def odMv (l : List Mv) (od : List Int) : List Mv := od.filterMap fun i => mvAt l i
def ordR (T : Tb) (od : List Int) : Tb × Int := if allB od T.nw.length then (⟨T.o, odF T.nw od, odMv T.mv od⟩, 0) else (Tb.none, 80)
theorem odF_take {l : List Fd} {od : List Int} {k : Nat} {x : Int} {f : Fd} (hx : od[k]? = some x) (hf : fdAt l x = some f) : odF l (od.take (k + 1)) = odF l (od.take k) ++ [f] := by
  unfold odF; rw [List.take_add_one, hx, List.filterMap_append]; simp [hf]
theorem odMv_take {l : List Mv} {od : List Int} {k : Nat} {x : Int} {f : Mv} (hx : od[k]? = some x) (hf : mvAt l x = some f) : odMv l (od.take (k + 1)) = odMv l (od.take k) ++ [f] := by
  unfold odMv; rw [List.take_add_one, hx, List.filterMap_append]; simp [hf]
theorem odF_le (l : List Fd) (od : List Int) : (odF l od).length ≤ od.length := List.length_filterMap_le _ _
theorem odMv_le (l : List Mv) (od : List Int) : (odMv l od).length ≤ od.length := List.length_filterMap_le _ _

/-- The table under way. -/
structure RoSt (w W : World) (q : Nat) (s v2 v3 : Value) (lf : List Fd) (lm : List Mv) : Prop where
  tb : TBx W q s v2 v3 36
  f : OwF W (q + 1) v2 lf
  m : OwM W (q + 1) 61 v3 lm
  bl : Below q w W
  lt : q + 1 ≤ W.heap.size
  kt : KeepTy 36 w W
  wq : w.heap.size ≤ q
section
variable {w W W' : World} {q : Nat} {s v2 v3 v' : Value} {lf lf' : List Fd} {lm lm' : List Mv}
theorem RoSt.on (h : RoSt w W q s v2 v3 lf lm) (hb : Below W.heap.size W W') : RoSt w W' q s v2 v3 lf lm :=
  ⟨h.tb.on hb, h.f.on hb, h.m.on hb, h.bl.trans (hb.mono (by have := h.lt; omega)), Nat.le_trans h.lt hb.size, h.kt.trans (KeepTy.below hb), h.wq⟩
theorem RoSt.appF (h : RoSt w W q s v2 v3 lf lm) (hg : W.grownBy W' v2.ownBlock) (ho : OwF W' (q + 1) v' lf') : RoSt w (W'.setCell ⟨q, 1, none⟩ v') q s v' v3 lf' lm :=
  have ht : TBx W' q s v2 v3 36 := (KeepTy.grown hg (fun r e => (h.f.blk2 r e).2) (by decide)) q _ h.tb
  ⟨ht.set1 v', ho.set (by omega) 1 _, (h.m.ty (KeepTy.grown hg (fun r e => (h.f.blk2 r e).2) (by decide))).set (by omega) 1 _,
    (h.bl.grown hg (by have := h.lt; omega) (fun j e => by have := (h.f.blk2 j e).1; omega)).setCell (p := ⟨q, 1, none⟩) (Nat.le_refl _) _, by simp only [size_set]; exact Nat.le_trans h.lt hg.size, (h.kt.trans (KeepTy.grown hg (fun r e => (h.f.blk2 r e).2) (by decide))).setN h.wq 1 _, h.wq⟩
theorem RoSt.appM (h : RoSt w W q s v2 v3 lf lm) (hg : W.grownBy W' v3.ownBlock) (ho : OwM W' (q + 1) 61 v' lm') : RoSt w (W'.setCell ⟨q, 2, none⟩ v') q s v2 v' lf lm' :=
  have ht : TBx W' q s v2 v3 36 := (KeepTy.grown hg (fun r e => (h.m.blk2 r e).2) (by decide)) q _ h.tb
  ⟨ht.set2 v', (h.f.ty (KeepTy.grown hg (fun r e => (h.m.blk2 r e).2) (by decide))).set (by omega) 2 _, ho.set (by omega) 2 _,
    (h.bl.grown hg (by have := h.lt; omega) (fun j e => by have := (h.m.blk2 j e).1; omega)).setCell (p := ⟨q, 2, none⟩) (Nat.le_refl _) _, by simp only [size_set]; exact Nat.le_trans h.lt hg.size, (h.kt.trans (KeepTy.grown hg (fun r e => (h.m.blk2 r e).2) (by decide))).setN h.wq 2 _, h.wq⟩
end
theorem below_drew {B : Nat} {a b : World} (h : Below B a b) : Below B a b.drew := Bd h 1

set_option maxRecDepth 20000 in
set_option maxHeartbeats 12000000 in
theorem reorder_any {w : World} {B : Nat} {v : Value} {T : Tb} (h : OwT w B v T) (hl : T.nw.length ≤ 1000 ∧ T.mv.length = T.nw.length) (hf : okF T.nw) (hm : ∀ m ∈ T.mv, I64 m.fr ∧ I64 m.k ∧ U64 m.n)
    {A : Option Addr} {n cp : Nat} {od : List Int} (ho : RdI w w.heap.size A n cp od) :
    Calls Tryz.prog 66 #[v, .slice A n cp] w (DeedQ w B (ordR T od).1 (ordR T od).2) := by
  obtain ⟨v1, v2, v3, B2, rfl, hts⟩ := h.ts
  have hBw : B ≤ w.heap.size := Nat.le_trans hts.b2 hts.sz
  obtain ⟨w0, hw0⟩ : ∃ w0, w0 = (w.alloc (.cells #[v1, v2, v3] 36)).alloc (.cells #[.slice none 0 0, .slice none 0 0, .slice none 0 0] 36) := ⟨_, rfl⟩
  obtain ⟨p0, hp0⟩ : ∃ p0, p0 = w.heap.size := ⟨_, rfl⟩
  obtain ⟨p1, hp1⟩ : ∃ p1, p1 = w.heap.size + 1 := ⟨_, rfl⟩
  have HW0 := hid hw0; have HP0 := hid hp0; have HP1 := hid hp1
  have HB0 : Hid (Below w.heap.size w w0) := by rw [hw0]; exact hid (Ba (B1 _ _) _)
  have HT0 : Hid (TBx w0 p0 v1 v2 v3 36) := by rw [hw0, hp0]; exact hid ((tb_new w _ _ _ _).on (B1 _ _))
  have HZ0 : Hid (TBx w0 p1 (.slice none 0 0) (.slice none 0 0) (.slice none 0 0) 36) := by
    rw [hw0, hp1, ← World.size_alloc w (.cells #[v1, v2, v3] 36)]; exact hid (tb_new _ _ _ _ _)
  have HTS0 := hid (hts.on HB0.out)
  have HO0 := hid (ho.on HB0.out)
  have HBB0 : Hid (BK w B w0) := hid (BK.start HB0.out hBw)
  have HBP : Hid ((B ≤ w.heap.size ∧ w.heap.size ≤ p0) ∧ (B ≤ w.heap.size ∧ w.heap.size ≤ p1) ∧ p1 ≠ p0) := hid (by omega)
  have HL := hid hl
  obtain ⟨⟨A1, n1, c1, rfl⟩, ⟨A2, n2, c2, rfl⟩, ⟨A3, n3, c3, rfl⟩⟩ := hts.shapes
  have HRF : Hid (RdF w0 w0.heap.size A2 n2 c2 T.nw) := by
    obtain ⟨A', c', e, hr⟩ := HTS0.out.n.rd hf
    cases e; exact hid hr
  have HRM : Hid (RdM w0 w0.heap.size A3 n3 c3 T.mv) := by
    obtain ⟨A', c', e, hr⟩ := HTS0.out.m.rd hm
    cases e; exact hid hr
  have HN2 : Hid (T.nw.length = n2) := hid HRF.out.1
  have HN3 : Hid (T.mv.length = n3) := hid HRM.out.1
  have HOL : Hid (od.length = n) := hid ho.1
  have hnm : (n : Int) ≤ 9223372036854775807 := by have := Nat.le_trans ho.2.1 ho.2.2.1; unfold maxLen at this; omega
  obtain ⟨a0, a1, a2⟩ := HT0.out.cells
  clear h hts hw0 hp0 hp1 hf hm hl hBw ho
  go_enter Tryz.func66, Tryz.ntmps66
  go_upto_region 1 with fail
  rw [← HW0.out, ← HP1.out, ← HP0.out]
  go_wp2_with fail
  refine (isorder_any HO0.out n2 (by have := HL.out; have := HN2.out; omega)).mono ?_
  rintro e w1 ⟨rfl, hb1⟩
  have HTS1 := hid (HTS0.out.on hb1)
  have HT1 := hid (HT0.out.on hb1)
  have HZ1 := hid (HZ0.out.on hb1)
  have HB1 : Hid (BK w B w1) := hid (HBB0.out.on (Nat.le_trans HTS0.out.b2 HTS0.out.sz) hb1)
  have HRF1 := hid (HRF.out.on hb1); have HRM1 := hid (HRM.out.on hb1); have HO1 := hid (HO0.out.on hb1)
  clear hb1 a0 a1 a2
  obtain ⟨a0, a1, a2⟩ := HT1.out.cells
  obtain ⟨z0, z1, z2⟩ := HZ1.out.cells
  have y0 := HZ1.out.frozen 0; have y1 := HZ1.out.frozen 1; have y2 := HZ1.out.frozen 2
  cases hab : allB od n2 with
  | false =>
    have HE : Hid (ordR T od = (Tb.none, 80)) := hid (by unfold ordR; rw [HN2.out, hab]; rfl)
    clear hab
    go_wp2_with fail
    rw [HE.out]
    exact ret_TBpe (by rfl) (by rfl) (HZ1.out.set3 _ _ _) (by rfl) (by rfl) ⟨_, rfl, OwT.none _ _ (by simp only [size_set]; exact Nat.le_trans HTS1.out.b2 HTS1.out.sz), HB1.out.set3 HBP.out.2.1 _ _ _⟩
  | true =>
    have HE : Hid (ordR T od = (⟨T.o, odF T.nw od, odMv T.mv od⟩, 0)) := hid (by unfold ordR; rw [HN2.out, hab]; rfl)
    have HMEM := hid (allB_mem hab)
    have HNN : Hid (n = n2) := hid (by have := (allB_iff.1 hab).1; have := HOL.out; omega)
    clear hab
    obtain ⟨q, hq⟩ : ∃ q, q = w1.heap.size := ⟨_, rfl⟩
    obtain ⟨w2, hw2⟩ : ∃ w2, w2 = w1.alloc (.cells #[.slice A1 n1 c1, .slice none 0 0, .slice none 0 0] 36) := ⟨_, rfl⟩
    have HQ := hid hq; have HW2 := hid hw2
    have HR0 : Hid (RoSt w1 w2 q (.slice A1 n1 c1) (.slice none 0 0) (.slice none 0 0) (odF T.nw (od.take 0)) (odMv T.mv (od.take 0))) := by
      rw [hw2, hq]; exact hid ⟨tb_new _ _ _ _ _, OwF.nil _ _, OwM.nil _ _ _, B1 _ _, by simp, KeepTy.below (B1 _ _), Nat.le_refl _⟩
    clear hq hw2
    go_upto_region 4 with fail
    rw [← HW2.out, ← HQ.out]
    clear a0 a1 a2 z0 z1 z2 y0 y1 y2
    go_wp2_with fail
    go_loopw [21] (fun i wr => ∃ k : Nat, k ≤ n ∧ i = .int .i64 k ∧ Hid (∃ u2 u3, RoSt w1 wr q (.slice A1 n1 c1) u2 u3 (odF T.nw (od.take k)) (odMv T.mv (od.take k)))) (fun i _ => n - (intOf i).toNat)
    case atStart => exact ⟨0, Nat.zero_le _, rfl, hid ⟨_, _, HR0.out⟩⟩
    case round =>
      obtain ⟨k, hk, rfl, ⟨u2, u3, hs⟩⟩ := hrel
      have HS := hid hs
      have HBL : Hid (Below w1.heap.size w1 wr) := hid (hs.bl.mono (Nat.le_of_eq HQ.out.symm))
      obtain ⟨a0, a1, a2⟩ := (HT1.out.on HBL.out).cells
      obtain ⟨b0, b1, b2⟩ := hs.tb.cells
      clear hs
      by_cases hlt : k < n
      · obtain ⟨x, hx⟩ : ∃ x, od[k]? = some x := ⟨_, List.getElem?_eq_getElem (by have := HOL.out; omega)⟩
        obtain ⟨hx0, hx1⟩ := HMEM.out x (List.mem_of_getElem? hx)
        obtain ⟨f, hf⟩ : ∃ f, T.nw[x.toNat]? = some f := ⟨_, List.getElem?_eq_getElem (by have := HN2.out; omega)⟩
        obtain ⟨m, hm⟩ : ∃ m, T.mv[x.toNat]? = some m := ⟨_, List.getElem?_eq_getElem (by have := HN2.out; have := HL.out.2; omega)⟩
        obtain ⟨_, _, ob, ooff, rfl, hoc⟩ := HO1.out.at hx
        obtain ⟨hxn, _, _, _, fb, foff, rfl, hfc⟩ := HRF1.out.at hf
        obtain ⟨hxm, _, _, _, mb, moff, rfl, hmc⟩ := HRM1.out.at hm
        have o0 := hoc wr HBL.out
        obtain ⟨g0, g1, g2⟩ := hfc wr HBL.out
        have HMC := hid hmc
        have HX := hid hx
        have HXT : Hid (((x.toNat : Nat) : Int) = x) := hid (Int.toNat_of_nonneg hx0)
        have hki : (k : Int) < n := by omega
        have hk0 : (0 : Int) ≤ k := by omega
        have hx2 : x < (n2 : Int) := hx1
        have hx3 : x < (n3 : Int) := by have := HN3.out; have := HN2.out; have := HL.out.2; omega
        have HFA : Hid (fdAt T.nw x = some f) := hid (by unfold fdAt; rw [if_pos hx0, hf])
        have HMA : Hid (mvAt T.mv x = some m) := hid (by unfold mvAt; rw [if_pos hx0, hm])
        have HK : Hid ((od.take k).length ≤ 1000) := hid (by rw [List.length_take]; have := HNN.out; have := HN2.out; have := HL.out.1; omega)
        clear hoc hfc hmc hf hm hx
        have hsd := HS.out.on (below_drew (B0 wr))
        obtain ⟨u2', w3, hrun, hown, hgr⟩ := run_appFd2 hsd.f f (Nat.le_trans (odF_le _ _) (Nat.le_trans HK.out (by omega))) hsd.lt 22
        have hro := (hsd.on (B1 wr.drew (.cells #[.string (bs f.nm), .int .i64 f.k, .int .i64 f.g] 29))).appF hgr hown
        rw [← odF_take HX.out HFA.out] at hro
        have htb3 : TBx w3 q (.slice A1 n1 c1) u2 u3 36 := (KeepTy.grown hgr (fun r e => ((hsd.on (B1 wr.drew (.cells #[.string (bs f.nm), .int .i64 f.k, .int .i64 f.g] 29))).f.blk2 r e).2) (by decide)) q _ (hsd.on (B1 wr.drew (.cells #[.string (bs f.nm), .int .i64 f.k, .int .i64 f.g] 29))).tb
        have fz := htb3.frozen 1
        have d1 := htb3.cells.2.1
        obtain ⟨A4, n4, c4, rfl⟩ := hown.shape
        have HRUN : Hid ((Builtin.append_ #[22, 22] 22 #[u2, .slice (some ⟨wr.heap.size, 0, none⟩) 1 1]).run Tryz.prog (wr.alloc (.cells #[.string (bs f.nm), .int .i64 f.k, .int .i64 f.g] 29)).drew = .ok (.slice A4 n4 c4) w3) := hid hrun
        have HRO := hid hro
        have b1' : (wr.alloc (.cells #[.string (bs f.nm), .int .i64 f.k, .int .i64 f.g] 29)).cell? ⟨q, 1, none⟩ = some u2 := (HS.out.on (B1 _ _)).tb.cells.2.1
        clear hrun hown hgr hro htb3 hsd
        go_upto_region 7 with fail
        go_region_law (refine step_appG rfl (.tmp 26) (.tmp 32) rfl (by rfl) (by rfl) HRUN.out ?_)
        all_goals
          obtain ⟨W3, hW3⟩ : ∃ W3, W3 = w3.setCell ⟨q, 1, none⟩ (.slice A4 n4 c4) := ⟨_, rfl⟩
          rw [← hW3]
          rw [← hW3] at HRO
          have HBL3 : Hid (Below w1.heap.size w1 W3) := hid (HRO.out.bl.mono (Nat.le_of_eq HQ.out.symm))
          clear hW3 a0 a1 a2 b0 b1 b2 o0 g0 g1 g2 fz d1 b1'
          obtain ⟨a0, a1, a2⟩ := (HT1.out.on HBL3.out).cells
          obtain ⟨b0, b1, b2⟩ := HRO.out.tb.cells
          obtain ⟨m0, m1, m2, m3⟩ := HMC.out W3 HBL3.out
          have hsd := HRO.out.on (below_drew (B0 W3))
          obtain ⟨u3', w5, hrun, hown, hgr⟩ := run_appMv Tryz.underlying34 infoMp hsd.m m (Nat.le_trans (odMv_le _ _) (Nat.le_trans HK.out (by omega))) hsd.lt 34
          have hro := (hsd.on (B1 W3.drew (.cells #[.int .i64 m.fr, .int .i64 m.k, .int .u64 m.n, .string m.t] 61))).appM hgr hown
          rw [← odMv_take HX.out HMA.out] at hro
          have htb3 : TBx w5 q (.slice A1 n1 c1) (.slice A4 n4 c4) u3 36 := (KeepTy.grown hgr (fun r e => ((hsd.on (B1 W3.drew (.cells #[.int .i64 m.fr, .int .i64 m.k, .int .u64 m.n, .string m.t] 61))).m.blk2 r e).2) (by decide)) q _ (hsd.on (B1 W3.drew (.cells #[.int .i64 m.fr, .int .i64 m.k, .int .u64 m.n, .string m.t] 61))).tb
          have fz := htb3.frozen 2
          have d1 := htb3.cells.2.2
          obtain ⟨A5, n5, c5, rfl⟩ := hown.shape
          have HRUN2 : Hid ((Builtin.append_ #[34, 34] 34 #[u3, .slice (some ⟨W3.heap.size, 0, none⟩) 1 1]).run Tryz.prog (W3.alloc (.cells #[.int .i64 m.fr, .int .i64 m.k, .int .u64 m.n, .string m.t] 61)).drew = .ok (.slice A5 n5 c5) w5) := hid hrun
          have HRO2 := hid hro
          have b1' : (W3.alloc (.cells #[.int .i64 m.fr, .int .i64 m.k, .int .u64 m.n, .string m.t] 61)).cell? ⟨q, 2, none⟩ = some u3 := (HRO.out.on (B1 _ _)).tb.cells.2.2
          clear hrun hown hgr hro htb3 hsd
          go_upto_region 8 with fail
          go_region_law (refine step_appG rfl (.tmp 36) (.tmp 42) rfl (by rfl) (by rfl) HRUN2.out ?_)
          all_goals
            clear a0 a1 a2 b0 b1 b2 m0 m1 m2 m3 fz d1 b1'
            go_wp2_with fail
            exact ⟨⟨k + 1, by omega, by go_num, hid ⟨_, _, HRO2.out⟩⟩, by simp [intOf]; omega⟩
      · have hkn : k = n := by omega
        have e1 : od.take k = od := List.take_of_length_le (by have := HOL.out; omega)
        rw [e1] at HS
        have hki : ¬ ((k : Int) < n) := by omega
        have HB9 : Hid (BK w B wr) := hid ⟨HB1.out.1.trans (HBL.out.mono (Nat.le_trans HTS1.out.b2 HTS1.out.sz)), HB1.out.2.trans HS.out.kt⟩
        have HTS9 : Hid (TS wr B (q + 1) (.slice A1 n1 c1) u2 u3 ⟨T.o, odF T.nw od, odMv T.mv od⟩) := hid
          ⟨(HTS1.out.on HBL.out).o, HS.out.f, OwM.less HS.out.m (by have := HTS1.out.b2; have := HTS1.out.sz; have := HQ.out; omega), by have := HTS1.out.b2; have := HTS1.out.sz; have := HQ.out; omega, HS.out.lt,
            fun r e => by have := HTS1.out.ap r e; have := HTS1.out.sz; have := HQ.out; omega⟩
        obtain ⟨_, ⟨A4, n4, c4, rfl⟩, ⟨A5, n5, c5, rfl⟩⟩ := HTS9.out.shapes
        have HZ9 := hid (HZ1.out.on HBL.out)
        obtain ⟨z0, z1, z2⟩ := HZ9.out.cells
        have y0 := HZ9.out.frozen 0; have y1 := HZ9.out.frozen 1; have y2 := HZ9.out.frozen 2
        clear hkn e1
        go_wp2_with fail
        rw [HE.out]
        exact ret_TBpe (by rfl) (by rfl) (HZ9.out.set3 _ _ _) (by rfl) (by rfl) ⟨_, rfl, (HTS9.out.box3 HZ9.out _ _ _).owt, HB9.out.set3 HBP.out.2.1 _ _ _⟩
end Go.Proofs.YtjodbopnibdolaaGreat

namespace Go.Proofs.YtjodbopnibdolaaGreat
open Go.RowKit
set_option linter.unusedVariables false
set_option linter.unusedSimpArgs false

theorem BK.trans {a b c : World} {B : Nat} (h : BK a B b) (k : BK b B c) : BK a B c := ⟨h.1.trans k.1, h.2.trans k.2⟩
/-- A table that a deed may be done to. -/
structure Dok (T : Tb) : Prop where
  n : T.nw.length ≤ 1000
  m : T.mv.length = T.nw.length
  f : okF T.nw
  v : ∀ m ∈ T.mv, I64 m.fr ∧ I64 m.k ∧ U64 m.n
/-- A box that holds what tells a field. -/
def TellB (w : World) (p F b : Nat) : Prop := w.heap[p]? = some (.cells #[.func (.func F) #[] #[.pointer (some ⟨b, 0, none⟩)]] 101 (0, 0))
theorem TellB.on {w w' : World} {p F b : Nat} (h : TellB w p F b) (hb : Below w.heap.size w w') : TellB w' p F b := (hb.block p (row_lt h)).trans h

def addR (T : Tb) (c : Ch) : Tb × Int := (⟨T.o, T.nw ++ [c.to], T.mv ++ [⟨-1, c.dk, c.dn, c.dt⟩]⟩, 0)

set_option maxRecDepth 20000 in
set_option maxHeartbeats 4000000 in
theorem d3_any {w : World} {B : Nat} {v : Value} {T : Tb} (h : OwT w B v T) (hd : Dok T) {b : Nat} {c : Ch} {A : Option Addr} {n cp : Nat} (hc : CB w b c A n cp 57) (hbB : b < B) :
    Calls Tryz.prog 58 #[v, .pointer (some ⟨b, 0, none⟩)] w (DeedQ w B (addR T c).1 (addR T c).2) := by
  obtain ⟨v1, v2, v3, B2, rfl, hts⟩ := h.ts
  have hBw : B ≤ w.heap.size := Nat.le_trans hts.b2 hts.sz
  obtain ⟨w0, hw0⟩ : ∃ w0, w0 = (w.alloc (.cells #[v1, v2, v3] 36)).alloc (.cells #[.slice none 0 0, .slice none 0 0, .slice none 0 0] 36) := ⟨_, rfl⟩
  obtain ⟨p0, hp0⟩ : ∃ p0, p0 = w.heap.size := ⟨_, rfl⟩
  obtain ⟨p1, hp1⟩ : ∃ p1, p1 = w.heap.size + 1 := ⟨_, rfl⟩
  have HW0 := hid hw0; have HP0 := hid hp0; have HP1 := hid hp1
  have HB0 : Hid (Below w.heap.size w w0) := by rw [hw0]; exact hid (Ba (B1 _ _) _)
  have HT0 : Hid (TBx w0 p0 v1 v2 v3 36) := by rw [hw0, hp0]; exact hid ((tb_new w _ _ _ _).on (B1 _ _))
  have HZ0 : Hid (TBx w0 p1 (.slice none 0 0) (.slice none 0 0) (.slice none 0 0) 36) := by
    rw [hw0, hp1, ← World.size_alloc w (.cells #[v1, v2, v3] 36)]; exact hid (tb_new _ _ _ _ _)
  have HO0 : Hid (OwT w0 B (.agg #[v1, v2, v3]) T) := hid (hts.on HB0.out).owt
  have HC0 := hid (hc.on HB0.out)
  have HBB0 : Hid (BK w B w0) := hid (BK.start HB0.out hBw)
  have HBP : Hid (B ≤ w.heap.size ∧ w.heap.size ≤ p1) := hid (by omega)
  have HD := hid hd; have HBL := hid hbB
  obtain ⟨⟨A1, n1, c1, rfl⟩, ⟨A2, n2, c2, rfl⟩, ⟨A3, n3, c3, rfl⟩⟩ := hts.shapes
  obtain ⟨a0, a1, a2⟩ := HT0.out.cells
  obtain ⟨k0, k1, k2, k3, k4, k5, k6, k7, k8⟩ := HC0.out.cells
  clear h hts hw0 hp0 hp1 hBw hc hbB hd
  go_enter Tryz.func58, Tryz.ntmps58
  go_upto_region 1 with fail
  rw [← HW0.out, ← HP1.out, ← HP0.out]
  go_wp2_with fail
  refine (add_any HO0.out ⟨HD.out.n, by have := HD.out.m; have := HD.out.n; omega⟩ c.to c.dk c.dn c.dt).mono ?_
  rintro e w1 ⟨v', rfl, ho1, hb1⟩
  obtain ⟨u1, u2, u3, B3', rfl, hts1⟩ := ho1.ts
  have HZ1 : Hid (TBx w1 p1 (.slice none 0 0) (.slice none 0 0) (.slice none 0 0) 36) := hid (hb1.2 p1 _ HZ0.out)
  have HB1 := hid (HBB0.out.trans hb1)
  have HTS1 := hid hts1
  obtain ⟨⟨A4, n4, c4, rfl⟩, ⟨A5, n5, c5, rfl⟩, ⟨A6, n6, c6, rfl⟩⟩ := hts1.shapes
  clear ho1 hb1 hts1 a0 a1 a2 k0 k1 k2 k3 k4 k5 k6 k7 k8
  obtain ⟨z0, z1, z2⟩ := HZ1.out.cells
  have y0 := HZ1.out.frozen 0; have y1 := HZ1.out.frozen 1; have y2 := HZ1.out.frozen 2
  go_wp2_with fail
  exact ret_TBpe (by rfl) (by rfl) (HZ1.out.set3 _ _ _) (by rfl) (by rfl) ⟨_, rfl, (HTS1.out.box3 HZ1.out _ _ _).owt, HB1.out.set3 HBP.out _ _ _⟩

set_option maxRecDepth 20000 in
set_option maxHeartbeats 4000000 in
theorem d4_any {w : World} {B : Nat} {v : Value} {T : Tb} (h : OwT w B v T) (hd : Dok T) {b : Nat} {c : Ch} {A : Option Addr} {n cp : Nat} (hc : CB w b c A n cp 57) (hbB : b < B) :
    Calls Tryz.prog 60 #[v, .pointer (some ⟨b, 0, none⟩)] w (DeedQ w B (dropR T c.nm).1 (dropR T c.nm).2) := by
  obtain ⟨v1, v2, v3, B2, rfl, hts⟩ := h.ts
  have hBw : B ≤ w.heap.size := Nat.le_trans hts.b2 hts.sz
  obtain ⟨w0, hw0⟩ : ∃ w0, w0 = (w.alloc (.cells #[v1, v2, v3] 36)).alloc (.cells #[.slice none 0 0, .slice none 0 0, .slice none 0 0] 36) := ⟨_, rfl⟩
  obtain ⟨p0, hp0⟩ : ∃ p0, p0 = w.heap.size := ⟨_, rfl⟩
  obtain ⟨p1, hp1⟩ : ∃ p1, p1 = w.heap.size + 1 := ⟨_, rfl⟩
  have HW0 := hid hw0; have HP0 := hid hp0; have HP1 := hid hp1
  have HB0 : Hid (Below w.heap.size w w0) := by rw [hw0]; exact hid (Ba (B1 _ _) _)
  have HT0 : Hid (TBx w0 p0 v1 v2 v3 36) := by rw [hw0, hp0]; exact hid ((tb_new w _ _ _ _).on (B1 _ _))
  have HZ0 : Hid (TBx w0 p1 (.slice none 0 0) (.slice none 0 0) (.slice none 0 0) 36) := by
    rw [hw0, hp1, ← World.size_alloc w (.cells #[v1, v2, v3] 36)]; exact hid (tb_new _ _ _ _ _)
  have HO0 : Hid (OwT w0 B (.agg #[v1, v2, v3]) T) := hid (hts.on HB0.out).owt
  have HC0 := hid (hc.on HB0.out)
  have HBB0 : Hid (BK w B w0) := hid (BK.start HB0.out hBw)
  have HBP : Hid (B ≤ w.heap.size ∧ w.heap.size ≤ p1) := hid (by omega)
  have HD := hid hd; have HBL := hid hbB
  obtain ⟨⟨A1, n1, c1, rfl⟩, ⟨A2, n2, c2, rfl⟩, ⟨A3, n3, c3, rfl⟩⟩ := hts.shapes
  obtain ⟨a0, a1, a2⟩ := HT0.out.cells
  obtain ⟨k0, k1, k2, k3, k4, k5, k6, k7, k8⟩ := HC0.out.cells
  clear h hts hw0 hp0 hp1 hBw hc hbB hd
  go_enter Tryz.func60, Tryz.ntmps60
  go_upto_region 1 with fail
  rw [← HW0.out, ← HP1.out, ← HP0.out]
  go_wp2_with fail
  refine (drop_any HO0.out ⟨HD.out.n, HD.out.m⟩ HD.out.f c.nm).mono ?_
  rintro e w1 ⟨v', rfl, ho1, hb1⟩
  obtain ⟨u1, u2, u3, B3', rfl, hts1⟩ := ho1.ts
  have HZ1 : Hid (TBx w1 p1 (.slice none 0 0) (.slice none 0 0) (.slice none 0 0) 36) := hid (hb1.2 p1 _ HZ0.out)
  have HB1 := hid (HBB0.out.trans hb1)
  have HTS1 := hid hts1
  obtain ⟨⟨A4, n4, c4, rfl⟩, ⟨A5, n5, c5, rfl⟩, ⟨A6, n6, c6, rfl⟩⟩ := hts1.shapes
  clear ho1 hb1 hts1 a0 a1 a2 k0 k1 k2 k3 k4 k5 k6 k7 k8
  obtain ⟨z0, z1, z2⟩ := HZ1.out.cells
  have y0 := HZ1.out.frozen 0; have y1 := HZ1.out.frozen 1; have y2 := HZ1.out.frozen 2
  go_wp2_with fail
  exact ret_TBpe (by rfl) (by rfl) (HZ1.out.set3 _ _ _) (by rfl) (by rfl) ⟨_, rfl, (HTS1.out.box3 HZ1.out _ _ _).owt, HB1.out.set3 HBP.out _ _ _⟩

set_option maxRecDepth 20000 in
set_option maxHeartbeats 4000000 in
theorem d5_any {w : World} {B : Nat} {v : Value} {T : Tb} (h : OwT w B v T) (hd : Dok T) {b : Nat} {c : Ch} {A : Option Addr} {n cp : Nat} (hc : CB w b c A n cp 57) (hbB : b < B) {p : Nat} (hp : TellB w p 56 b) :
    Calls Tryz.prog 62 #[v, .pointer (some ⟨b, 0, none⟩), .pointer (some ⟨p, 0, none⟩)] w (DeedQ w B (altR T c.nm (renF c)).1 (altR T c.nm (renF c)).2) := by
  obtain ⟨v1, v2, v3, B2, rfl, hts⟩ := h.ts
  have hBw : B ≤ w.heap.size := Nat.le_trans hts.b2 hts.sz
  obtain ⟨w0, hw0⟩ : ∃ w0, w0 = (w.alloc (.cells #[v1, v2, v3] 36)).alloc (.cells #[.slice none 0 0, .slice none 0 0, .slice none 0 0] 36) := ⟨_, rfl⟩
  obtain ⟨p0, hp0⟩ : ∃ p0, p0 = w.heap.size := ⟨_, rfl⟩
  obtain ⟨p1, hp1⟩ : ∃ p1, p1 = w.heap.size + 1 := ⟨_, rfl⟩
  have HW0 := hid hw0; have HP0 := hid hp0; have HP1 := hid hp1
  have HB0 : Hid (Below w.heap.size w w0) := by rw [hw0]; exact hid (Ba (B1 _ _) _)
  have HT0 : Hid (TBx w0 p0 v1 v2 v3 36) := by rw [hw0, hp0]; exact hid ((tb_new w _ _ _ _).on (B1 _ _))
  have HZ0 : Hid (TBx w0 p1 (.slice none 0 0) (.slice none 0 0) (.slice none 0 0) 36) := by
    rw [hw0, hp1, ← World.size_alloc w (.cells #[v1, v2, v3] 36)]; exact hid (tb_new _ _ _ _ _)
  have HO0 : Hid (OwT w0 B (.agg #[v1, v2, v3]) T) := hid (hts.on HB0.out).owt
  have HC0 := hid (hc.on HB0.out)
  have HBB0 : Hid (BK w B w0) := hid (BK.start HB0.out hBw)
  have HBP : Hid (B ≤ w.heap.size ∧ w.heap.size ≤ p1) := hid (by omega)
  have HD := hid hd; have HBL := hid hbB
  have HTB := hid (hp.on HB0.out)
  have t0 : w0.cell? ⟨p, 0, none⟩ = some (.func (.func 56) #[] #[.pointer (some ⟨b, 0, none⟩)]) := by rw [row_cell HTB.out]; rfl
  clear hp
  obtain ⟨⟨A1, n1, c1, rfl⟩, ⟨A2, n2, c2, rfl⟩, ⟨A3, n3, c3, rfl⟩⟩ := hts.shapes
  obtain ⟨a0, a1, a2⟩ := HT0.out.cells
  obtain ⟨k0, k1, k2, k3, k4, k5, k6, k7, k8⟩ := HC0.out.cells
  clear h hts hw0 hp0 hp1 hBw hc hbB hd
  go_enter Tryz.func62, Tryz.ntmps62
  go_upto_region 1 with fail
  rw [← HW0.out, ← HP1.out, ← HP0.out]
  go_wp2_with fail
  refine (alterR_any HO0.out HD.out.n HD.out.f c.nm HC0.out HBL.out).mono ?_
  rintro e w1 ⟨v', rfl, ho1, hb1⟩
  obtain ⟨u1, u2, u3, B3', rfl, hts1⟩ := ho1.ts
  have HZ1 : Hid (TBx w1 p1 (.slice none 0 0) (.slice none 0 0) (.slice none 0 0) 36) := hid (hb1.2 p1 _ HZ0.out)
  have HB1 := hid (HBB0.out.trans hb1)
  have HTS1 := hid hts1
  obtain ⟨⟨A4, n4, c4, rfl⟩, ⟨A5, n5, c5, rfl⟩, ⟨A6, n6, c6, rfl⟩⟩ := hts1.shapes
  clear ho1 hb1 hts1 a0 a1 a2 k0 k1 k2 k3 k4 k5 k6 k7 k8 t0
  obtain ⟨z0, z1, z2⟩ := HZ1.out.cells
  have y0 := HZ1.out.frozen 0; have y1 := HZ1.out.frozen 1; have y2 := HZ1.out.frozen 2
  go_wp2_with fail
  exact ret_TBpe (by rfl) (by rfl) (HZ1.out.set3 _ _ _) (by rfl) (by rfl) ⟨_, rfl, (HTS1.out.box3 HZ1.out _ _ _).owt, HB1.out.set3 HBP.out _ _ _⟩

set_option maxRecDepth 20000 in
set_option maxHeartbeats 4000000 in
theorem d6_any {w : World} {B : Nat} {v : Value} {T : Tb} (h : OwT w B v T) (hd : Dok T) {b : Nat} {c : Ch} {A : Option Addr} {n cp : Nat} (hc : CB w b c A n cp 57) (hbB : b < B) {p : Nat} (hp : TellB w p 57 b) :
    Calls Tryz.prog 64 #[v, .pointer (some ⟨b, 0, none⟩), .pointer (some ⟨p, 0, none⟩)] w (DeedQ w B (altR T c.nm (recF c)).1 (altR T c.nm (recF c)).2) := by
  obtain ⟨v1, v2, v3, B2, rfl, hts⟩ := h.ts
  have hBw : B ≤ w.heap.size := Nat.le_trans hts.b2 hts.sz
  obtain ⟨w0, hw0⟩ : ∃ w0, w0 = (w.alloc (.cells #[v1, v2, v3] 36)).alloc (.cells #[.slice none 0 0, .slice none 0 0, .slice none 0 0] 36) := ⟨_, rfl⟩
  obtain ⟨p0, hp0⟩ : ∃ p0, p0 = w.heap.size := ⟨_, rfl⟩
  obtain ⟨p1, hp1⟩ : ∃ p1, p1 = w.heap.size + 1 := ⟨_, rfl⟩
  have HW0 := hid hw0; have HP0 := hid hp0; have HP1 := hid hp1
  have HB0 : Hid (Below w.heap.size w w0) := by rw [hw0]; exact hid (Ba (B1 _ _) _)
  have HT0 : Hid (TBx w0 p0 v1 v2 v3 36) := by rw [hw0, hp0]; exact hid ((tb_new w _ _ _ _).on (B1 _ _))
  have HZ0 : Hid (TBx w0 p1 (.slice none 0 0) (.slice none 0 0) (.slice none 0 0) 36) := by
    rw [hw0, hp1, ← World.size_alloc w (.cells #[v1, v2, v3] 36)]; exact hid (tb_new _ _ _ _ _)
  have HO0 : Hid (OwT w0 B (.agg #[v1, v2, v3]) T) := hid (hts.on HB0.out).owt
  have HC0 := hid (hc.on HB0.out)
  have HBB0 : Hid (BK w B w0) := hid (BK.start HB0.out hBw)
  have HBP : Hid (B ≤ w.heap.size ∧ w.heap.size ≤ p1) := hid (by omega)
  have HD := hid hd; have HBL := hid hbB
  have HTB := hid (hp.on HB0.out)
  have t0 : w0.cell? ⟨p, 0, none⟩ = some (.func (.func 57) #[] #[.pointer (some ⟨b, 0, none⟩)]) := by rw [row_cell HTB.out]; rfl
  clear hp
  obtain ⟨⟨A1, n1, c1, rfl⟩, ⟨A2, n2, c2, rfl⟩, ⟨A3, n3, c3, rfl⟩⟩ := hts.shapes
  obtain ⟨a0, a1, a2⟩ := HT0.out.cells
  obtain ⟨k0, k1, k2, k3, k4, k5, k6, k7, k8⟩ := HC0.out.cells
  clear h hts hw0 hp0 hp1 hBw hc hbB hd
  go_enter Tryz.func64, Tryz.ntmps64
  go_upto_region 1 with fail
  rw [← HW0.out, ← HP1.out, ← HP0.out]
  go_wp2_with fail
  refine (alterC_any HO0.out HD.out.n HD.out.f c.nm HC0.out HBL.out).mono ?_
  rintro e w1 ⟨v', rfl, ho1, hb1⟩
  obtain ⟨u1, u2, u3, B3', rfl, hts1⟩ := ho1.ts
  have HZ1 : Hid (TBx w1 p1 (.slice none 0 0) (.slice none 0 0) (.slice none 0 0) 36) := hid (hb1.2 p1 _ HZ0.out)
  have HB1 := hid (HBB0.out.trans hb1)
  have HTS1 := hid hts1
  obtain ⟨⟨A4, n4, c4, rfl⟩, ⟨A5, n5, c5, rfl⟩, ⟨A6, n6, c6, rfl⟩⟩ := hts1.shapes
  clear ho1 hb1 hts1 a0 a1 a2 k0 k1 k2 k3 k4 k5 k6 k7 k8 t0
  obtain ⟨z0, z1, z2⟩ := HZ1.out.cells
  have y0 := HZ1.out.frozen 0; have y1 := HZ1.out.frozen 1; have y2 := HZ1.out.frozen 2
  go_wp2_with fail
  exact ret_TBpe (by rfl) (by rfl) (HZ1.out.set3 _ _ _) (by rfl) (by rfl) ⟨_, rfl, (HTS1.out.box3 HZ1.out _ _ _).owt, HB1.out.set3 HBP.out _ _ _⟩

set_option maxRecDepth 20000 in
set_option maxHeartbeats 4000000 in
theorem d7_any {w : World} {B : Nat} {v : Value} {T : Tb} (h : OwT w B v T) (hd : Dok T) {b : Nat} {c : Ch} {A : Option Addr} {n cp : Nat} (hc : CB w b c A n cp 57) (hbB : b < B) (ho : RdI w w.heap.size A n cp c.od) :
    Calls Tryz.prog 65 #[v, .pointer (some ⟨b, 0, none⟩)] w (DeedQ w B (ordR T c.od).1 (ordR T c.od).2) := by
  obtain ⟨v1, v2, v3, B2, rfl, hts⟩ := h.ts
  have hBw : B ≤ w.heap.size := Nat.le_trans hts.b2 hts.sz
  obtain ⟨w0, hw0⟩ : ∃ w0, w0 = (w.alloc (.cells #[v1, v2, v3] 36)).alloc (.cells #[.slice none 0 0, .slice none 0 0, .slice none 0 0] 36) := ⟨_, rfl⟩
  obtain ⟨p0, hp0⟩ : ∃ p0, p0 = w.heap.size := ⟨_, rfl⟩
  obtain ⟨p1, hp1⟩ : ∃ p1, p1 = w.heap.size + 1 := ⟨_, rfl⟩
  have HW0 := hid hw0; have HP0 := hid hp0; have HP1 := hid hp1
  have HB0 : Hid (Below w.heap.size w w0) := by rw [hw0]; exact hid (Ba (B1 _ _) _)
  have HT0 : Hid (TBx w0 p0 v1 v2 v3 36) := by rw [hw0, hp0]; exact hid ((tb_new w _ _ _ _).on (B1 _ _))
  have HZ0 : Hid (TBx w0 p1 (.slice none 0 0) (.slice none 0 0) (.slice none 0 0) 36) := by
    rw [hw0, hp1, ← World.size_alloc w (.cells #[v1, v2, v3] 36)]; exact hid (tb_new _ _ _ _ _)
  have HO0 : Hid (OwT w0 B (.agg #[v1, v2, v3]) T) := hid (hts.on HB0.out).owt
  have HC0 := hid (hc.on HB0.out)
  have HBB0 : Hid (BK w B w0) := hid (BK.start HB0.out hBw)
  have HBP : Hid (B ≤ w.heap.size ∧ w.heap.size ≤ p1) := hid (by omega)
  have HD := hid hd; have HBL := hid hbB
  have HOD := hid (ho.on HB0.out)
  clear ho
  obtain ⟨⟨A1, n1, c1, rfl⟩, ⟨A2, n2, c2, rfl⟩, ⟨A3, n3, c3, rfl⟩⟩ := hts.shapes
  obtain ⟨a0, a1, a2⟩ := HT0.out.cells
  obtain ⟨k0, k1, k2, k3, k4, k5, k6, k7, k8⟩ := HC0.out.cells
  clear h hts hw0 hp0 hp1 hBw hc hbB hd
  go_enter Tryz.func65, Tryz.ntmps65
  go_upto_region 1 with fail
  rw [← HW0.out, ← HP1.out, ← HP0.out]
  go_wp2_with fail
  refine (reorder_any HO0.out ⟨HD.out.n, HD.out.m⟩ HD.out.f HD.out.v HOD.out).mono ?_
  rintro e w1 ⟨v', rfl, ho1, hb1⟩
  obtain ⟨u1, u2, u3, B3', rfl, hts1⟩ := ho1.ts
  have HZ1 : Hid (TBx w1 p1 (.slice none 0 0) (.slice none 0 0) (.slice none 0 0) 36) := hid (hb1.2 p1 _ HZ0.out)
  have HB1 := hid (HBB0.out.trans hb1)
  have HTS1 := hid hts1
  obtain ⟨⟨A4, n4, c4, rfl⟩, ⟨A5, n5, c5, rfl⟩, ⟨A6, n6, c6, rfl⟩⟩ := hts1.shapes
  clear ho1 hb1 hts1 a0 a1 a2 k0 k1 k2 k3 k4 k5 k6 k7 k8
  obtain ⟨z0, z1, z2⟩ := HZ1.out.cells
  have y0 := HZ1.out.frozen 0; have y1 := HZ1.out.frozen 1; have y2 := HZ1.out.frozen 2
  go_wp2_with fail
  exact ret_TBpe (by rfl) (by rfl) (HZ1.out.set3 _ _ _) (by rfl) (by rfl) ⟨_, rfl, (HTS1.out.box3 HZ1.out _ _ _).owt, HB1.out.set3 HBP.out _ _ _⟩
end Go.Proofs.YtjodbopnibdolaaGreat
