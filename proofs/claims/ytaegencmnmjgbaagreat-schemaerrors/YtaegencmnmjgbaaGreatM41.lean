/-
  slices.Sorted of slices.Values of numbers; the program's isOrder.
  reorder of layer 8.
-/
import Derived.Test.YtaegencmnmjgbaaGreatM40
import Derived.Test.YtaegencmnmjgbaaGreatM16
import Derived.Lib.SlKeysI
import Derived.Test.YtaegencmnmjgbaaGreatM39
import Derived.Deep.RegionLaw

namespace Go.Proofs.YtaegencmnmjgbaaGreat
open Go.RowKit Go.Sort Go.Shelf
set_option linter.unusedVariables false
set_option linter.unusedSimpArgs false
theorem collect_any {w : World} {Bs n c : Nat} {A : Option Addr} {l : List Int} (hb : w.heap[Bs]? = some (.cells #[.slice A n c] 52 (0, 0))) (h : RdI w w.heap.size A n c l) (hn : n ≤ 1000000) :
    Calls Tryz.prog 202 #[.func (.func 204) #[] #[.pointer (some ⟨Bs, 0, none⟩)]] w fun e w' => ∃ v, e = .returned v ∧ OwI w' w.heap.size v l ∧ Below w.heap.size w w' := by
  have C := hid (appseq_any hb h hn)
  clear h hb
  go_enter Tryz.func202, Tryz.ntmps202
  go_wp2_with fail
  refine C.out.mono ?_
  rintro e w1 ⟨v, rfl, ho, hb1⟩
  go_wp2_with fail
  go_ret
  exact ⟨_, rfl, ho, hb1⟩
def sortI (l : List Int) : List Int := l.mergeSort fun x y => decide (x ≤ y)
theorem sortI_length (l : List Int) : (sortI l).length = l.length := List.length_mergeSort l
theorem sorted_any {w : World} {Bs n c : Nat} {A : Option Addr} {l : List Int} (hb : w.heap[Bs]? = some (.cells #[.slice A n c] 52 (0, 0))) (h : RdI w w.heap.size A n c l) (hn : n ≤ 1000000) :
    Calls Tryz.prog 198 #[.func (.func 204) #[] #[.pointer (some ⟨Bs, 0, none⟩)]] w fun e w' => ∃ v, e = .returned v ∧ OwI w' w.heap.size v (sortI l) ∧ Below w.heap.size w w' := by
  have C := hid (collect_any hb h hn)
  have HL : Hid (l.length ≤ 1000000) := hid (by rw [h.1]; exact hn)
  clear h hb
  go_enter Tryz.func198, Tryz.ntmps198
  go_wp2_with fail
  refine C.out.mono ?_
  rintro e W ⟨v, rfl, ho, hbw⟩
  rcases ho.2 with ⟨rfl, hz⟩ | ⟨gb, cap, cur, rfl, hbase, hgb, r1, r2, r3, r4⟩
  · have hl : l = [] := List.eq_nil_of_length_eq_zero hz
    subst hl
    have cS := AnyM.slices_Sort_int_none Tryz.sortA none 0 W
    have CS := hid cS
    clear cS
    go_wp2_with fail
    refine CS.out.mono ?_
    rintro e w' ⟨rfl, rfl⟩
    go_wp2_with fail
    go_ret
    have e0 : sortI [] = [] := by unfold sortI; simp
    rw [e0]
    exact ⟨_, rfl, OwI.nil _ _, hbw⟩
  · have hH : Holds encZ W gb 0 l.toArray := holds_of_block_i hgb (by rw [Nat.mul_one] at r4; exact r4)
    have CS := hid (AnyM.slices_Sort_int Tryz.sortA gb 0 cap l W hH (row_lt hgb) (by have := HL.out; omega))
    clear hH
    go_wp2_with fail
    refine CS.out.mono ?_
    rintro e w' ⟨rfl, nn, os, rfl⟩
    go_wp2_with fail
    go_ret
    refine ⟨_, rfl, ?_, hbw.grown (grownBy_sorted_i _) hbw.size (fun j hj => by cases hj; exact hbase)⟩
    have h5 := ownsRow_sorted_i (os := os) (n := nn) (ss := l) (ts := sortI l) (sortI_length l) hbase hgb r1 r2 r3
    unfold OwI
    rw [sortI_length]
    exact h5
def rngI (n : Nat) : List Int := (List.range n).map Int.ofNat
theorem rngI_length (n : Nat) : (rngI n).length = n := by simp [rngI]
theorem rngI_get {n i : Nat} (h : i < n) : (rngI n)[i]? = some (i : Int) := by simp [rngI, h]
theorem rngI_count {n : Nat} (x : Int) : (rngI n).count x = if 0 ≤ x ∧ x < n then 1 else 0 := by
  have hn : (rngI n).Nodup := by
    unfold rngI
    rw [List.nodup_iff_pairwise_ne, List.pairwise_map]
    exact List.nodup_range.imp (fun h e => h (by simp at e; omega))
  rw [List.Nodup.count hn]
  have : x ∈ rngI n ↔ 0 ≤ x ∧ x < n := by
    unfold rngI
    rw [List.mem_map]
    refine ⟨fun ⟨i, hi, e⟩ => by rw [List.mem_range] at hi; subst e; simp; exact hi, fun ⟨h0, h1⟩ => ⟨x.toNat, by rw [List.mem_range]; omega, by simp; omega⟩⟩
  simp only [this]
theorem allB_perm {od : List Int} {n : Nat} : allB od n = true ↔ od.Perm (rngI n) := by
  constructor
  · intro h
    rw [List.perm_iff_count]
    intro x
    rw [rngI_count]
    by_cases c : 0 ≤ x ∧ x < n
    · rw [if_pos c]
      have := (allB_iff.1 h).2 x.toNat (by omega)
      rwa [Int.toNat_of_nonneg c.1] at this
    · rw [if_neg c, List.count_eq_zero]
      intro hx
      exact c (allB_mem h x hx)
  · intro h
    refine allB_iff.2 ⟨by rw [h.length_eq, rngI_length], fun i hi => ?_⟩
    rw [h.count_eq, rngI_count, if_pos (by omega)]
theorem rngI_sort (n : Nat) : sortI (rngI n) = rngI n := by
  refine List.mergeSort_of_pairwise ?_
  unfold rngI
  exact List.pairwise_map.2 (List.pairwise_lt_range.imp fun h => by simp; omega)
theorem sortI_perm (l : List Int) : (sortI l).Perm l := List.mergeSort_perm l _
theorem allB_sort {od : List Int} {n : Nat} : allB od n = true ↔ sortI od = rngI n := by
  rw [allB_perm]
  constructor
  · intro h
    rw [← rngI_sort n]
    exact mergeSort_of_perm_i h
  · intro h
    rw [← h]; exact (sortI_perm od).symm
set_option maxHeartbeats 2000000 in
theorem isorder_any {w : World} {A : Option Addr} {n c : Nat} {od : List Int} (h : RdI w w.heap.size A n c od) (m : Nat) (hm : m ≤ 1000000) :
    Calls Tryz.prog 194 #[.slice A n c, .int .i64 (m : Int)] w fun e w' => e = .returned (.bool (allB od m)) ∧ Below w.heap.size w w' := by
  have HL := hid h.1
  have hnm : (n : Int) ≤ 9223372036854775807 := by have := Nat.le_trans h.2.1 h.2.2.1; unfold maxLen at this; omega
  have HX : Hid (∀ x ∈ od, I64 x) := hid h.2.2.2.1
  have H := hid h
  clear h
  by_cases hne : n = m
  · subst hne
    go_enter Tryz.func194, Tryz.ntmps194
    go_wp2_with fail
    refine (values_any _ _ _ _).mono ?_
    rintro e w1 ⟨rfl, hw1⟩
    obtain ⟨p, hp⟩ : ∃ p, p = w.heap.size := ⟨_, rfl⟩
    rw [← hp]
    have HP1 : Hid (w1.heap[p]? = some (.cells #[.slice A n c] 52 (0, 0))) := by rw [hw1, hp]; exact hid (heap_alloc_new _ _)
    have HB1 : Hid (Below w.heap.size w w1) := by rw [hw1]; exact hid (B1 _ _)
    clear hw1 hp
    go_wp2_with fail
    refine (sorted_any HP1.out (H.out.on HB1.out) hm).mono ?_
    rintro e w2 ⟨v, rfl, ho, hb2⟩
    obtain ⟨A2, n2, c2, rfl⟩ := ho.shape
    obtain ⟨A3, c3, e3, hr⟩ := ho.rd (fun x hx => HX.out x ((sortI_perm od).mem_iff.1 hx))
    cases e3
    have HR := hid hr
    have HB2 := hid (Bt HB1.out hb2)
    have HLS : Hid ((sortI od).length = n) := hid (by rw [sortI_length, HL.out])
    obtain ⟨n2, hn2⟩ : ∃ n2, n2 = (sortI od).length := ⟨_, rfl⟩
    rw [← hn2] at HR HLS ⊢
    obtain rfl : n2 = n := HLS.out
    have HNE := hid hn2
    clear ho hr hb2 hn2
    go_wp2_with fail
    go_loopw [17] (fun i wr => ∃ j : Nat, j ≤ n2 ∧ i = .int .i64 j ∧ Hid (∀ k, k < j → (sortI od)[k]? = some (k : Int)) ∧ Hid (wr = w2)) (fun i _ => n2 - (intOf i).toNat)
    case atStart => exact ⟨0, by omega, rfl, hid (fun k hk => absurd hk (by omega)), hid rfl⟩
    case round =>
      obtain ⟨j, hj, rfl, HA, HWR⟩ := hrel
      by_cases hlt : j < n2
      · obtain ⟨x, hx⟩ : ∃ x, (sortI od)[j]? = some x := ⟨_, List.getElem?_eq_getElem (by have := HNE.out; omega)⟩
        obtain ⟨_, hx64, b, off, rfl, hc⟩ := HR.out.at hx
        have c0 := hc wr (by rw [HWR.out]; exact B0 _)
        have hji : (j : Int) < n2 := by omega
        have hj0 : (0 : Int) ≤ j := by omega
        have HXX := hid hx
        clear hc hx
        by_cases hxe : x = (j : Int)
        · subst hxe
          go_wp2_with fail
          exact ⟨⟨j + 1, by omega, by go_num, hid (fun k hk => by
            by_cases e : k = j
            · subst e; exact HXX.out
            · exact HA.out k (by omega)), HWR⟩, by simp [intOf]; omega⟩
        · have HE : Hid (allB od n2 = false) := hid (by
            cases hr : allB od n2 with
            | false => rfl
            | true =>
              have h1 := allB_sort.1 hr
              have h2 := HXX.out
              rw [h1, rngI_get hlt] at h2
              exact absurd (Option.some.inj h2).symm hxe)
          go_wp2_with fail
          go_ret
          exact ⟨by rw [HE.out]; rfl, by rw [HWR.out]; exact HB2.out⟩
      · obtain rfl : j = n2 := by omega
        have HE : Hid (allB od j = true) := hid (allB_sort.2 (List.ext_getElem? (fun k => by
          by_cases c : k < j
          · rw [HA.out k c, rngI_get c]
          · rw [List.getElem?_eq_none (by rw [sortI_length]; have := HL.out; omega), List.getElem?_eq_none (by rw [rngI_length]; omega)])))
        go_wp2_with fail
        go_ret
        exact ⟨by rw [HE.out]; rfl, by rw [HWR.out]; exact HB2.out⟩
  · have hni : ¬ (n : Int) = m := by omega
    have HE : Hid (allB od m = false) := hid (by
      cases hr : allB od m with
      | false => rfl
      | true => have := (allB_iff.1 hr).1; have := HL.out; omega)
    go_enter Tryz.func194, Tryz.ntmps194
    go_wp2_with fail
    go_ret
    exact ⟨by rw [HE.out]; rfl, B0 w⟩
end Go.Proofs.YtaegencmnmjgbaaGreat

namespace Go.Proofs.YtaegencmnmjgbaaGreat
open Go.RowKit
set_option linter.unusedVariables false
set_option linter.unusedSimpArgs false
theorem step_appG {w w' : World} {o : Oper} {a : Act} {K : Act → World → Prop} {Q : Exit → Act → World → Prop} {E : Prop} {y : Nat → Option Bool} {v v' u : Value} {t1 t2 : TypeId} (hgd : o.guard = none) (s x : Operand)
    (hop : o.op = .call { callee := .builtin .append, args := #[s, x], argTypes := #[t1, t2] }) (hs : a.eval s = v) (hx : a.eval x = u)
    (hrun : (Builtin.append_ #[t1, t2] o.type #[v, u]).run Tryz.prog w = .ok v' w') (hk : K (a.put o.dst v') w') :
    if Region.wanted o y = true then Oper.wp Tryz.prog o a w K Q else E := by
  simp only [Region.wanted, hgd, if_true]
  unfold Oper.wp execOp
  simp only [hop, resolve, invoke, builtin, Sem.run_bind, Sem.run_pure, Result.andThen_ok, List.map_toArray, List.map_cons, List.map_nil, hs, hx, hrun]
  exact hk
def mvAt (l : List Mv) (i : Int) : Option Mv := if 0 ≤ i then l[i.toNat]? else none
def odMv (l : List Mv) (od : List Int) : List Mv := od.filterMap fun i => mvAt l i
def ordR (T : Tb) (od : List Int) : Tb × Int := if allB od T.nw.length then (⟨T.o, odF T.nw od, odMv T.mv od⟩, 0) else (Tb.none, 80)
theorem odF_take {l : List Fd} {od : List Int} {k : Nat} {x : Int} {f : Fd} (hx : od[k]? = some x) (hf : fdAt l x = some f) : odF l (od.take (k + 1)) = odF l (od.take k) ++ [f] := by
  unfold odF; rw [List.take_add_one, hx, List.filterMap_append]; simp [hf]
theorem odMv_take {l : List Mv} {od : List Int} {k : Nat} {x : Int} {f : Mv} (hx : od[k]? = some x) (hf : mvAt l x = some f) : odMv l (od.take (k + 1)) = odMv l (od.take k) ++ [f] := by
  unfold odMv; rw [List.take_add_one, hx, List.filterMap_append]; simp [hf]
theorem odF_le (l : List Fd) (od : List Int) : (odF l od).length ≤ od.length := List.length_filterMap_le _ _
theorem odMv_le (l : List Mv) (od : List Int) : (odMv l od).length ≤ od.length := List.length_filterMap_le _ _
structure RoSt (w W : World) (q : Nat) (s v2 v3 : Value) (lf : List Fd) (lm : List Mv) : Prop where
  tb : TBx W q s v2 v3 92
  f : OwF W (q + 1) v2 lf
  m : OwM W (q + 1) 161 v3 lm
  bl : Below q w W
  lt : q + 1 ≤ W.heap.size
  kt : KeepTy 92 w W
  wq : w.heap.size ≤ q
section
variable {w W W' : World} {q : Nat} {s v2 v3 v' : Value} {lf lf' : List Fd} {lm lm' : List Mv}
theorem RoSt.on (h : RoSt w W q s v2 v3 lf lm) (hb : Below W.heap.size W W') : RoSt w W' q s v2 v3 lf lm :=
  ⟨h.tb.on hb, h.f.on hb, h.m.on hb, h.bl.trans (hb.mono (by have := h.lt; omega)), Nat.le_trans h.lt hb.size, h.kt.trans (KeepTy.below hb), h.wq⟩
theorem RoSt.appF (h : RoSt w W q s v2 v3 lf lm) (hg : W.grownBy W' v2.ownBlock) (ho : OwF W' (q + 1) v' lf') : RoSt w (W'.setCell ⟨q, 1, none⟩ v') q s v' v3 lf' lm :=
  have ht : TBx W' q s v2 v3 92 := (KeepTy.grown hg (fun r e => (h.f.blk2 r e).2) (by decide)) q _ h.tb
  ⟨ht.set1 v', ho.set (by omega) 1 _, (h.m.ty (KeepTy.grown hg (fun r e => (h.f.blk2 r e).2) (by decide))).set (by omega) 1 _,
    (h.bl.grown hg (by have := h.lt; omega) (fun j e => by have := (h.f.blk2 j e).1; omega)).setCell (p := ⟨q, 1, none⟩) (Nat.le_refl _) _, by simp only [size_set]; exact Nat.le_trans h.lt hg.size, (h.kt.trans (KeepTy.grown hg (fun r e => (h.f.blk2 r e).2) (by decide))).setN h.wq 1 _, h.wq⟩
theorem RoSt.appM (h : RoSt w W q s v2 v3 lf lm) (hg : W.grownBy W' v3.ownBlock) (ho : OwM W' (q + 1) 161 v' lm') : RoSt w (W'.setCell ⟨q, 2, none⟩ v') q s v2 v' lf lm' :=
  have ht : TBx W' q s v2 v3 92 := (KeepTy.grown hg (fun r e => (h.m.blk2 r e).2) (by decide)) q _ h.tb
  ⟨ht.set2 v', (h.f.ty (KeepTy.grown hg (fun r e => (h.m.blk2 r e).2) (by decide))).set (by omega) 2 _, ho.set (by omega) 2 _,
    (h.bl.grown hg (by have := h.lt; omega) (fun j e => by have := (h.m.blk2 j e).1; omega)).setCell (p := ⟨q, 2, none⟩) (Nat.le_refl _) _, by simp only [size_set]; exact Nat.le_trans h.lt hg.size, (h.kt.trans (KeepTy.grown hg (fun r e => (h.m.blk2 r e).2) (by decide))).setN h.wq 2 _, h.wq⟩
end
theorem below_drew {B : Nat} {a b : World} (h : Below B a b) : Below B a b.drew := Bd h 1
set_option maxRecDepth 20000 in
set_option maxHeartbeats 12000000 in
theorem reorder_any {w : World} {B : Nat} {v : Value} {T : Tb} (h : OwT w B v T) (hl : T.nw.length ≤ 1000 ∧ T.mv.length = T.nw.length) (hf : okF T.nw) (hm : ∀ m ∈ T.mv, I64 m.fr ∧ I64 m.k ∧ U64 m.n)
    {A : Option Addr} {n cp : Nat} {od : List Int} (ho : RdI w w.heap.size A n cp od) :
    Calls Tryz.prog 179 #[v, .slice A n cp] w (DeedQ w B (ordR T od).1 (ordR T od).2) := by
  obtain ⟨v1, v2, v3, B2, rfl, hts⟩ := h.ts
  have hBw : B ≤ w.heap.size := Nat.le_trans hts.b2 hts.sz
  obtain ⟨w0, hw0⟩ : ∃ w0, w0 = (w.alloc (.cells #[v1, v2, v3] 92)).alloc (.cells #[.slice none 0 0, .slice none 0 0, .slice none 0 0] 92) := ⟨_, rfl⟩
  obtain ⟨p0, hp0⟩ : ∃ p0, p0 = w.heap.size := ⟨_, rfl⟩
  obtain ⟨p1, hp1⟩ : ∃ p1, p1 = w.heap.size + 1 := ⟨_, rfl⟩
  have HW0 := hid hw0; have HP0 := hid hp0; have HP1 := hid hp1
  have HB0 : Hid (Below w.heap.size w w0) := by rw [hw0]; exact hid (Ba (B1 _ _) _)
  have HT0 : Hid (TBx w0 p0 v1 v2 v3 92) := by rw [hw0, hp0]; exact hid ((tb_new w _ _ _ _).on (B1 _ _))
  have HZ0 : Hid (TBx w0 p1 (.slice none 0 0) (.slice none 0 0) (.slice none 0 0) 92) := by
    rw [hw0, hp1, ← World.size_alloc w (.cells #[v1, v2, v3] 92)]; exact hid (tb_new _ _ _ _ _)
  have HTS0 := hid (hts.on HB0.out)
  have HO0 := hid (ho.on HB0.out)
  have HBB0 : Hid (BK w B w0) := hid (BK.start HB0.out hBw)
  have HBP : Hid ((B ≤ w.heap.size ∧ w.heap.size ≤ p0) ∧ (B ≤ w.heap.size ∧ w.heap.size ≤ p1) ∧ p1 ≠ p0) := hid (by omega)
  have HL := hid hl
  obtain ⟨⟨A1, n1, c1, rfl⟩, ⟨A2, n2, c2, rfl⟩, ⟨A3, n3, c3, rfl⟩⟩ := hts.shapes
  have HRF : Hid (RdF w0 w0.heap.size A2 n2 c2 T.nw) := by
    obtain ⟨A', c', e, hr⟩ := HTS0.out.n.rd hf
    cases e; exact hid hr
  have HRM : Hid (RdM w0 w0.heap.size A3 n3 c3 T.mv) := by
    obtain ⟨A', c', e, hr⟩ := HTS0.out.m.rd hm
    cases e; exact hid hr
  have HN2 : Hid (T.nw.length = n2) := hid HRF.out.1
  have HN3 : Hid (T.mv.length = n3) := hid HRM.out.1
  have HOL : Hid (od.length = n) := hid ho.1
  have hnm : (n : Int) ≤ 9223372036854775807 := by have := Nat.le_trans ho.2.1 ho.2.2.1; unfold maxLen at this; omega
  obtain ⟨a0, a1, a2⟩ := HT0.out.cells
  clear h hts hw0 hp0 hp1 hf hm hl hBw ho
  go_enter Tryz.func179, Tryz.ntmps179
  go_upto_region 1 with fail
  rw [← HW0.out, ← HP1.out, ← HP0.out]
  go_wp2_with fail
  refine (isorder_any HO0.out n2 (by have := HL.out; have := HN2.out; omega)).mono ?_
  rintro e w1 ⟨rfl, hb1⟩
  have HTS1 := hid (HTS0.out.on hb1)
  have HT1 := hid (HT0.out.on hb1)
  have HZ1 := hid (HZ0.out.on hb1)
  have HB1 : Hid (BK w B w1) := hid (HBB0.out.on (Nat.le_trans HTS0.out.b2 HTS0.out.sz) hb1)
  have HRF1 := hid (HRF.out.on hb1); have HRM1 := hid (HRM.out.on hb1); have HO1 := hid (HO0.out.on hb1)
  clear hb1 a0 a1 a2
  obtain ⟨a0, a1, a2⟩ := HT1.out.cells
  obtain ⟨z0, z1, z2⟩ := HZ1.out.cells
  have y0 := HZ1.out.frozen 0; have y1 := HZ1.out.frozen 1; have y2 := HZ1.out.frozen 2
  cases hab : allB od n2 with
  | false =>
    have HE : Hid (ordR T od = (Tb.none, 80)) := hid (by unfold ordR; rw [HN2.out, hab]; rfl)
    clear hab
    go_wp2_with fail
    rw [HE.out]
    exact ret_TBpe (by rfl) (by rfl) (HZ1.out.set3 _ _ _) (by rfl) (by rfl) ⟨_, rfl, OwT.none _ _ (by simp only [size_set]; exact Nat.le_trans HTS1.out.b2 HTS1.out.sz), HB1.out.set3 HBP.out.2.1 _ _ _⟩
  | true =>
    have HE : Hid (ordR T od = (⟨T.o, odF T.nw od, odMv T.mv od⟩, 0)) := hid (by unfold ordR; rw [HN2.out, hab]; rfl)
    have HMEM := hid (allB_mem hab)
    have HNN : Hid (n = n2) := hid (by have := (allB_iff.1 hab).1; have := HOL.out; omega)
    clear hab
    obtain ⟨q, hq⟩ : ∃ q, q = w1.heap.size := ⟨_, rfl⟩
    obtain ⟨w2, hw2⟩ : ∃ w2, w2 = w1.alloc (.cells #[.slice A1 n1 c1, .slice none 0 0, .slice none 0 0] 92) := ⟨_, rfl⟩
    have HQ := hid hq; have HW2 := hid hw2
    have HR0 : Hid (RoSt w1 w2 q (.slice A1 n1 c1) (.slice none 0 0) (.slice none 0 0) (odF T.nw (od.take 0)) (odMv T.mv (od.take 0))) := by
      rw [hw2, hq]; exact hid ⟨tb_new _ _ _ _ _, OwF.nil _ _, OwM.nil _ _ _, B1 _ _, by simp, KeepTy.below (B1 _ _), Nat.le_refl _⟩
    clear hq hw2
    go_upto_region 4 with fail
    rw [← HW2.out, ← HQ.out]
    clear a0 a1 a2 z0 z1 z2 y0 y1 y2
    go_wp2_with fail
    go_loopw [21] (fun i wr => ∃ k : Nat, k ≤ n ∧ i = .int .i64 k ∧ Hid (∃ u2 u3, RoSt w1 wr q (.slice A1 n1 c1) u2 u3 (odF T.nw (od.take k)) (odMv T.mv (od.take k)))) (fun i _ => n - (intOf i).toNat)
    case atStart => exact ⟨0, Nat.zero_le _, rfl, hid ⟨_, _, HR0.out⟩⟩
    case round =>
      obtain ⟨k, hk, rfl, ⟨u2, u3, hs⟩⟩ := hrel
      have HS := hid hs
      have HBL : Hid (Below w1.heap.size w1 wr) := hid (hs.bl.mono (Nat.le_of_eq HQ.out.symm))
      obtain ⟨a0, a1, a2⟩ := (HT1.out.on HBL.out).cells
      obtain ⟨b0, b1, b2⟩ := hs.tb.cells
      clear hs
      by_cases hlt : k < n
      · obtain ⟨x, hx⟩ : ∃ x, od[k]? = some x := ⟨_, List.getElem?_eq_getElem (by have := HOL.out; omega)⟩
        obtain ⟨hx0, hx1⟩ := HMEM.out x (List.mem_of_getElem? hx)
        obtain ⟨f, hf⟩ : ∃ f, T.nw[x.toNat]? = some f := ⟨_, List.getElem?_eq_getElem (by have := HN2.out; omega)⟩
        obtain ⟨m, hm⟩ : ∃ m, T.mv[x.toNat]? = some m := ⟨_, List.getElem?_eq_getElem (by have := HN2.out; have := HL.out.2; omega)⟩
        obtain ⟨_, _, ob, ooff, rfl, hoc⟩ := HO1.out.at hx
        obtain ⟨hxn, _, _, _, fb, foff, rfl, hfc⟩ := HRF1.out.at hf
        obtain ⟨hxm, _, _, _, mb, moff, rfl, hmc⟩ := HRM1.out.at hm
        have o0 := hoc wr HBL.out
        obtain ⟨g0, g1, g2⟩ := hfc wr HBL.out
        have HMC := hid hmc
        have HX := hid hx
        have HXT : Hid (((x.toNat : Nat) : Int) = x) := hid (Int.toNat_of_nonneg hx0)
        have hki : (k : Int) < n := by omega
        have hk0 : (0 : Int) ≤ k := by omega
        have hx2 : x < (n2 : Int) := hx1
        have hx3 : x < (n3 : Int) := by have := HN3.out; have := HN2.out; have := HL.out.2; omega
        have HFA : Hid (fdAt T.nw x = some f) := hid (by unfold fdAt; rw [if_pos hx0, hf])
        have HMA : Hid (mvAt T.mv x = some m) := hid (by unfold mvAt; rw [if_pos hx0, hm])
        have HK : Hid ((od.take k).length ≤ 1000) := hid (by rw [List.length_take]; have := HNN.out; have := HN2.out; have := HL.out.1; omega)
        clear hoc hfc hmc hf hm hx
        have hsd := HS.out.on (below_drew (B0 wr))
        obtain ⟨u2', w3, hrun, hown, hgr⟩ := run_appFd2 hsd.f f (Nat.le_trans (odF_le _ _) (Nat.le_trans HK.out (by omega))) hsd.lt 32
        have hro := (hsd.on (B1 wr.drew (.cells #[.string (bs f.nm), .int .i64 f.k, .int .i64 f.g] 68))).appF hgr hown
        rw [← odF_take HX.out HFA.out] at hro
        have htb3 : TBx w3 q (.slice A1 n1 c1) u2 u3 92 := (KeepTy.grown hgr (fun r e => ((hsd.on (B1 wr.drew (.cells #[.string (bs f.nm), .int .i64 f.k, .int .i64 f.g] 68))).f.blk2 r e).2) (by decide)) q _ (hsd.on (B1 wr.drew (.cells #[.string (bs f.nm), .int .i64 f.k, .int .i64 f.g] 68))).tb
        have fz := htb3.frozen 1
        have d1 := htb3.cells.2.1
        obtain ⟨A4, n4, c4, rfl⟩ := hown.shape
        have HRUN : Hid ((Builtin.append_ #[32, 32] 32 #[u2, .slice (some ⟨wr.heap.size, 0, none⟩) 1 1]).run Tryz.prog (wr.alloc (.cells #[.string (bs f.nm), .int .i64 f.k, .int .i64 f.g] 68)).drew = .ok (.slice A4 n4 c4) w3) := hid hrun
        have HRO := hid hro
        have b1' : (wr.alloc (.cells #[.string (bs f.nm), .int .i64 f.k, .int .i64 f.g] 68)).cell? ⟨q, 1, none⟩ = some u2 := (HS.out.on (B1 _ _)).tb.cells.2.1
        clear hrun hown hgr hro htb3 hsd
        go_upto_region 7 with fail
        go_region_law (refine step_appG rfl (.tmp 26) (.tmp 32) rfl (by rfl) (by rfl) HRUN.out ?_)
        all_goals
          obtain ⟨W3, hW3⟩ : ∃ W3, W3 = w3.setCell ⟨q, 1, none⟩ (.slice A4 n4 c4) := ⟨_, rfl⟩
          rw [← hW3]
          rw [← hW3] at HRO
          have HBL3 : Hid (Below w1.heap.size w1 W3) := hid (HRO.out.bl.mono (Nat.le_of_eq HQ.out.symm))
          clear hW3 a0 a1 a2 b0 b1 b2 o0 g0 g1 g2 fz d1 b1'
          obtain ⟨a0, a1, a2⟩ := (HT1.out.on HBL3.out).cells
          obtain ⟨b0, b1, b2⟩ := HRO.out.tb.cells
          obtain ⟨m0, m1, m2, m3⟩ := HMC.out W3 HBL3.out
          have hsd := HRO.out.on (below_drew (B0 W3))
          obtain ⟨u3', w5, hrun, hown, hgr⟩ := run_appMv Tryz.underlying90 infoMp hsd.m m (Nat.le_trans (odMv_le _ _) (Nat.le_trans HK.out (by omega))) hsd.lt 90
          have hro := (hsd.on (B1 W3.drew (.cells #[.int .i64 m.fr, .int .i64 m.k, .int .u64 m.n, .string m.t] 161))).appM hgr hown
          rw [← odMv_take HX.out HMA.out] at hro
          have htb3 : TBx w5 q (.slice A1 n1 c1) (.slice A4 n4 c4) u3 92 := (KeepTy.grown hgr (fun r e => ((hsd.on (B1 W3.drew (.cells #[.int .i64 m.fr, .int .i64 m.k, .int .u64 m.n, .string m.t] 161))).m.blk2 r e).2) (by decide)) q _ (hsd.on (B1 W3.drew (.cells #[.int .i64 m.fr, .int .i64 m.k, .int .u64 m.n, .string m.t] 161))).tb
          have fz := htb3.frozen 2
          have d1 := htb3.cells.2.2
          obtain ⟨A5, n5, c5, rfl⟩ := hown.shape
          have HRUN2 : Hid ((Builtin.append_ #[90, 90] 90 #[u3, .slice (some ⟨W3.heap.size, 0, none⟩) 1 1]).run Tryz.prog (W3.alloc (.cells #[.int .i64 m.fr, .int .i64 m.k, .int .u64 m.n, .string m.t] 161)).drew = .ok (.slice A5 n5 c5) w5) := hid hrun
          have HRO2 := hid hro
          have b1' : (W3.alloc (.cells #[.int .i64 m.fr, .int .i64 m.k, .int .u64 m.n, .string m.t] 161)).cell? ⟨q, 2, none⟩ = some u3 := (HRO.out.on (B1 _ _)).tb.cells.2.2
          clear hrun hown hgr hro htb3 hsd
          go_upto_region 8 with fail
          go_region_law (refine step_appG rfl (.tmp 36) (.tmp 42) rfl (by rfl) (by rfl) HRUN2.out ?_)
          all_goals
            clear a0 a1 a2 b0 b1 b2 m0 m1 m2 m3 fz d1 b1'
            go_wp2_with fail
            exact ⟨⟨k + 1, by omega, by go_num, hid ⟨_, _, HRO2.out⟩⟩, by simp [intOf]; omega⟩
      · have hkn : k = n := by omega
        have e1 : od.take k = od := List.take_of_length_le (by have := HOL.out; omega)
        rw [e1] at HS
        have hki : ¬ ((k : Int) < n) := by omega
        have HB9 : Hid (BK w B wr) := hid ⟨HB1.out.1.trans (HBL.out.mono (Nat.le_trans HTS1.out.b2 HTS1.out.sz)), HB1.out.2.trans HS.out.kt⟩
        have HTS9 : Hid (TS wr B (q + 1) (.slice A1 n1 c1) u2 u3 ⟨T.o, odF T.nw od, odMv T.mv od⟩) := hid
          ⟨(HTS1.out.on HBL.out).o, HS.out.f, OwM.less HS.out.m (by have := HTS1.out.b2; have := HTS1.out.sz; have := HQ.out; omega), by have := HTS1.out.b2; have := HTS1.out.sz; have := HQ.out; omega, HS.out.lt,
            fun r e => by have := HTS1.out.ap r e; have := HTS1.out.sz; have := HQ.out; omega⟩
        obtain ⟨_, ⟨A4, n4, c4, rfl⟩, ⟨A5, n5, c5, rfl⟩⟩ := HTS9.out.shapes
        have HZ9 := hid (HZ1.out.on HBL.out)
        obtain ⟨z0, z1, z2⟩ := HZ9.out.cells
        have y0 := HZ9.out.frozen 0; have y1 := HZ9.out.frozen 1; have y2 := HZ9.out.frozen 2
        clear hkn e1
        go_wp2_with fail
        rw [HE.out]
        exact ret_TBpe (by rfl) (by rfl) (HZ9.out.set3 _ _ _) (by rfl) (by rfl) ⟨_, rfl, (HTS9.out.box3 HZ9.out _ _ _).owt, HB9.out.set3 HBP.out.2.1 _ _ _⟩
end Go.Proofs.YtaegencmnmjgbaaGreat
