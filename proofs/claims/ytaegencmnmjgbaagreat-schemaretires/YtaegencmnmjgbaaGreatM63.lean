/-
  The bytes of a catalogue: Encode.
-/
import Derived.Test.YtaegencmnmjgbaaGreatM62

namespace Go.Proofs.YtaegencmnmjgbaaGreat
open Go.RowKit Go.Maps
set_option linter.unusedVariables false
set_option linter.unusedSimpArgs false
structure KB (w W : World) (p : Nat) (cs : Array Value) (ty : TypeId) (v : Value) (X : List UInt8) : Prop where
  ow : Own W w.heap.size v X
  bx : W.heap[p]? = some (.cells cs ty (0, 0))
  bl : Below w.heap.size w W
section
variable {w W W' : World} {p : Nat} {cs : Array Value} {ty : TypeId} {v v' : Value} {X Y : List UInt8}
theorem KB.on (h : KB w W p cs ty v X) (hb : Below W.heap.size W W') : KB w W' p cs ty v X := ⟨h.ow.grown hb, (hb.block p (row_lt h.bx)).trans h.bx, h.bl.trans (hb.mono h.bl.size)⟩
theorem KB.app (h : KB w W p cs ty v X) (hne : ty ≠ 5) (hg : W.grownBy W' v.ownBlock) (ho : Own W' w.heap.size v' Y) : KB w W' p cs ty v' Y :=
  ⟨ho, (hg.block p (row_lt h.bx) (fun e => by
    obtain ⟨_, cs, hc⟩ := h.ow.blk2 p e.symm
    have := h.bx; rw [hc] at this; cases this; exact hne rfl)).trans h.bx, h.bl.grown hg h.bl.size (fun j e => (h.ow.blk2 j e).1)⟩
end
theorem verF_take {t : Ty} (h : okTy t) (j : Nat) : (((verL t).take j).map verE).flatten.length ≤ j * 70000 := by
  induction j with
  | zero => rw [List.take_zero]; exact Nat.zero_le _
  | succ j ih =>
    cases hT : (verL t)[j]? with
    | none =>
      have : (verL t).take (j + 1) = (verL t).take j := by rw [List.take_add_one, hT]; simp
      rw [this]; exact Nat.le_trans ih (Nat.mul_le_mul_right _ (Nat.le_succ j))
    | some T =>
      rw [List.take_add_one, hT]
      have := verE_len (verL_ok h hT)
      rw [List.map_append, List.flatten_append, List.length_append, Nat.succ_mul]
      have e1 : ((Option.some T).toList.map verE).flatten = verE T := by simp
      rw [e1]; exact Nat.add_le_add ih this
theorem encTy_len {t : Ty} (h : okTy t) : (encTy t).length ≤ 5000000 := by
  rw [encTy_ver h]
  have h1 := verF_take h (verL t).length
  rw [List.take_length] at h1
  have h2 := name_short h.1
  obtain ⟨q1, q2, q3, q4, q5⟩ : 1 ≤ t.lo ∧ t.hi ≤ 64 ∧ (verL t).length ≤ 65 ∧ True ∧ True := by
    obtain ⟨_, a, b, c, _⟩ := h
    rw [verL_length]; unfold Ty.hi at b
    refine ⟨a, by unfold Ty.hi; omega, by omega, trivial, trivial⟩
  simp only [List.length_append, le_length]
  omega
theorem encTs_take {l : List Ty} {j : Nat} {t : Ty} (h : l[j]? = some t) : encTs (l.take (j + 1)) = encTs (l.take j) ++ encTy t := by
  unfold encTs; rw [List.take_add_one, h]; simp
theorem encTs_len {l : List Ty} (h : ∀ t ∈ l, okTy t) (j : Nat) : (encTs (l.take j)).length ≤ j * 5000000 := by
  induction j with
  | zero => rw [List.take_zero]; exact Nat.zero_le _
  | succ j ih =>
    cases hT : l[j]? with
    | none =>
      have : l.take (j + 1) = l.take j := by rw [List.take_add_one, hT]; simp
      rw [this]; exact Nat.le_trans ih (Nat.mul_le_mul_right _ (Nat.le_succ j))
    | some t =>
      rw [encTs_take hT, List.length_append, Nat.succ_mul]
      exact Nat.add_le_add ih (encTy_len (h t (List.mem_of_getElem? hT)))
theorem verF_next {t : Ty} {i : Nat} {T : Tb} (h : (verL t)[i]? = some T) : (((verL t).take (i + 1)).map verE).flatten = (((verL t).take i).map verE).flatten ++ verE T := by
  rw [List.take_add_one, h]; simp
theorem since_all {t : Ty} (h : okTy t) : sinceL (some t) t.lo = verL t := by
  unfold sinceL
  have := verL_length t
  show (if t.lo < t.lo ∨ t.lo + ((verL t).length : Int) - 1 < t.lo then [] else (verL t).drop (t.lo - t.lo).toNat) = _
  rw [if_neg (by omega), Int.sub_self]; rfl
set_option maxRecDepth 20000 in
set_option maxHeartbeats 16000000 in
theorem encode9_any {w : World} {c mb n B : Nat} {r : List UInt8 → Pl} {l : List Ty} (h : Cat w c mb n B r l) :
    Calls Tryz.prog 18 #[.pointer (some ⟨c, 0, none⟩)] w fun e w' => ∃ v, e = .returned v ∧ Own w' w.heap.size v (encS l) ∧ Below w.heap.size w w' := by
  have H := hid h
  have h16 := h.ok.2.1
  clear h
  go_enter Tryz.func18, Tryz.ntmps18
  go_wp2_with fail
  refine (names_any H.out).mono ?_
  rintro e w1 ⟨A1, m1, d1, rfl, hr1, hb1⟩
  have HB1 := hid hb1
  have HC1 := hid (H.out.on hb1)
  have hm : m1 = l.length := by rw [← hr1.1, List.length_map]
  have HR1 := hid hr1
  have HM := hid hm
  have hmi : (m1 : Int) ≤ 16 := by omega
  clear hb1 hr1 hm
  go_wp2_with fail
  refine (numb9_any 1 (m1 : Int) w1 (.inl rfl) (by omega) (.inl (by omega))).mono ?_
  rintro e w2 ⟨v2, rfl, ho2, hb2⟩
  have HB2 := hid hb2
  have HO2 : Hid (Own w2 w1.heap.size v2 (le (m1 : Int) 1)) := hid ho2
  obtain ⟨A2, m2, d2, rfl⟩ := ho2.shape2
  clear ho2 hb2
  go_wp2_with fail
  go_loopw [4, 17] (fun v i wr => ∃ (j : Nat) (A : Option Addr) (n c : Nat), j ≤ m1 ∧ i = .int .i64 j ∧ v = .slice A n c ∧ Hid (Own wr w1.heap.size (.slice A n c) (le (m1 : Int) 1 ++ encTs (l.take j))) ∧ Hid (Below w1.heap.size w1 wr)) (fun _ i _ => m1 - (intOf i).toNat)
  case atStart => exact ⟨0, _, _, _, by omega, rfl, rfl, hid (by simpa [encTs] using HO2.out), HB2⟩
  case round =>
    obtain ⟨j, A, nn, cc, hj, rfl, rfl, HO, HB⟩ := hrel
    have HRS := hid (HR1.out.on stPB HB.out)
    by_cases hlt : j < m1
    · obtain ⟨t, ht⟩ : ∃ t, l[j]? = some t := ⟨_, List.getElem?_eq_getElem (by have := HM.out; omega)⟩
      have hnm : (l.map Ty.nm)[j]? = some t.nm := by rw [List.getElem?_map, ht]; rfl
      obtain ⟨_, _, b, off, rfl, _, hc⟩ := HRS.out.at hnm
      have y0 := hc wr (B0 _) 0 (by omega)
      rw [Nat.mul_one, Nat.add_zero] at y0
      simp only [stCel, List.getElem?_cons_zero] at y0
      have HC := hid (HC1.out.on HB.out)
      have HT := hid (H.out.ok.2.2 t (List.mem_of_getElem? ht))
      have HAT := hid (rise_at H.out.ok.1 (List.mem_of_getElem? ht))
      have HTK := hid (encTs_take ht)
      have HXL : Hid ((le (m1 : Int) 1 ++ encTs (l.take j)).length ≤ 100000000) := hid (by
        have := encTs_len H.out.ok.2.2 j
        rw [List.length_append, le_length]; omega)
      have hns := name_short HT.out.1
      have HK : Hid (SK t.nm) := hid (by unfold SK maxLen; omega)
      obtain ⟨lo, Ah, mh, ch, e1, e2, e3⟩ := HC.out.look t.nm
      have hl := HC.out.mp.look Tryz.underlying84 (Tryz.zeroValue83 wr) HK.out
      change (Instr.lookup 84 (.map (some mb)) (.string (bs t.nm)) false).run Tryz.prog wr = .ok ((catF l r t.nm).getD (hV 0 none 0 0)) wr at hl
      rw [e1] at hl
      rw [HAT.out] at e2
      have HHI := hid e2
      have HCATE := hid e1
      have c0 : wr.cell? ⟨c, 0, none⟩ = some (.map (some mb)) := row_cell HC.out.box 0
      obtain ⟨k1, k2, k3, k4⟩ := loO_ok (o := some t) (fun u hu => by cases hu; exact HT.out)
      rw [← e2.lo] at k1 k2
      rw [e2.rd.1] at k3
      have HLO : Hid (lo = t.lo) := hid e2.lo
      have HMH : Hid ((mh : Int) = t.ts.length + 1) := hid (by have := e2.rd.1; rw [← this]; show ((verL t).length : Int) = _; rw [verL_length]; omega)
      have HIE : Hid (lo + (mh : Int) - 1 = t.hi) := hid (by rw [HLO.out, HMH.out]; have := HT.out.2.2.2.1; unfold Ty.hi; omega)
      have HI64 : Hid (1 ≤ t.lo ∧ t.hi ≤ 64 ∧ 0 ≤ t.hi) := hid (by have a := HT.out.2.1; have b := HT.out.2.2.1; have := HIE.out; have := HMH.out; exact ⟨a, b, by omega⟩)
      obtain ⟨wv, hwv⟩ : ∃ wv, wv = wr.alloc (.cells #[.int .i64 lo, .slice Ah mh ch] 83) := ⟨_, rfl⟩
      obtain ⟨p, hp⟩ : ∃ p, p = wr.heap.size := ⟨_, rfl⟩
      have HWV := hid hwv; have HP := hid hp
      have hkb : KB w1 wv p #[.int .i64 lo, .slice Ah mh ch] 83 (.slice A nn cc) (le (m1 : Int) 1 ++ encTs (l.take j)) := by
        rw [hwv, hp]; exact ⟨HO.out.grown (B1 _ _), heap_alloc_new _ _, Ba HB.out _⟩
      have HKB := hid hkb
      have HHV : Hid (Hist wv lo Ah mh ch (some t)) := by rw [hwv]; exact hid (e2.on (B1 _ _))
      have hji : (j : Int) < m1 := by omega
      have hj0 : (0 : Int) ≤ j := by omega
      obtain ⟨X, hX⟩ : ∃ X, X = le (m1 : Int) 1 ++ encTs (l.take j) := ⟨_, rfl⟩
      rw [← hX] at HKB HXL
      have HX := hid hX
      unfold hV at hl
      -- the name
      obtain ⟨cb, w4, hrun4, hrd4, hb4⟩ := run_bytesT wv (bs t.nm) (by show t.nm.length ≤ _; omega)
      have etl : (bs t.nm).toList = t.nm := by rw [ByteArray.toList_eq]
      rw [etl] at hrd4
      have esz : (bs t.nm).size = t.nm.length := rfl
      rw [esz] at hrun4 hrd4
      have HKB4 := hid (HKB.out.on hb4)
      have HRD4 := hid hrd4
      have HRUN4 := hid hrun4
      have HB4 := hid hb4
      clear ht hnm hc e1 e2 e3 hwv hp hkb hX hrun4 hrd4 hb4 etl k4
      go_upto_region 7 with fail
      rw [← HWV.out, ← HP.out]
      clear y0 hl c0
      have hconv := HRUN4.out
      go_wp2_with fail
      refine (piece9_any 1 w4 HRD4.out (.inl rfl) (.inl (by omega))).mono ?_
      rintro e w5 ⟨v5, rfl, ho5, hb5⟩
      have HKB5 := hid (HKB4.out.on hb5)
      obtain ⟨A5, d5, rfl, hr5⟩ := ho5.rd
      obtain ⟨L5, hL5⟩ : ∃ L5, L5 = (le (t.nm.length : Int) 1 ++ t.nm).length := ⟨_, rfl⟩
      rw [← hL5] at hr5 ⊢
      have hL16 : L5 ≤ 100 := by rw [hL5, List.length_append, le_length]; omega
      clear hL5
      obtain ⟨v6, w6, hrun6, ho6, hg6, _⟩ := run_append8 HKB5.out.ow hr5 HKB5.out.bl.size (by have := HXL.out; omega) 35
      have HKB6 := hid (HKB5.out.app (by decide) hg6 ho6)
      have HBB6 : Hid (Below wv.heap.size wv w6 ∨ True) := hid (.inr trivial)
      obtain ⟨A6, m6, d6, rfl⟩ := ho6.shape2
      have HRUN6 := hid hrun6
      have hx6 : HBx w6 p lo Ah mh ch := HKB6.out.bx
      obtain ⟨x0, x1⟩ := hx6.cells
      clear hconv ho5 hb5 hr5 hrun6 ho6 hg6 hx6
      go_wp2_with (at_builtin; refine wpList_appG rfl _ _ rfl rfl rfl HRUN6.out ?_)
      refine (numb9_any 1 lo w6 (.inl rfl) k1 (.inl (by omega))).mono ?_
      rintro e w7 ⟨v7, rfl, ho7, hb7⟩
      have HKB7 := hid (HKB6.out.on hb7)
      obtain ⟨A7, d7, rfl, hr7⟩ := ho7.rd
      obtain ⟨v8, w8, hrun8, ho8, hg8, _⟩ := run_append8 HKB7.out.ow hr7 HKB7.out.bl.size (by have := HXL.out; simp only [List.length_append, le_length]; omega) 35
      have HKB8 := hid (HKB7.out.app (by decide) hg8 ho8)
      obtain ⟨A8, m8, d8, rfl⟩ := ho8.shape2
      have HRUN8 := hid hrun8
      have hx8 : HBx w8 p lo Ah mh ch := HKB8.out.bx
      clear x0 x1 ho7 hb7 hr7 hrun8 ho8 hg8
      obtain ⟨x0, x1⟩ := hx8.cells
      have xl := run_loadHB hx8
      clear hx8
      go_wp2_with (at_builtin; refine wpList_appG rfl _ _ rfl rfl rfl HRUN8.out ?_)
      refine (newest_any ⟨k1, by omega⟩ (by omega)).mono ?_
      rintro e w9 ⟨rfl, hb9⟩
      rw [HIE.out]
      have HKB9 := hid (HKB8.out.on hb9)
      clear x0 x1 xl hb9
      go_wp2_with fail
      refine (numb9_any 1 t.hi w9 (.inl rfl) HI64.out.2.2 (.inl (by have := HI64.out; omega))).mono ?_
      rintro e w10 ⟨v10, rfl, ho10, hb10⟩
      have HKB10 := hid (HKB9.out.on hb10)
      obtain ⟨A10, d10, rfl, hr10⟩ := ho10.rd
      obtain ⟨v11, w11, hrun11, ho11, hg11, _⟩ := run_append8 HKB10.out.ow hr10 HKB10.out.bl.size (by have := HXL.out; simp only [List.length_append, le_length]; omega) 35
      have HKB11 := hid (HKB10.out.app (by decide) hg11 ho11)
      obtain ⟨A11, m11, d11, rfl⟩ := ho11.shape2
      have HRUN11 := hid hrun11
      have hx11 : HBx w11 p lo Ah mh ch := HKB11.out.bx
      clear ho10 hb10 hr10 hrun11 ho11 hg11
      obtain ⟨x0, x1⟩ := hx11.cells
      have xl := run_loadHB hx11
      clear hx11
      have hc11 : Cat w11 c mb n B r l := HC1.out.on HKB11.out.bl
      obtain ⟨lo', Ah', mh', ch', e1, e2, e3⟩ := hc11.look t.nm
      have hh := HCATE.out.symm.trans e1
      unfold hV at hh
      simp only [Value.agg.injEq, Array.mk.injEq, List.cons.injEq, Value.int.injEq, Value.slice.injEq, true_and, and_true] at hh
      obtain ⟨rfl, rfl, rfl, rfl⟩ := hh
      rw [HAT.out] at e2
      have HHI11 := hid e2
      have ebs : le (t.hi : Int) 1 = le t.hi 1 := rfl
      clear e1 e2 e3 hc11
      go_wp2_with (at_builtin; refine wpList_appG rfl _ _ rfl rfl rfl HRUN11.out ?_)
      refine (sinceR_any HHI11.out (fun u hu => by cases hu; exact HT.out) lo).mono ?_
      rintro e w12 ⟨A12, n12, d12, rfl, hr12, hb12⟩
      rw [HLO.out, since_all HT.out] at hr12
      have HRW := hid hr12
      have HKB12 := hid (HKB11.out.on hb12)
      have HC12 : Hid (Cat w12 c mb n B r l) := hid (HC1.out.on HKB12.out.bl)
      have hv12 := (hr12 w11 (by rw [← HLO.out]; exact HHI11.out)).1
      have hn12 : (n12 : Int) ≤ 65 := by have := hv12; rw [verL_length] at this; have := HMH.out; omega
      have HV12 := hid hv12
      clear x0 x1 xl hb12 hr12 hv12
      obtain ⟨Y, hY⟩ : ∃ Y, Y = X ++ (le (t.nm.length : Int) 1 ++ t.nm) ++ le lo 1 ++ le t.hi 1 := ⟨_, rfl⟩
      rw [← hY] at HKB12
      have HY : Hid (Y = X ++ (le (t.nm.length : Int) 1 ++ t.nm) ++ le lo 1 ++ le t.hi 1) := hid hY
      have HYL : Hid (Y.length ≤ 100000100) := hid (by have := HXL.out; rw [hY]; simp only [List.length_append, le_length]; omega)
      clear hY
      go_wp2_with fail
      go_loopw [4, 47] (fun v i wr => ∃ (k : Nat) (A : Option Addr) (n c : Nat), k ≤ n12 ∧ i = .int .i64 k ∧ v = .slice A n c ∧ Hid (KB w1 wr p #[.int .i64 lo, .slice Ah mh ch] 83 (.slice A n c) (Y ++ (((verL t).take k).map verE).flatten))) (fun _ i _ => n12 - (intOf i).toNat)
      case atStart => exact ⟨0, _, _, _, by omega, rfl, rfl, hid (by rw [List.take_zero]; simpa using HKB12.out)⟩
      case round =>
        obtain ⟨k, Aq, nq, cq, hk, rfl, rfl, HQ⟩ := hrel
        have HRT : Hid (RdTb wr wr.heap.size A12 n12 d12 (verL t)) := hid (by
          refine HRW.out wr ?_
          have hcr : Cat wr c mb n B r l := HC1.out.on HQ.out.bl
          obtain ⟨lo', Ah', mh', ch', e1, e2, e3⟩ := hcr.look t.nm
          have hh := HCATE.out.symm.trans e1
          unfold hV at hh
          simp only [Value.agg.injEq, Array.mk.injEq, List.cons.injEq, Value.int.injEq, Value.slice.injEq, true_and, and_true] at hh
          obtain ⟨rfl, rfl, rfl, rfl⟩ := hh
          rw [HAT.out] at e2
          rw [← HLO.out]; exact e2)
        by_cases hlt2 : k < n12
        · obtain ⟨T, hT⟩ : ∃ T, (verL t)[k]? = some T := ⟨_, List.getElem?_eq_getElem (by have := HV12.out; omega)⟩
          have HVO := hid (verL_ok HT.out hT)
          have HVN := hid (verF_next hT)
          obtain ⟨_, b3, off3, rfl, _, x1', x2', x3', hrt, hct⟩ := HRT.out.at hT
          obtain ⟨E1, q1, z1, E2, q2, z2, E3, q3, z3, er, r1, r2, r3⟩ := hrt
          cases er
          obtain ⟨y0, y1, y2⟩ := hct wr (B0 _)
          have hki : (k : Int) < n12 := by omega
          have hk0 : (0 : Int) ≤ k := by omega
          obtain ⟨Z, hZ⟩ : ∃ Z, Z = Y ++ (((verL t).take k).map verE).flatten := ⟨_, rfl⟩
          have hZl : Z.length ≤ 110000000 := by
            rw [hZ, List.length_append]
            have a := verF_take HT.out k
            have b := HYL.out
            omega
          rw [← hZ] at HQ
          have HZ := hid hZ; have HZL := hid hZl
          obtain ⟨wx, hwx⟩ : ∃ wx, wx = wr.alloc (.cells #[.slice E1 q1 z1, .slice E2 q2 z2, .slice E3 q3 z3] 92) := ⟨_, rfl⟩
          obtain ⟨px, hpx⟩ : ∃ px, px = wr.heap.size := ⟨_, rfl⟩
          have HWX := hid hwx; have HPX := hid hpx
          have HTX : Hid (TBx wx px (.slice E1 q1 z1) (.slice E2 q2 z2) (.slice E3 q3 z3) 92) := by rw [hwx, hpx]; exact hid (tb_new _ _ _ _ _)
          have HQX : Hid (KB w1 wx p #[.int .i64 lo, .slice Ah mh ch] 83 (.slice Aq nq cq) Z) := by rw [hwx]; exact hid (HQ.out.on (B1 _ _))
          have HRX : Hid (RdT wx wx.heap.size (.agg #[.slice E1 q1 z1, .slice E2 q2 z2, .slice E3 q3 z3]) T) := by rw [hwx]; exact hid (RdT.on ⟨_, _, _, _, _, _, _, _, _, rfl, r1, r2, r3⟩ (B1 _ _))
          have HBX : Hid (Below wr.heap.size wr wx) := by rw [hwx]; exact hid (B1 _ _)
          clear hT hct r1 r2 r3 hZ hZl hwx hpx
          go_upto_region 13 with fail
          rw [← HWX.out, ← HPX.out]
          clear y0 y1 y2
          obtain ⟨y0, y1, y2⟩ := HTX.out.cells
          go_wp2_with fail
          refine (verb9_any HRX.out HVO.out).mono ?_
          rintro e w13 ⟨v13, rfl, ho13, hb13⟩
          have HQ13 := hid (HQX.out.on hb13)
          obtain ⟨A13, d13, rfl, hr13⟩ := ho13.rd
          obtain ⟨L13, hL13⟩ : ∃ L13, L13 = (verE T).length := ⟨_, rfl⟩
          rw [← hL13] at hr13 ⊢
          have hL7 : L13 ≤ 70000 := by rw [hL13]; exact verE_len HVO.out
          clear hL13
          obtain ⟨v14, w14, hrun14, ho14, hg14, _⟩ := run_append8 HQ13.out.ow hr13 HQ13.out.bl.size (by have := HZL.out; omega) 35
          have HQ14 := hid (HQ13.out.app (by decide) hg14 ho14)
          obtain ⟨A14, m14, d14, rfl⟩ := ho14.shape2
          have HRUN14 := hid hrun14
          clear ho13 hb13 hr13 hrun14 ho14 hg14 y0 y1 y2
          go_wp2_with (at_builtin; refine wpList_appG rfl _ _ rfl rfl rfl HRUN14.out ?_)
          exact ⟨⟨k + 1, _, _, _, by omega, by go_num, rfl, by rw [HVN.out, ← List.append_assoc, ← HZ.out]; exact HQ14⟩, by simp [intOf]; omega⟩
        · have hke : (verL t).take k = verL t := List.take_of_length_le (by have := HV12.out; omega)
          rw [hke] at HQ
          have HFIN : Hid (le (m1 : Int) 1 ++ encTs (l.take (j + 1)) = Y ++ ((verL t).map verE).flatten) := hid (by
            rw [HTK.out, encTy_ver HT.out, HY.out, HX.out, HLO.out]
            simp only [List.append_assoc])
          have HOW : Hid (Own wr w1.heap.size (.slice Aq nq cq) (le (m1 : Int) 1 ++ encTs (l.take (j + 1)))) := hid (by rw [HFIN.out]; exact HQ.out.ow)
          have HBQ : Hid (Below w1.heap.size w1 wr) := hid HQ.out.bl
          clear hke
          go_wp2_with fail
          exact ⟨⟨j + 1, _, _, _, by omega, by go_num, rfl, HOW, HBQ⟩, by simp [intOf]; omega⟩
    · have hje : l.take j = l := List.take_of_length_le (by have := HM.out; omega)
      rw [hje] at HO
      have HE : Hid (le (m1 : Int) 1 ++ encTs l = encS l) := hid (by unfold encS; rw [HM.out])
      rw [HE.out] at HO
      clear hje
      go_wp2_with fail
      go_ret
      exact ⟨_, rfl, ow_less HO.out HB1.out.size, Bt HB1.out HB.out⟩
end Go.Proofs.YtaegencmnmjgbaaGreat
