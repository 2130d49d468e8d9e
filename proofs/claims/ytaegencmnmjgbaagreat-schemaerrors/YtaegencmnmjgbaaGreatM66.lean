/-
  The document's Encode of layer 9.
-/
import Derived.Test.YtaegencmnmjgbaaGreatM58
import Derived.Test.YtaegencmnmjgbaaGreatM63
import Derived.Test.YtaegencmnmjgbaaGreatM19

namespace Go.Proofs.YtaegencmnmjgbaaGreat
open Go.RowKit Go.Maps
set_option linter.unusedVariables false
set_option linter.unusedSimpArgs false
theorem rput2s (n : Int) (h0 : 0 ≤ n) (h : n < 65536) : rputL n 2 = le n 2 := by
  unfold rputL; rw [if_pos (by simp [fits, show isW 2 = true from rfl, pw2]; omega)]; rfl
theorem str_app (a b : List UInt8) : (⟨a.toArray⟩ : ByteArray) ++ ⟨b.toArray⟩ = ⟨(a ++ b).toArray⟩ := by rw [ByteArray.mk_append_mk]
set_option maxHeartbeats 4000000 in
theorem r9row_any {w : World} {A : Option Addr} {n c : Nat} {l : List Fd} (h : RdF w w.heap.size A n c l) (hr : rightL l = true) :
    Calls Tryz.prog 80 #[.slice A n c] w fun e w' => e = .returned (.string ⟨(encFs l).toArray⟩) ∧ Below w.heap.size w w' := by
  have H := hid h; have HR := hid hr
  have HE : Hid (encE6 l = (encA l, 0)) := hid (by unfold encE6; rw [hr]; rfl)
  have hS := encA_short hr
  have HU : Hid (U64 ((encA l).length : Int)) := hid ⟨by omega, by rw [pw8]; omega⟩
  have HP : Hid (rputL ((encA l).length : Int) 2 = le (encA l).length 2) := hid (rput2s _ (by omega) (by omega))
  obtain ⟨E, hEE⟩ : ∃ E, E = encA l := ⟨_, rfl⟩
  obtain ⟨P, hPP⟩ : ∃ P, P = le (encA l).length 2 := ⟨_, rfl⟩
  have hPl : P.length = 2 := by rw [hPP, le_length]
  rw [← hPP] at HP
  rw [← hEE] at HU HE HP hS
  have HEF : Hid (encFs l = P ++ E) := hid (by unfold encFs; rw [hPP, hEE])
  have e0 : IntKind.u64.wrap (E.length : Int) = E.length := u64_id (by omega) (by omega)
  have z1 : ¬ 9223372036854775807 < P.length + E.length := by omega
  have hsz : ((⟨E.toArray⟩ : ByteArray).size : Int) = (E.length : Int) := rfl
  clear h hr hEE hPP
  go_enter Tryz.func80, Tryz.ntmps80
  go_wp2_with fail
  refine (r6encode_any H.out (right_short HR.out)).mono ?_
  rintro e w1 ⟨rfl, hb1⟩
  rw [HE.out]
  have HB1 := hid hb1
  clear hb1
  dsimp only
  go_wp2_with fail
  refine (rput_any 2 (E.length : Int) _ HU.out).mono ?_
  rintro e w2 ⟨rfl, hb2⟩
  rw [HP.out]
  have HB2 := hid (Bt HB1.out hb2)
  clear hb2
  go_wp2_with fail
  go_ret
  refine ⟨?_, HB2.out⟩
  rw [HEF.out]
  show Ending.returned (Value.string (⟨P.toArray⟩ ++ ⟨E.toArray⟩)) = _
  rw [str_app]
theorem U64_nat {n : Int} (h0 : 0 ≤ n) (h : n < 256) : U64 n := ⟨h0, by rw [pw8]; omega⟩
theorem encVs_take {t : Ty} (h : okTy t) : encTy t = le t.nm.length 1 ++ t.nm ++ le t.lo 1 ++ le t.hi 1 ++ encFs (t.fs.headD []) ++ (t.ts.map verE).flatten := by
  rw [encTy_ver h]
  unfold verL
  rw [List.map_cons, List.flatten_cons]
  have e0 : verE ⟨[], t.fs.headD [], []⟩ = encFs (t.fs.headD []) := by unfold verE; rw [encMs_nil, List.append_nil]
  rw [e0]; simp only [List.append_assoc]
theorem ts_next {t : Ty} {i : Nat} {T : Tb} (h : t.ts[i]? = some T) : ((t.ts.take (i + 1)).map verE).flatten = ((t.ts.take i).map verE).flatten ++ verE T := by
  rw [List.take_add_one, h]; simp
theorem ts_len {t : Ty} (h : okTy t) (j : Nat) : ((t.ts.take j).map verE).flatten.length ≤ j * 70000 := by
  induction j with
  | zero => rw [List.take_zero]; exact Nat.zero_le _
  | succ j ih =>
    cases hT : t.ts[j]? with
    | none =>
      have : t.ts.take (j + 1) = t.ts.take j := by rw [List.take_add_one, hT]; simp
      rw [this]; exact Nat.le_trans ih (Nat.mul_le_mul_right _ (Nat.le_succ j))
    | some T =>
      rw [ts_next hT, List.length_append, Nat.succ_mul]
      exact Nat.add_le_add ih (verE_len (verL_ok h (i := j + 1) hT))
set_option maxRecDepth 20000 in
set_option maxHeartbeats 16000000 in
theorem r9encode_any {w : World} {A : Option Addr} {n c : Nat} {l : List Ty} (h : DocL w w.heap.size A n c l) (hok : okC l) :
    Calls Tryz.prog 47 #[.slice A n c] w fun e w' => e = .returned (.string ⟨(encS l).toArray⟩) ∧ Below w.heap.size w w' := by
  have hn : n ≤ 16 := by rw [← h.len]; exact hok.2.1
  have hni : (n : Int) ≤ 16 := by omega
  have HL := hid h.len
  have H := hid h; have HOK := hid hok
  have HU0 : Hid (U64 (n : Int)) := hid (U64_nat (by omega) (by omega))
  have e0 : IntKind.u64.wrap (n : Int) = n := u64_id (by omega) (by omega)
  obtain ⟨p0, hp0⟩ : ∃ p0, p0 = le (n : Int) 1 := ⟨_, rfl⟩
  have HP0 : Hid (rputL (n : Int) 1 = p0) := by rw [hp0]; exact hid (rput1 _ (by omega) (by omega))
  have HP01 : Hid (p0.length = 1) := hid (by rw [hp0]; exact le_length _ _)
  have HPP := hid hp0
  clear h hok hp0
  go_enter Tryz.func47, Tryz.ntmps47
  go_wp2_with fail
  refine (rput_any 1 (n : Int) _ HU0.out).mono ?_
  rintro e w1 ⟨rfl, hb1⟩
  rw [HP0.out]
  have HB1 := hid hb1
  clear hb1
  go_wp2_with fail
  go_loopw [3, 4] (fun v i wr => ∃ (j : Nat) (X : List UInt8), j ≤ n ∧ i = .int .i64 j ∧ v = .string ⟨X.toArray⟩ ∧ Hid (X = p0 ++ encTs (l.take j)) ∧ Hid (Below w.heap.size w wr)) (fun _ i _ => n - (intOf i).toNat)
  case atStart => exact ⟨0, p0, by omega, rfl, rfl, hid (by simp [encTs]), HB1⟩
  case round =>
    obtain ⟨j, X, hj, rfl, rfl, HX, HB⟩ := hrel
    by_cases hlt : j < n
    · obtain ⟨t, ht⟩ : ∃ t, l[j]? = some t := ⟨_, List.getElem?_eq_getElem (by have := HL.out; omega)⟩
      have HT := hid (HOK.out.2.2 t (List.mem_of_getElem? ht))
      have HTK := hid (encTs_take ht)
      have hXl : X.length ≤ 100000000 := by
        rw [HX.out, List.length_append, HP01.out]
        have := encTs_len HOK.out.2.2 j
        omega
      obtain ⟨hjn, b, off, v1, v2, rfl, hfs, hts, hc⟩ := H.out.at ht
      obtain ⟨A1, c1, rfl⟩ := hfs.shape
      obtain ⟨A3, c3, rfl⟩ := hts.shape
      obtain ⟨d0, d1, d2, d3⟩ := hc wr HB.out
      obtain ⟨q1, q2, q3, q4, q5⟩ := HT.out.nums
      have hq6 : t.ts.length + 1 = t.fs.length := by have := HT.out.2.2.2.1; omega
      obtain ⟨wv, hwv⟩ : ∃ wv, wv = wr.alloc (.cells #[.string (bs t.nm), .int .i64 t.lo, .slice A1 t.fs.length c1, .slice A3 t.ts.length c3] 60) := ⟨_, rfl⟩
      obtain ⟨q, hq⟩ : ∃ q, q = wr.heap.size := ⟨_, rfl⟩
      have HWV := hid hwv; have HQ := hid hq
      have HXV : Hid (TBy wv q (t, .slice A1 t.fs.length c1, .slice A3 t.ts.length c3)) := by rw [hwv, hq]; exact hid (TBy.new wr (t, .slice A1 t.fs.length c1, .slice A3 t.ts.length c3))
      have HBV : Hid (Below w.heap.size w wv) := by rw [hwv]; exact hid (Ba HB.out _)
      have HFS := hid (hfs.on HBV.out); have HTS := hid (hts.on HBV.out)
      obtain ⟨_, _, _, ef, _, _, _, hff⟩ := HFS.out.at
      cases ef
      obtain ⟨f0, hf0⟩ : ∃ f0, t.fs[0]? = some f0 := ⟨_, List.getElem?_eq_getElem (by omega)⟩
      have HF0 : Hid (t.fs.headD [] = f0) := hid (by cases hh : t.fs with | nil => rw [hh] at hf0; simp at hf0 | cons a b => rw [hh] at hf0; simp at hf0; simp [hf0])
      have HR0 := hid (HT.out.2.2.2.2.1 f0 (List.mem_of_getElem? hf0))
      obtain ⟨_, b0, off0, Af, nf, cf, rfl, hrf, hcf⟩ := hff 0 f0 hf0
      have HRF := hid hrf
      have HCF : Hid (∀ w', Below wv.heap.size wv w' → w'.cell? ⟨b0, off0, none⟩ = some (.slice Af nf cf)) := hid (fun w' h => hcf w' h)
      have hns := name_short HT.out.1
      have hHN := newest_V HT.out
      have HNM := hid hHN
      have HLR : Hid (0 ≤ t.lo ∧ t.lo ≤ 1000) := hid ⟨by omega, by omega⟩
      have HFLN : Hid (t.fs.length ≤ 1000) := hid (by omega)
      have e1 : IntKind.u64.wrap (t.nm.length : Int) = (t.nm.length : Int) := u64_id (by omega) (by omega)
      have e2 : IntKind.u64.wrap t.lo = t.lo := u64_id (by omega) (by omega)
      have e3 : IntKind.u64.wrap t.hi = t.hi := u64_id (by omega) (by omega)
      have HU1 : Hid (U64 (t.nm.length : Int)) := hid (U64_nat (by omega) (by omega))
      have HU2 : Hid (U64 t.lo) := hid (U64_nat (by omega) (by omega))
      have HU3 : Hid (U64 t.hi) := hid (U64_nat (by omega) (by omega))
      obtain ⟨pa, hpa⟩ : ∃ p, p = le (t.nm.length : Int) 1 := ⟨_, rfl⟩
      obtain ⟨pb, hpb⟩ : ∃ p, p = le t.lo 1 := ⟨_, rfl⟩
      obtain ⟨pc, hpc⟩ : ∃ p, p = le t.hi 1 := ⟨_, rfl⟩
      obtain ⟨pd, hpd⟩ : ∃ p, p = encFs f0 := ⟨_, rfl⟩
      have HPA : Hid (rputL (t.nm.length : Int) 1 = pa) := by rw [hpa]; exact hid (rput1 _ (by omega) (by omega))
      have HPB : Hid (rputL t.lo 1 = pb) := by rw [hpb]; exact hid (rput1 _ (by omega) (by omega))
      have HPC : Hid (rputL t.hi 1 = pc) := by rw [hpc]; exact hid (rput1 _ (by omega) (by omega))
      have HPD := hid hpd
      have hla : pa.length = 1 := by rw [hpa]; exact le_length _ _
      have hlb : pb.length = 1 := by rw [hpb]; exact le_length _ _
      have hlc : pc.length = 1 := by rw [hpc]; exact le_length _ _
      have hld : pd.length ≤ 65540 := by rw [hpd]; unfold encFs; have := encA_short HR0.out; rw [List.length_append, le_length]; omega
      have HENC : Hid (encTy t = pa ++ t.nm ++ pb ++ pc ++ pd ++ (t.ts.map verE).flatten) := hid (by rw [encVs_take HT.out, HF0.out, hpa, hpb, hpc, hpd])
      have z1 : ¬ 9223372036854775807 < X.length + 1 := by omega
      have z2 : ¬ 9223372036854775807 < X.length + 1 + t.nm.length := by omega
      have z3 : ¬ 9223372036854775807 < X.length + 1 + t.nm.length + 1 := by omega
      have z4 : ¬ 9223372036854775807 < X.length + 1 + t.nm.length + 1 + 1 := by omega
      have z5 : ¬ 9223372036854775807 < X.length + 1 + t.nm.length + 1 + 1 + pd.length := by omega
      have hji : (j : Int) < n := by omega
      have hj0 : (0 : Int) ≤ j := by omega
      clear ht hfs hts hc hwv hq hff hf0 hrf hcf hpa hpb hpc hpd hHN q5
      go_upto_region 6 with fail
      rw [← HWV.out, ← HQ.out]
      clear d0 d1 d2 d3
      refine reg_begin (by kernel_rfl) (fun w0a hx0a hHeld => ?_)
      have xa : ∀ w', Ext w0a w' → TBy w' q (t, .slice (some ⟨b0, off0, none⟩) t.fs.length c1, .slice A3 t.ts.length c3) := fun w' h => (HXV.out.on (Bt (B0 _) hx0a)).on h
      have xl := fun w' (h : Ext w0a w') => run_loadTy (xa w' h)
      have xb0 : ∀ w', Ext w0a w' → w'.cell? ⟨q, 0, none⟩ = some (.string (bs t.nm)) := fun w' h => (xa w' h).cells.1
      have xb1 : ∀ w', Ext w0a w' → w'.cell? ⟨q, 1, none⟩ = some (.int .i64 t.lo) := fun w' h => (xa w' h).cells.2.1
      have xb2 : ∀ w', Ext w0a w' → w'.cell? ⟨q, 2, none⟩ = some (.slice (some ⟨b0, off0, none⟩) t.fs.length c1) := fun w' h => (xa w' h).cells.2.2.1
      have xb3 : ∀ w', Ext w0a w' → w'.cell? ⟨q, 3, none⟩ = some (.slice A3 t.ts.length c3) := fun w' h => (xa w' h).cells.2.2.2
      have xc : ∀ w', Ext w0a w' → w'.cell? ⟨b0, off0, none⟩ = some (.slice Af nf cf) := fun w' h => HCF.out w' (Bt (Bt (B0 _) hx0a) h)
      dsimp only at xl
      clear xa
      refine reg_take 0 (v := ?vb0) at0 (by kernel_rfl) (by kernel_rfl) (by kernel_rfl) (by rfl) ?hyb0 hHeld ?restb0
      case hyb0 => (intro w' hSw; go_simp; try with_reducible rfl)
      try simp only [Act.put, List.setIfInBounds_toArray, List.set_cons_zero, List.set_cons_succ]
      refine reg_take 1 (v := ?vb1) (atS at0) (by kernel_rfl) (by kernel_rfl) (by kernel_rfl) (by rfl) ?hyb1 hHeld ?restb1
      case hyb1 => (intro w' hSw; go_simp; try with_reducible rfl)
      try simp only [Act.put, List.setIfInBounds_toArray, List.set_cons_zero, List.set_cons_succ]
      refine reg_take 2 (v := ?vb2) (atS (atS at0)) (by kernel_rfl) (by kernel_rfl) (by kernel_rfl) (by rfl) ?hyb2 hHeld ?restb2
      case hyb2 => (intro w' hSw; go_simp; try with_reducible rfl)
      try simp only [Act.put, List.setIfInBounds_toArray, List.set_cons_zero, List.set_cons_succ]
      refine reg_take 3 (v := ?vb3) (atS (atS (atS at0))) (by kernel_rfl) (by kernel_rfl) (by kernel_rfl) (by rfl) ?hyb3 hHeld ?restb3
      case hyb3 => (intro w' hSw; go_simp; try with_reducible rfl)
      try simp only [Act.put, List.setIfInBounds_toArray, List.set_cons_zero, List.set_cons_succ]
      refine reg_take 4 (v := ?vb4) (atS (atS (atS (atS at0)))) (by kernel_rfl) (by kernel_rfl) (by kernel_rfl) (by rfl) ?hyb4 hHeld ?restb4
      case hyb4 => (intro w' hSw; go_simp; try with_reducible rfl)
      try simp only [Act.put, List.setIfInBounds_toArray, List.set_cons_zero, List.set_cons_succ]
      refine reg_take 7 (v := ?vb7) (atS5 (atS (atS at0))) (by kernel_rfl) (by kernel_rfl) (by kernel_rfl) (by rfl) ?hyb7 hHeld ?restb7
      case hyb7 => (intro w' hSw; go_simp; try with_reducible rfl)
      try simp only [Act.put, List.setIfInBounds_toArray, List.set_cons_zero, List.set_cons_succ]
      refine reg_take 8 (v := ?vb8) (atS5 (atS (atS (atS at0)))) (by kernel_rfl) (by kernel_rfl) (by kernel_rfl) (by rfl) ?hyb8 hHeld ?restb8
      case hyb8 => (intro w' hSw; go_simp; try with_reducible rfl)
      try simp only [Act.put, List.setIfInBounds_toArray, List.set_cons_zero, List.set_cons_succ]
      refine reg_take 10 (v := ?vb10) (atS5 (atS5 at0)) (by kernel_rfl) (by kernel_rfl) (by kernel_rfl) (by rfl) ?hyb10 hHeld ?restb10
      case hyb10 => (intro w' hSw; go_simp; try with_reducible rfl)
      try simp only [Act.put, List.setIfInBounds_toArray, List.set_cons_zero, List.set_cons_succ]
      refine reg_take 11 (v := ?vb11) (atS5 (atS5 (atS at0))) (by kernel_rfl) (by kernel_rfl) (by kernel_rfl) (by rfl) ?hyb11 hHeld ?restb11
      case hyb11 => (intro w' hSw; go_simp; try with_reducible rfl)
      try simp only [Act.put, List.setIfInBounds_toArray, List.set_cons_zero, List.set_cons_succ]
      refine reg_take 12 (v := ?vb12) (atS5 (atS5 (atS (atS at0)))) (by kernel_rfl) (by kernel_rfl) (by kernel_rfl) (by rfl) ?hyb12 hHeld ?restb12
      case hyb12 => (intro w' hSw; go_simp; try with_reducible rfl)
      try simp only [Act.put, List.setIfInBounds_toArray, List.set_cons_zero, List.set_cons_succ]
      refine reg_take 15 (v := ?vb15) (atS5 (atS5 (atS5 at0))) (by kernel_rfl) (by kernel_rfl) (by kernel_rfl) (by rfl) ?hyb15 hHeld ?restb15
      case hyb15 => (intro w' hSw; go_simp; try with_reducible rfl)
      try simp only [Act.put, List.setIfInBounds_toArray, List.set_cons_zero, List.set_cons_succ]
      refine reg_take 20 (v := ?vb20) (atS5 (atS5 (atS5 (atS5 at0)))) (by kernel_rfl) (by kernel_rfl) (by kernel_rfl) (by rfl) ?hyb20 hHeld ?restb20
      case hyb20 => (intro w' hSw; go_simp; try with_reducible rfl)
      try simp only [Act.put, List.setIfInBounds_toArray, List.set_cons_zero, List.set_cons_succ]
      refine reg_take 21 (v := ?vb21) (atS5 (atS5 (atS5 (atS5 (atS at0))))) (by kernel_rfl) (by kernel_rfl) (by kernel_rfl) (by rfl) ?hyb21 hHeld ?restb21
      case hyb21 => (intro w' hSw; go_simp; try with_reducible rfl)
      try simp only [Act.put, List.setIfInBounds_toArray, List.set_cons_zero, List.set_cons_succ]
      refine reg_take 22 (v := ?vb22) (atS5 (atS5 (atS5 (atS5 (atS (atS at0)))))) (by kernel_rfl) (by kernel_rfl) (by kernel_rfl) (by rfl) ?hyb22 hHeld ?restb22
      case hyb22 => (intro w' hSw; go_simp; try with_reducible rfl)
      try simp only [Act.put, List.setIfInBounds_toArray, List.set_cons_zero, List.set_cons_succ]
      refine reg_take 23 (v := ?vb23) (atS5 (atS5 (atS5 (atS5 (atS (atS (atS at0))))))) (by kernel_rfl) (by kernel_rfl) (by kernel_rfl) (by rfl) ?hyb23 hHeld ?restb23
      case hyb23 => (intro w' hSw; go_simp; try with_reducible rfl)
      try simp only [Act.put, List.setIfInBounds_toArray, List.set_cons_zero, List.set_cons_succ]
      refine wpAnyH_ready (rs := [5]) (by kernel_rfl) (by simp) ?_
      refine AllReadyH.cons (atS5 at0) (fun K hK => ?_) AllReadyH.nil
      go_simp
      refine (rput_any 1 (t.nm.length : Int) _ HU1.out).mono ?_
      rintro e w3 ⟨rfl, hb3⟩
      rw [HPA.out]
      have HB3 := hid hb3
      go_wp2_with fail
      refine hK.out _ _ HB3.out (fun hHeld => ?_)
      clear hK K
      try simp only [Act.put, List.setIfInBounds_toArray, List.set_cons_zero, List.set_cons_succ]
      refine reg_take 6 (v := ?vb6) (atS5 (atS at0)) (by kernel_rfl) (by kernel_rfl) (by kernel_rfl) (by rfl) ?hyb6 hHeld ?restb6
      case hyb6 => (intro w' hSw; go_simp; try with_reducible rfl)
      try simp only [Act.put, List.setIfInBounds_toArray, List.set_cons_zero, List.set_cons_succ]
      refine reg_take 9 (v := ?vb9) (atS5 (atS (atS (atS (atS at0))))) (by kernel_rfl) (by kernel_rfl) (by kernel_rfl) (by rfl) ?hyb9 hHeld ?restb9
      case hyb9 => (intro w' hSw; go_simp; try with_reducible rfl)
      try simp only [Act.put, List.setIfInBounds_toArray, List.set_cons_zero, List.set_cons_succ]
      refine wpAnyH_ready (rs := [13]) (by kernel_rfl) (by simp) ?_
      refine AllReadyH.cons (atS5 (atS5 (atS (atS (atS at0))))) (fun K hK => ?_) AllReadyH.nil
      go_simp
      refine (rput_any 1 t.lo _ HU2.out).mono ?_
      rintro e w4 ⟨rfl, hb4⟩
      rw [HPB.out]
      have HB4 := hid (Bt HB3.out hb4)
      go_wp2_with fail
      refine hK.out _ _ HB4.out (fun hHeld => ?_)
      clear hK K
      try simp only [Act.put, List.setIfInBounds_toArray, List.set_cons_zero, List.set_cons_succ]
      refine reg_take 14 (v := ?vb14) (atS5 (atS5 (atS (atS (atS (atS at0)))))) (by kernel_rfl) (by kernel_rfl) (by kernel_rfl) (by rfl) ?hyb14 hHeld ?restb14
      case hyb14 => (intro w' hSw; go_simp; try with_reducible rfl)
      try simp only [Act.put, List.setIfInBounds_toArray, List.set_cons_zero, List.set_cons_succ]
      refine wpAnyH_ready (rs := [16]) (by kernel_rfl) (by simp) ?_
      refine AllReadyH.cons (atS5 (atS5 (atS5 (atS at0)))) (fun K hK => ?_) AllReadyH.nil
      go_simp
      refine (r9newest_any t.nm HLR.out HFLN.out).mono ?_
      rintro e w5 ⟨rfl, hb5⟩
      rw [HNM.out]
      have HB5 := hid (Bt HB4.out hb5)
      go_wp2_with fail
      refine hK.out _ _ HB5.out (fun hHeld => ?_)
      clear hK K
      try simp only [Act.put, List.setIfInBounds_toArray, List.set_cons_zero, List.set_cons_succ]
      refine reg_take 17 (v := ?vb17) (atS5 (atS5 (atS5 (atS (atS at0))))) (by kernel_rfl) (by kernel_rfl) (by kernel_rfl) (by rfl) ?hyb17 hHeld ?restb17
      case hyb17 => (intro w' hSw; go_simp; try with_reducible rfl)
      try simp only [Act.put, List.setIfInBounds_toArray, List.set_cons_zero, List.set_cons_succ]
      refine wpAnyH_ready (rs := [18]) (by kernel_rfl) (by simp) ?_
      refine AllReadyH.cons (atS5 (atS5 (atS5 (atS (atS (atS at0)))))) (fun K hK => ?_) AllReadyH.nil
      go_simp
      refine (rput_any 1 t.hi _ HU3.out).mono ?_
      rintro e w6 ⟨rfl, hb6⟩
      rw [HPC.out]
      have HB6 := hid (Bt HB5.out hb6)
      go_wp2_with fail
      refine hK.out _ _ HB6.out (fun hHeld => ?_)
      clear hK K
      try simp only [Act.put, List.setIfInBounds_toArray, List.set_cons_zero, List.set_cons_succ]
      refine reg_take 19 (v := ?vb19) (atS5 (atS5 (atS5 (atS (atS (atS (atS at0))))))) (by kernel_rfl) (by kernel_rfl) (by kernel_rfl) (by rfl) ?hyb19 hHeld ?restb19
      case hyb19 => (intro w' hSw; go_simp; try with_reducible rfl)
      try simp only [Act.put, List.setIfInBounds_toArray, List.set_cons_zero, List.set_cons_succ]
      refine wpAnyH_ready (rs := [24]) (by kernel_rfl) (by simp) ?_
      refine AllReadyH.cons (atS5 (atS5 (atS5 (atS5 (atS (atS (atS (atS at0)))))))) (fun K hK => ?_) AllReadyH.nil
      go_simp
      refine (r9row_any (HRF.out.on (Bt (Bt (B0 _) hx0a) HB6.out)) HR0.out).mono ?_
      rintro e w7 ⟨rfl, hb7⟩
      rw [← HPD.out]
      have HB7 := hid (Bt HB6.out hb7)
      go_wp2_with fail
      refine hK.out _ _ HB7.out (fun hHeld => ?_)
      clear hK K
      try simp only [Act.put, List.setIfInBounds_toArray, List.set_cons_zero, List.set_cons_succ]
      refine reg_take 25 (v := ?vb25) (atS5 (atS5 (atS5 (atS5 (atS5 at0))))) (by kernel_rfl) (by kernel_rfl) (by kernel_rfl) (by rfl) ?hyb25 hHeld ?restb25
      case hyb25 => (intro w' hSw; go_simp; try with_reducible rfl)
      try simp only [Act.put, List.setIfInBounds_toArray, List.set_cons_zero, List.set_cons_succ]
      refine reg_take 26 (v := ?vb26) (atS5 (atS5 (atS5 (atS5 (atS5 (atS at0)))))) (by kernel_rfl) (by kernel_rfl) (by kernel_rfl) (by rfl) ?hyb26 hHeld ?restb26
      case hyb26 => (intro w' hSw; go_simp; try with_reducible rfl)
      try simp only [Act.put, List.setIfInBounds_toArray, List.set_cons_zero, List.set_cons_succ]
      refine wpAnyH_done (by kernel_rfl) ?_ _
      refine NoPanic.normal ?_
      clear xl xb0 xb1 xb2 xb3 xc
      have HB7V : Hid (Below wv.heap.size wv w7) := hid (Bt (Bt (B0 _) hx0a) HB7.out)
      have eY : (⟨X.toArray⟩ : ByteArray) ++ ⟨pa.toArray⟩ ++ bs t.nm ++ ⟨pb.toArray⟩ ++ ⟨pc.toArray⟩ ++ ⟨pd.toArray⟩ = ⟨(X ++ pa ++ t.nm ++ pb ++ pc ++ pd).toArray⟩ := by
        rw [str_app, show bs t.nm = ⟨t.nm.toArray⟩ from rfl, str_app, str_app, str_app, str_app]
      obtain ⟨Y0, hY0⟩ : ∃ Y0, Y0 = X ++ pa ++ t.nm ++ pb ++ pc ++ pd := ⟨_, rfl⟩
      rw [eY, ← hY0]
      have hYl : Y0.length ≤ 110000000 := by rw [hY0]; simp only [List.length_append]; omega
      have HYL := hid hYl
      have HNX : Hid (p0 ++ encTs (l.take (j + 1)) = Y0 ++ (t.ts.map verE).flatten) := hid (by rw [HTK.out, HENC.out, hY0, HX.out]; simp only [List.append_assoc])
      have hTL : t.ts.length ≤ 64 := by omega
      have HTL := hid hTL
      obtain ⟨_, _, _, e3, _, _, _, htt⟩ := HTS.out.at
      cases e3
      have HTT := hid htt
      clear eY hY0 htt hYl z1 z2 z3 z4 z5 hla hlb hlc hld
      go_wp2_with fail
      go_loopw [3, 6] (fun v i wr => ∃ (k : Nat) (Y : List UInt8), k ≤ t.ts.length ∧ i = .int .i64 k ∧ v = .string ⟨Y.toArray⟩ ∧ Hid (Y = Y0 ++ ((t.ts.take k).map verE).flatten) ∧ Hid (Below wv.heap.size wv wr)) (fun _ i _ => t.ts.length - (intOf i).toNat)
      case atStart => exact ⟨0, Y0, Nat.zero_le _, rfl, rfl, hid (by simp), HB7V⟩
      case round =>
        obtain ⟨k, Y, hk, rfl, rfl, HY, HBW⟩ := hrel
        have hTB := HXV.out.on HBW.out
        by_cases hkl : k < t.ts.length
        · obtain ⟨T, hT⟩ : ∃ T, t.ts[k]? = some T := ⟨_, List.getElem?_eq_getElem hkl⟩
          have HVK := hid (verL_ok HT.out (i := k + 1) (T := T) (by unfold verL; simpa using hT))
          have HNT := hid (ts_next hT)
          obtain ⟨_, b3, off3, u1, u2, u3, rfl, hrt, hc3⟩ := HTT.out k T hT
          have hnf := (HT.out.2.2.2.2.2 k T hT).2.2.2
          obtain ⟨_, _, _, ef, _, _, _, hff⟩ := HFS.out.at
          cases ef
          obtain ⟨_, _, _, A6, n6, c6, e6, hr6, hc6⟩ := hff (k + 1) T.nw hnf
          cases e6
          obtain ⟨_, _, _, _, _, _, A5, n5, c5, er, _, _, hrm⟩ := hrt
          cases er
          have HR6 := hid hr6; have HRM := hid hrm; have HC6 := hid hc6; have HC3 := hid hc3
          have HM5 := hid hrm.1
          have HN6 := hid hr6.1
          have y6 := hc6 wr HBW.out
          obtain ⟨s0, s1, s2, s3⟩ := hTB.cells
          have hYl : Y.length ≤ 115000000 := by
            have a := HYL.out; have b := ts_len HT.out k; have c := HTL.out
            rw [HY.out, List.length_append]; omega
          have hE6 : (encFs T.nw).length ≤ 65540 := by unfold encFs; have := encA_short HVK.out.nw; rw [List.length_append, le_length]; omega
          have hn6 : n6 ≤ 16 := by have := right_len HVK.out.nw; have := hr6.1; omega
          have hn5 : n5 ≤ 16 := by have a := HVK.out.len; have b := right_len HVK.out.nw; have := hrm.1; omega
          have hki : (k : Int) < t.ts.length := by omega
          have hki2 : (k : Int) + 1 < t.fs.length := by omega
          have hki3 : (k : Int) + 1 ≤ 100 := by omega
          have hk0 : (0 : Int) ≤ k := by omega
          have hk1 : (0 : Int) ≤ (k : Int) + 1 := by omega
          obtain ⟨E6, hE⟩ : ∃ E, E = encFs T.nw := ⟨_, rfl⟩
          rw [← hE] at hE6
          have HE6 := hid hE
          have z6 : ¬ 9223372036854775807 < Y.length + E6.length := by omega
          clear hT hc3 hnf hff hr6 hc6 hrm hE hTB
          go_wp2_with fail
          refine (r9row_any (HR6.out.on HBW.out) HVK.out.nw).mono ?_
          rintro e w8 ⟨rfl, hb8⟩
          rw [← HE6.out]
          have HB8 : Hid (Below wv.heap.size wv w8) := hid (Bt HBW.out hb8)
          clear hb8 y6 s0 s1 s2 s3
          go_wp2_with fail
          rw [str_app]
          obtain ⟨Y1, hY1⟩ : ∃ Y1, Y1 = Y ++ E6 := ⟨_, rfl⟩
          rw [← hY1]
          have HY1 := hid hY1
          have hY1l : Y1.length ≤ 116000000 := by rw [hY1, List.length_append]; omega
          have HYL1 := hid hY1l
          have HNY : Hid (Y0 ++ ((t.ts.take (k + 1)).map verE).flatten = Y1 ++ encMs T.mv T.nw) := hid (by
            rw [HNT.out, hY1, HE6.out, HY.out]; unfold verE; simp only [List.append_assoc])
          have HMAX : Hid ((n5 : Int) ≤ 16) := hid (by omega)
          clear hY1 hY1l z6
          go_loopw [3, 7] (fun v i wr => ∃ (i2 : Nat) (Z : List UInt8), i2 ≤ n5 ∧ i = .int .i64 i2 ∧ v = .string ⟨Z.toArray⟩ ∧ Hid (Z = Y1 ++ encMs (T.mv.take i2) T.nw) ∧ Hid (Below wv.heap.size wv wr)) (fun _ i _ => n5 - (intOf i).toNat)
          case atStart => exact ⟨0, Y1, Nat.zero_le _, rfl, rfl, hid (by rw [List.take_zero, encMs_nil, List.append_nil]), HB8⟩
          case round =>
            obtain ⟨i2, Z, hi2, rfl, rfl, HZ, HBZ⟩ := hrel
            obtain ⟨s0, s1, s2, s3⟩ := (HXV.out.on HBZ.out).cells
            obtain ⟨y1, y2, y3⟩ := HC3.out wr HBZ.out
            by_cases hil : i2 < n5
            · obtain ⟨m, hm⟩ : ∃ m, T.mv[i2]? = some m := ⟨_, List.getElem?_eq_getElem (by have := HM5.out; omega)⟩
              obtain ⟨f, hf⟩ : ∃ f, T.nw[i2]? = some f := ⟨_, List.getElem?_eq_getElem (by have := HM5.out; have := HVK.out.len; omega)⟩
              obtain ⟨k1, k2, k3⟩ := HVK.out.mv i2 m f hm hf
              have HMT := hid (encMs_take hm hf)
              obtain ⟨_, hf64, hk64, hnu, b5, off5, rfl, hc5⟩ := HRM.out.at hm
              obtain ⟨hj2, hfk, hfg, hfn, b7, off7, rfl, hc7⟩ := HR6.out.at hf
              obtain ⟨d0, d1, d2, d3⟩ := hc5 wr HBZ.out
              have HC7 := hid hc7
              have HKM := hid (And.intro k1 (And.intro k2 k3))
              have hZl : Z.length ≤ 117000000 := by
                have a := HYL1.out; have b := encMs_len HVK.out i2
                rw [HZ.out, List.length_append]; omega
              have HZL := hid hZl
              have hii : (i2 : Int) < n5 := by omega
              have hii2 : (i2 : Int) < n6 := by omega
              have hi0 : (0 : Int) ≤ i2 := by omega
              obtain ⟨wm, hwm⟩ : ∃ wm, wm = wr.alloc (.cells #[.int .i64 m.fr, .int .i64 m.k, .int .u64 m.n, .string m.t] 150) := ⟨_, rfl⟩
              obtain ⟨p, hp⟩ : ∃ p, p = wr.heap.size := ⟨_, rfl⟩
              have HWM := hid hwm; have HP := hid hp
              have HMB : Hid (MB wm p m 150) := by rw [hwm, hp]; exact hid (mb_new _ _ _)
              have HBM : Hid (Below wv.heap.size wv wm) := by rw [hwm]; exact hid (Ba HBZ.out _)
              clear hm hf k1 k2 k3 hf64 hk64 hnu hc5 hfk hfg hfn hc7 hwm hp hZl
              go_upto_region 15 with fail
              rw [← HWM.out, ← HP.out]
              clear d0 d1 d2 d3 s0 s1 s2 s3 y1 y2 y3
              obtain ⟨d0, d1, d2, d3⟩ := HMB.out.cells
              by_cases hfr : m.fr = -1
              · have t1 : (m.fr == -1) = true := by simpa using hfr
                have t2 : decide (m.fr = -1) = true := by simpa using hfr
                have HEM : Hid (encMv m f = [255] ++ encB m.k m.n m.t f.k f.g) := hid (by unfold encMv; rw [if_pos hfr]; rfl)
                have HRF : Hid (rightF m.k m.n m.t.size f.k f.g = true) := hid (HKM.out.2.1 hfr)
                obtain ⟨E7, hE7⟩ : ∃ E, E = encB m.k m.n m.t f.k f.g := ⟨_, rfl⟩
                have HEE : Hid (encT m.k m.n m.t f.k f.g = ⟨E7.toArray⟩) := by rw [hE7]; exact hid (encB_eq _ _ _ _ _)
                have h7l : E7.length ≤ 100 := by rw [hE7]; exact longE_le HRF.out
                rw [← hE7] at HEM
                have z7 : ¬ 9223372036854775807 < Z.length + 1 := by have := HZL.out; omega
                have z8 : ¬ 9223372036854775807 < Z.length + 1 + E7.length := by have := HZL.out; omega
                have z9 : ¬ 9223372036854775807 < Z.length + [(255 : UInt8)].length := z7
                have HX7 : Hid (Z ++ [255] ++ E7 = Y1 ++ encMs (T.mv.take (i2 + 1)) T.nw) := hid (by rw [HMT.out, HEM.out, HZ.out]; simp only [List.append_assoc])
                clear hfr hE7 h7l
                go_upto_region 16 with fail
                clear d0 d1 d2 d3
                have w1k : IntKind.i64.wrap ((k : Int) + 1) = (k : Int) + 1 := by rw [IntKind.wrap_i64]; omega
                have tnk : ((k : Int) + 1).toNat = k + 1 := by omega
                refine reg_begin (by kernel_rfl) (fun w0c hx0c hHeld => ?_)
                have s0 : ∀ w', Ext w0c w' → Below wv.heap.size wv w' := fun w' h => HBM.out.trans ((hx0c.trans h).mono HBM.out.size)
                have ma : ∀ w', Ext w0c w' → MB w' p m 150 := fun w' h => (HMB.out.on (Bt (B0 _) hx0c)).on h
                have m1 := fun w' h => (ma w' h).cells.2.1
                have m2 := fun w' h => (ma w' h).cells.2.2.1
                have m3 := fun w' h => (ma w' h).cells.2.2.2
                have t3 := fun w' h => (HXV.out.on (s0 w' h)).cells.2.2.1
                have t6 := fun w' h => HC6.out w' (s0 w' h)
                have y0 := fun w' h => (HC7.out w' (s0 w' h)).1
                have y1 := fun w' h => (HC7.out w' (s0 w' h)).2.1
                have y2 := fun w' h => (HC7.out w' (s0 w' h)).2.2
                dsimp only at t3
                clear s0 ma
                refine reg_take 0 (v := ?vc0) at0 (by kernel_rfl) (by kernel_rfl) (by kernel_rfl) (by rfl) ?hyc0 hHeld ?restc0
                case hyc0 => (intro w' hSw; go_simp; try with_reducible rfl)
                try simp only [Act.put, List.setIfInBounds_toArray, List.set_cons_zero, List.set_cons_succ]
                refine reg_take 1 (v := ?vc1) (atS at0) (by kernel_rfl) (by kernel_rfl) (by kernel_rfl) (by rfl) ?hyc1 hHeld ?restc1
                case hyc1 => (intro w' hSw; go_simp; try with_reducible rfl)
                try simp only [Act.put, List.setIfInBounds_toArray, List.set_cons_zero, List.set_cons_succ]
                refine reg_take 2 (v := ?vc2) (atS (atS at0)) (by kernel_rfl) (by kernel_rfl) (by kernel_rfl) (by rfl) ?hyc2 hHeld ?restc2
                case hyc2 => (intro w' hSw; go_simp; try with_reducible rfl)
                try simp only [Act.put, List.setIfInBounds_toArray, List.set_cons_zero, List.set_cons_succ]
                refine reg_take 3 (v := ?vc3) (atS (atS (atS at0))) (by kernel_rfl) (by kernel_rfl) (by kernel_rfl) (by rfl) ?hyc3 hHeld ?restc3
                case hyc3 => (intro w' hSw; go_simp; try with_reducible rfl)
                try simp only [Act.put, List.setIfInBounds_toArray, List.set_cons_zero, List.set_cons_succ]
                refine reg_take 4 (v := ?vc4) (atS (atS (atS (atS at0)))) (by kernel_rfl) (by kernel_rfl) (by kernel_rfl) (by rfl) ?hyc4 hHeld ?restc4
                case hyc4 => (intro w' hSw; go_simp; try with_reducible rfl)
                try simp only [Act.put, List.setIfInBounds_toArray, List.set_cons_zero, List.set_cons_succ]
                refine reg_take 5 (v := ?vc5) (atS5 at0) (by kernel_rfl) (by kernel_rfl) (by kernel_rfl) (by rfl) ?hyc5 hHeld ?restc5
                case hyc5 => (intro w' hSw; go_simp; try with_reducible rfl)
                try simp only [Act.put, List.setIfInBounds_toArray, List.set_cons_zero, List.set_cons_succ]
                refine reg_take 6 (v := ?vc6) (atS5 (atS at0)) (by kernel_rfl) (by kernel_rfl) (by kernel_rfl) (by rfl) ?hyc6 hHeld ?restc6
                case hyc6 => (intro w' hSw; go_simp; try with_reducible rfl)
                try simp only [Act.put, List.setIfInBounds_toArray, List.set_cons_zero, List.set_cons_succ]
                refine reg_take 7 (v := ?vc7) (atS5 (atS (atS at0))) (by kernel_rfl) (by kernel_rfl) (by kernel_rfl) (by rfl) ?hyc7 hHeld ?restc7
                case hyc7 => (intro w' hSw; go_simp; try with_reducible rfl)
                try simp only [Act.put, List.setIfInBounds_toArray, List.set_cons_zero, List.set_cons_succ]
                refine reg_take 8 (v := ?vc8) (atS5 (atS (atS (atS at0)))) (by kernel_rfl) (by kernel_rfl) (by kernel_rfl) (by rfl) ?hyc8 hHeld ?restc8
                case hyc8 => (intro w' hSw; go_simp; try with_reducible rfl)
                try simp only [Act.put, List.setIfInBounds_toArray, List.set_cons_zero, List.set_cons_succ]
                refine reg_take 9 (v := ?vc9) (atS5 (atS (atS (atS (atS at0))))) (by kernel_rfl) (by kernel_rfl) (by kernel_rfl) (by rfl) ?hyc9 hHeld ?restc9
                case hyc9 => (intro w' hSw; go_simp; try with_reducible rfl)
                try simp only [Act.put, List.setIfInBounds_toArray, List.set_cons_zero, List.set_cons_succ]
                refine reg_take 10 (v := ?vc10) (atS5 (atS5 at0)) (by kernel_rfl) (by kernel_rfl) (by kernel_rfl) (by rfl) ?hyc10 hHeld ?restc10
                case hyc10 => (intro w' hSw; go_simp; try with_reducible rfl)
                try simp only [Act.put, List.setIfInBounds_toArray, List.set_cons_zero, List.set_cons_succ]
                refine wpAnyH_ready (rs := [11]) (by kernel_rfl) (by simp) ?_
                refine AllReadyH.cons (atS5 (atS5 (atS at0))) (fun K hK => ?_) AllReadyH.nil
                go_simp
                refine (rencode_any m.k m.n m.t (bs f.nm) f.k f.g _ HKM.out.1).mono ?_
                rintro e w10 ⟨rfl, hb10⟩
                rw [HEE.out]
                have HB10 := hid hb10
                go_wp2_with fail
                refine hK.out _ _ HB10.out (fun hHeld => ?_)
                clear hK K
                try simp only [Act.put, List.setIfInBounds_toArray, List.set_cons_zero, List.set_cons_succ]
                refine reg_on HB10.out (fun hHeld => ?_)
                refine reg_take 12 (v := ?vc12) (atS5 (atS5 (atS (atS at0)))) (by kernel_rfl) (by kernel_rfl) (by kernel_rfl) (by rfl) ?hyc12 hHeld ?restc12
                case hyc12 => (intro w' hSw; go_simp; try with_reducible rfl)
                try simp only [Act.put, List.setIfInBounds_toArray, List.set_cons_zero, List.set_cons_succ]
                refine reg_take 13 (v := ?vc13) (atS5 (atS5 (atS (atS (atS at0))))) (by kernel_rfl) (by kernel_rfl) (by kernel_rfl) (by rfl) ?hyc13 hHeld ?restc13
                case hyc13 => (intro w' hSw; go_simp; try with_reducible rfl)
                try simp only [Act.put, List.setIfInBounds_toArray, List.set_cons_zero, List.set_cons_succ]
                refine reg_take 14 (v := ?vc14) (atS5 (atS5 (atS (atS (atS (atS at0)))))) (by kernel_rfl) (by kernel_rfl) (by kernel_rfl) (by rfl) ?hyc14 hHeld ?restc14
                case hyc14 => (intro w' hSw; go_simp; try with_reducible rfl)
                try simp only [Act.put, List.setIfInBounds_toArray, List.set_cons_zero, List.set_cons_succ]
                refine reg_take 15 (v := ?vc15) (atS5 (atS5 (atS5 at0))) (by kernel_rfl) (by kernel_rfl) (by kernel_rfl) (by rfl) ?hyc15 hHeld ?restc15
                case hyc15 => (intro w' hSw; go_simp; try with_reducible rfl)
                try simp only [Act.put, List.setIfInBounds_toArray, List.set_cons_zero, List.set_cons_succ]
                refine reg_take 16 (v := ?vc16) (atS5 (atS5 (atS5 (atS at0)))) (by kernel_rfl) (by kernel_rfl) (by kernel_rfl) (by rfl) ?hyc16 hHeld ?restc16
                case hyc16 => (intro w' hSw; go_simp; try with_reducible rfl)
                try simp only [Act.put, List.setIfInBounds_toArray, List.set_cons_zero, List.set_cons_succ]
                refine wpAnyH_done (by kernel_rfl) ?_ _
                refine NoPanic.normal ?_
                clear m1 m2 m3 t3 t6 y0 y1 y2
                have HB10V : Hid (Below wv.heap.size wv w10) := hid (Bt HBM.out (Bt hx0c HB10.out))
                go_wp2_with fail
                exact ⟨⟨i2 + 1, Z ++ [255] ++ E7, by omega, by go_num, by rw [← str_app, ← str_app], HX7, HB10V⟩, by simp [intOf]; omega⟩
              · have t1 : (m.fr == -1) = false := by simpa using hfr
                have t2 : decide (m.fr = -1) = false := by simpa using hfr
                have HEM : Hid (encMv m f = le m.fr 1) := hid (by unfold encMv; rw [if_neg hfr])
                have HFR : Hid (0 ≤ m.fr ∧ m.fr < 256) := hid (HKM.out.2.2 hfr)
                have HUF : Hid (U64 m.fr) := hid (U64_nat HFR.out.1 HFR.out.2)
                have e9 : IntKind.u64.wrap m.fr = m.fr := u64_id HFR.out.1 (by have := HFR.out; omega)
                obtain ⟨E7, hE7⟩ : ∃ E, E = le m.fr 1 := ⟨_, rfl⟩
                have HPF : Hid (rputL m.fr 1 = E7) := by rw [hE7]; exact hid (rput1 _ HFR.out.1 HFR.out.2)
                rw [← hE7] at HEM
                have h7l : E7.length = 1 := by rw [hE7]; exact le_length _ _
                have z7 : ¬ 9223372036854775807 < Z.length + E7.length := by have := HZL.out; omega
                have HX7 : Hid (Z ++ E7 = Y1 ++ encMs (T.mv.take (i2 + 1)) T.nw) := hid (by rw [HMT.out, HEM.out, HZ.out]; simp only [List.append_assoc])
                clear hfr hE7 h7l
                go_wp2_with fail
                refine (rput_any 1 m.fr _ HUF.out).mono ?_
                rintro e w10 ⟨rfl, hb10⟩
                rw [HPF.out]
                have HB10V : Hid (Below wv.heap.size wv w10) := hid (Bt HBM.out hb10)
                clear hb10
                go_wp2_with fail
                exact ⟨⟨i2 + 1, Z ++ E7, by omega, by go_num, by rw [str_app], HX7, HB10V⟩, by simp [intOf]; omega⟩
            · have hie : i2 = n5 := by omega
              have hZ : Z = Y0 ++ ((t.ts.take (k + 1)).map verE).flatten := by rw [HZ.out, HNY.out, hie, ← HM5.out, List.take_length]
              have HZE := hid hZ
              clear hZ hie
              go_wp2_with fail
              exact ⟨⟨k + 1, Z, by omega, by go_num, rfl, HZE, HBZ⟩, by simp [intOf]; omega⟩
        · have hke : k = t.ts.length := by omega
          have hY : Y = p0 ++ encTs (l.take (j + 1)) := by rw [HY.out, HNX.out, hke, List.take_length]
          obtain ⟨s0, s1, s2, s3⟩ := hTB.cells
          have HYE := hid hY
          clear hY hke
          go_wp2_with fail
          exact ⟨⟨j + 1, Y, by omega, by go_num, rfl, HYE, hid (Bt HBV.out HBW.out)⟩, by simp [intOf]; omega⟩
    · have hje : l.take j = l := List.take_of_length_le (by have := HL.out; omega)
      have HXE : Hid (X = encS l) := hid (by rw [HX.out, hje, HPP.out, ← HL.out]; rfl)
      clear hje
      go_wp2_with fail
      go_ret
      exact ⟨by rw [HXE.out]; rfl, HB.out⟩
end Go.Proofs.YtaegencmnmjgbaaGreat
