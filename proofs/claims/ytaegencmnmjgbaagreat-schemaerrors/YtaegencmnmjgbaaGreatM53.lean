/-
  The program's Apply, and All, of layer 8.
-/
import Derived.Test.YtaegencmnmjgbaaGreatM44
import Derived.Test.YtaegencmnmjgbaaGreatM46

namespace Go.Proofs.YtaegencmnmjgbaaGreat
open Go.RowKit
set_option linter.unusedVariables false
set_option linter.unusedSimpArgs false
structure PS (w0 W : World) (q : Nat) (l : List Fd) (cs : List Ch) (j : Nat) (v1 v2 v3 : Value) (A : Option Addr) (n c : Nat) (T : Tb) : Prop where
  tb : TBx W q v1 v2 v3 92
  rd : RdT W W.heap.size (.agg #[v1, v2, v3]) T
  rn : RdF W W.heap.size A n c T.nw
  bl : Below w0.heap.size w0 W
  wq : w0.heap.size ≤ q
  rt : rightT T = true
  al : all8 l cs = allF T (cs.drop j)
theorem PS.on {w0 W W' : World} {q : Nat} {l : List Fd} {cs : List Ch} {j : Nat} {v1 v2 v3 : Value} {A : Option Addr} {n c : Nat} {T : Tb} (h : PS w0 W q l cs j v1 v2 v3 A n c T) (hb : Below W.heap.size W W') : PS w0 W' q l cs j v1 v2 v3 A n c T :=
  ⟨h.tb.on hb, h.rd.on hb, h.rn.on hb, h.bl.trans (hb.mono h.bl.size), h.wq, h.rt, h.al⟩
theorem mkT_nw {l : List Fd} {c : Ch} {T : Tb} (h : compB T (mkT l c) = true) : (compT T (mkT l c)).nw = (mkT l c).nw := by rw [compT_ok' h]
set_option maxRecDepth 20000 in
set_option maxHeartbeats 12000000 in
theorem p8all_any {w : World} {A : Option Addr} {n cp : Nat} {l : List Fd} (h : RdF w w.heap.size A n cp l) (hr : rightL l = true) {Ac : Option Addr} {m mc : Nat} {cs : List Ch} (hcs : RdC w w.heap.size Ac m mc cs) (hsc : ∀ c ∈ cs, c.to.nm.length ≤ 140737488351232) :
    Calls Tryz.prog 66 #[.slice A n cp, .slice Ac m mc] w fun e w' => ∃ v, e = .returned (.tuple #[v, .int .i64 (all8 l cs).2]) ∧ RdT w' w'.heap.size v (all8 l cs).1 ∧ Below w.heap.size w w' := by
  have hmi : (m : Int) ≤ 9223372036854775807 := by have := Nat.le_trans hcs.2.1 hcs.2.2.1; unfold maxLen at this; omega
  obtain ⟨w0, hw0⟩ : ∃ w0, w0 = w.alloc (.cells #[.slice none 0 0, .slice none 0 0, .slice none 0 0] 92) := ⟨_, rfl⟩
  obtain ⟨rz, hrz⟩ : ∃ rz, rz = w.heap.size := ⟨_, rfl⟩
  have HW0 := hid hw0; have HRZE := hid hrz
  have HB0 : Hid (Below w.heap.size w w0) := by rw [hw0]; exact hid (B1 _ _)
  have HTZ : Hid (TBx w0 rz (.slice none 0 0) (.slice none 0 0) (.slice none 0 0) 92) := by rw [hw0, hrz]; exact hid (tb_new _ _ _ _ _)
  have HRZ : Hid (w.heap.size ≤ rz) := hid (by omega)
  have H := hid (h.on HB0.out); have HC := hid (hcs.on HB0.out); have HSC := hid hsc
  have HML : Hid (cs.length = m) := hid hcs.1
  have HR := hid hr
  clear h hcs hsc hw0 hrz hr
  go_enter Tryz.func66, Tryz.ntmps66
  go_upto_region 1 with fail
  rw [← HW0.out, ← HRZE.out]
  go_wp2_with fail
  refine (p7same_any H.out (right_short HR.out)).mono ?_
  rintro e w1 ⟨v, rfl, ho1, hb1⟩
  have hrd1 : RdT w1 w1.heap.size v (sameT l) := by
    have h16 := right_len HR.out
    have hok : okF l := H.out.2.2.2.1
    rw [sameT_right HR.out] at ho1 ⊢
    exact ho1.rd hok hok (self_I64 (by omega))
  obtain ⟨B1', m1, d1, B2', m2, d2, B3', m3, d3, rfl, h1, h2, h3⟩ := hrd1
  obtain ⟨q, hq⟩ : ∃ q, q = w1.heap.size := ⟨_, rfl⟩
  obtain ⟨w2, hw2⟩ : ∃ w2, w2 = w1.alloc (.cells #[.slice B1' m1 d1, .slice B2' m2 d2, .slice B3' m3 d3] 92) := ⟨_, rfl⟩
  have HQ := hid hq; have HW2 := hid hw2
  have HPS : Hid (PS w0 w2 q l cs 0 (.slice B1' m1 d1) (.slice B2' m2 d2) (.slice B3' m3 d3) A n cp (sameT l)) := by
    rw [hw2, hq]
    refine hid ⟨tb_new w1 _ _ _ _, RdT.on ⟨_, _, _, _, _, _, _, _, _, rfl, h1, h2, h3⟩ (B1 _ _), ?_, Ba hb1 _, hb1.size, same_rightT HR.out, by unfold all8; rw [HR.out]; rfl⟩
    rw [sameT_right HR.out]
    exact (H.out.on hb1).on (B1 _ _)
  clear ho1 hb1 h1 h2 h3 hq hw2
  go_upto_region 2 with fail
  rw [← HW2.out, ← HQ.out]
  go_wp2_with fail
  go_loopw [0, 15] (fun s i wr => ∃ (j : Nat), j ≤ m ∧ i = .int .i64 j ∧ ∃ A n c, s = .slice A n c ∧ Hid (∃ B1 m1 d1 B2 m2 d2 B3 m3 d3 T, PS w0 wr q l cs j (.slice B1 m1 d1) (.slice B2 m2 d2) (.slice B3 m3 d3) A n c T)) (fun _ i _ => m - (intOf i).toNat)
  case atStart => exact ⟨0, by omega, rfl, A, n, cp, rfl, hid ⟨_, _, _, _, _, _, _, _, _, _, HPS.out⟩⟩
  case round =>
    obtain ⟨j, hj, rfl, Al, nl, cl, rfl, ⟨D, nd, cd, D2, nd2, cd2, D3, nd3, cd3, T, ha⟩⟩ := hrel
    have HA := hid ha
    clear ha
    by_cases hlt : j < m
    · obtain ⟨c, hc⟩ : ∃ c, cs[j]? = some c := ⟨_, List.getElem?_eq_getElem (by have := HML.out; omega)⟩
      have hs1 := HSC.out c (List.mem_of_getElem? hc)
      obtain ⟨_, hn5, b, off, Ao, no, co, rfl, hcc, hod⟩ := HC.out.at hc
      have HCK : Hid (chOk c) := hid ⟨hn5.1, hn5.2.1, hn5.2.2.1, hn5.2.2.2.1, hn5.2.2.2.2, hs1⟩
      have HOD := hid (hod.on HA.out.bl)
      have HAT : Hid (all8 l cs = _) := hid (HA.out.al.trans (allF_at hc))
      have hji : (j : Int) < m := by omega
      have hj0 : (0 : Int) ≤ j := by omega
      obtain ⟨y0, y1, y2, y3, y4, y5, y6, y7, y8⟩ := hcc wr HA.out.bl
      obtain ⟨p, hp⟩ : ∃ p, p = wr.heap.size := ⟨_, rfl⟩
      obtain ⟨w3, hw3⟩ : ∃ w3, w3 = wr.alloc (.cells #[.int .i64 c.op, .string (bs c.nm), .string (bs c.to.nm), .int .i64 c.to.k, .int .i64 c.to.g, .int .i64 c.dk, .int .u64 c.dn, .string c.dt, .slice Ao no co] 76) := ⟨_, rfl⟩
      have HP := hid hp; have HW3 := hid hw3
      have HCB : Hid (CB w3 p c Ao no co 76) := by rw [hw3, hp]; exact hid (CB.new wr c Ao no co _)
      have HA3 : Hid (PS w0 w3 q l cs j (.slice D nd cd) (.slice D2 nd2 cd2) (.slice D3 nd3 cd3) Al nl cl T) := by rw [hw3]; exact hid (HA.out.on (B1 _ _))
      have HOD3 : Hid (RdI w3 w3.heap.size Ao no co c.od) := by rw [hw3]; exact hid (HOD.out.on (B1 _ _))
      clear hcc hod hs1 hn5 hc hp hw3
      go_upto_region 5 with fail
      rw [← HW3.out, ← HP.out]
      clear y0 y1 y2 y3 y4 y5 y6 y7 y8
      obtain ⟨y0, y1, y2, y3, y4, y5, y6, y7, y8⟩ := HCB.out.cells
      go_wp2_with fail
      refine (p8make_any HA3.out.rn (right_short (rightT_iff.1 HA3.out.rt).2.1) HCK.out HOD3.out).mono ?_
      rintro e w6 ⟨v6, rfl, hv6, hb6⟩
      obtain ⟨E, ne, ce, E2, ne2, ce2, E3, ne3, ce3, rfl, i1, i2, i3⟩ := hv6
      obtain ⟨p3, hp3⟩ : ∃ p3, p3 = w6.heap.size := ⟨_, rfl⟩
      obtain ⟨w7, hw7⟩ : ∃ w7, w7 = w6.alloc (.cells #[.slice E ne ce, .slice E2 ne2 ce2, .slice E3 ne3 ce3] 92) := ⟨_, rfl⟩
      have HP3 := hid hp3; have HW7 := hid hw7
      have HV7 : Hid (TBx w7 p3 (.slice E ne ce) (.slice E2 ne2 ce2) (.slice E3 ne3 ce3) 92) := by rw [hw7, hp3]; exact hid (tb_new _ _ _ _ _)
      have HR7 : Hid (RdT w7 w7.heap.size (.agg #[.slice E ne ce, .slice E2 ne2 ce2, .slice E3 ne3 ce3]) (mkT T.nw c)) := by rw [hw7]; exact hid (RdT.on ⟨_, _, _, _, _, _, _, _, _, rfl, i1, i2, i3⟩ (B1 _ _))
      have HA7 : Hid (PS w0 w7 q l cs j (.slice D nd cd) (.slice D2 nd2 cd2) (.slice D3 nd3 cd3) Al nl cl T) := by rw [hw7]; exact hid ((HA3.out.on hb6).on (B1 _ _))
      have HPQ : Hid (q < p3) := hid (by rw [hp3]; have := HA3.out.tb.lt; have := hb6.size; omega)
      clear i1 i2 i3 hb6 hp3 hw7 y0 y1 y2 y3 y4 y5 y6 y7 y8
      go_upto_region 6 with fail
      rw [← HW7.out, ← HP3.out]
      obtain ⟨q0, q1, q2⟩ := HA7.out.tb.cells
      obtain ⟨p0, p1, p2⟩ := HV7.out.cells
      obtain ⟨z0, z1, z2⟩ := (HTZ.out.on HA7.out.bl).cells
      have fz0 := (HTZ.out.on HA7.out.bl).frozen 0; have fz1 := (HTZ.out.on HA7.out.bl).frozen 1; have fz2 := (HTZ.out.on HA7.out.bl).frozen 2
      obtain ⟨me, hme⟩ : ∃ me, me = mkE T.nw c := ⟨_, rfl⟩
      rw [← hme]
      by_cases hm0 : me = 0
      · have HM0 : Hid (mkE T.nw c = 0) := hid (by rw [← hme]; exact hm0)
        clear hme
        subst hm0
        go_wp2_with fail
        refine (p7compose_any HA7.out.rd HR7.out (rightT_short HA.out.rt) (mkT_short HM0.out)).mono ?_
        rintro e w9 ⟨v9, rfl, hv9, hb9⟩
        obtain ⟨G, ng, cg, G2, ng2, cg2, G3, ng3, cg3, rfl, g1, g2, g3⟩ := hv9
        have HR9 : Hid (RdT w9 w9.heap.size (.agg #[.slice G ng cg, .slice G2 ng2 cg2, .slice G3 ng3 cg3]) (compT T (mkT T.nw c))) := hid ⟨_, _, _, _, _, _, _, _, _, rfl, g1, g2, g3⟩
        have HA9 := hid (HA7.out.on hb9)
        have HV9 := hid (HV7.out.on hb9)
        have HN9 : Hid (RdF w9 w9.heap.size E2 ne2 ce2 (mkT T.nw c).nw) := by
          obtain ⟨_, _, _, _, _, _, _, _, _, e1, _, r2, _⟩ := HR7.out.on hb9
          cases e1; exact hid r2
        clear g1 g2 g3 hb9 q0 q1 q2 p0 p1 p2
        clear z0 z1 z2 fz0 fz1 fz2
        obtain ⟨W8, hW8⟩ : ∃ W8, W8 = ((w9.setCell ⟨q, 0, none⟩ (.slice G ng cg)).setCell ⟨q, 1, none⟩ (.slice G2 ng2 cg2)).setCell ⟨q, 2, none⟩ (.slice G3 ng3 cg3) := ⟨_, rfl⟩
        have HWW := hid hW8
        have HB8 : Hid (Below w0.heap.size w0 W8) := by rw [hW8]; exact hid (B3 HA9.out.bl HA9.out.wq _ _ _)
        have HT8 : Hid (TBx W8 q (.slice G ng cg) (.slice G2 ng2 cg2) (.slice G3 ng3 cg3) 92) := by rw [hW8]; exact hid (HA9.out.tb.set3 _ _ _)
        have HV8 : Hid (TBx W8 p3 (.slice E ne ce) (.slice E2 ne2 ce2) (.slice E3 ne3 ce3) 92) := by rw [hW8]; exact hid (HV9.out.other3 (by have := HPQ.out; omega) _ _ _)
        have HR8 : Hid (RdT W8 W8.heap.size (.agg #[.slice G ng cg, .slice G2 ng2 cg2, .slice G3 ng3 cg3]) (compT T (mkT T.nw c))) := by
          rw [hW8]; exact hid (HR9.out.box3 HA9.out.tb ⟨_, _, _, rfl⟩ ⟨_, _, _, rfl⟩ ⟨_, _, _, rfl⟩ ⟨_, _, _, rfl⟩ ⟨_, _, _, rfl⟩ ⟨_, _, _, rfl⟩)
        have HN8 : Hid (RdF W8 W8.heap.size E2 ne2 ce2 (mkT T.nw c).nw) := by
          have hx := ((HN9.out.box HA9.out.tb ⟨_, _, _, rfl⟩ ⟨_, _, _, rfl⟩ ⟨_, _, _, rfl⟩ 0 (.slice G ng cg)).box (HA9.out.tb.set0 _) ⟨_, _, _, rfl⟩ ⟨_, _, _, rfl⟩ ⟨_, _, _, rfl⟩ 1 (.slice G2 ng2 cg2)).box ((HA9.out.tb.set0 _).set1 _) ⟨_, _, _, rfl⟩ ⟨_, _, _, rfl⟩ ⟨_, _, _, rfl⟩ 2 (.slice G3 ng3 cg3)
          rw [hW8]; simpa only [size_set] using hid hx
        have HTZ8 := hid (HTZ.out.on HB8.out)
        clear hW8
        obtain ⟨q0, q1, q2⟩ := HA9.out.tb.cells
        have f0 := HA9.out.tb.frozen 0; have f1 := HA9.out.tb.frozen 1; have f2 := HA9.out.tb.frozen 2
        go_upto_region 9 with fail
        rw [← HWW.out]
        clear q0 q1 q2 f0 f1 f2
        obtain ⟨q0, q1, q2⟩ := HT8.out.cells
        obtain ⟨p0, p1, p2⟩ := HV8.out.cells
        obtain ⟨z0, z1, z2⟩ := HTZ8.out.cells
        have fz0 := HTZ8.out.frozen 0; have fz1 := HTZ8.out.frozen 1; have fz2 := HTZ8.out.frozen 2
        cases hcb : compB T (mkT T.nw c) with
        | true =>
          rw [compE_ok' hcb]
          have HCBB := hid hcb
          have HNE := hid (mkT_nw hcb)
          clear hcb
          go_wp2_with fail
          refine ⟨⟨j + 1, by omega, by go_num, _, _, _, rfl, hid ⟨_, _, _, _, _, _, _, _, _, _, HT8.out, HR8.out, by rw [HNE.out]; exact HN8.out, HB8.out, HA9.out.wq, compT_right (fun x hx => ?_) (compE_ok' HCBB.out), HAT.out.trans (by rw [if_neg (by simp [HM0.out]), if_pos HCBB.out])⟩⟩, by simp [intOf]; omega⟩
          obtain ⟨_, _, _, _, _, _, _, _, _, _, _, _, r3⟩ := HA9.out.rd
          exact (r3.2.2.2.1 x hx).2.2
        | false =>
          rw [compE_no' hcb]
          have HE : Hid (all8 l cs = (Tb.none, 70)) := hid (HAT.out.trans (by rw [if_neg (by simp [HM0.out]), hcb]; rfl))
          clear hcb
          go_wp2_with fail
          exact ret_TBpe (by rfl) (by rfl) (HTZ8.out.set3 _ _ _) (by rfl) (by rfl) ⟨_, by rw [HE.out]; rfl, by rw [HE.out]; exact RdT.nil _ _, B3 (Bt HB0.out HB8.out) HRZ.out _ _ _⟩
      · have t1 : (me != 0) = true := by simpa using hm0
        have HE : Hid (all8 l cs = (Tb.none, me)) := hid (HAT.out.trans (by rw [if_pos (by rw [← hme]; exact hm0), hme]))
        clear hme hm0
        go_wp2_with fail
        exact ret_TBpe (by rfl) (by rfl) ((HTZ.out.on HA7.out.bl).set3 _ _ _) (by rfl) (by rfl) ⟨_, by rw [HE.out]; rfl, by rw [HE.out]; exact RdT.nil _ _, B3 (Bt HB0.out HA7.out.bl) HRZ.out _ _ _⟩
    · have hjm : j = m := by omega
      have HE : Hid (all8 l cs = (T, 0)) := hid (by rw [HA.out.al, hjm, List.drop_eq_nil_of_le (Nat.le_of_eq HML.out)]; rfl)
      have hji : ¬ ((j : Int) < m) := by omega
      obtain ⟨q0, q1, q2⟩ := HA.out.tb.cells
      obtain ⟨z0, z1, z2⟩ := (HTZ.out.on HA.out.bl).cells
      have fz0 := (HTZ.out.on HA.out.bl).frozen 0; have fz1 := (HTZ.out.on HA.out.bl).frozen 1; have fz2 := (HTZ.out.on HA.out.bl).frozen 2
      clear hjm
      go_wp2_with fail
      refine ret_TBpe (by rfl) (by rfl) ((HTZ.out.on HA.out.bl).set3 _ _ _) (by rfl) (by rfl) ⟨_, by rw [HE.out]; rfl, ?_, B3 (Bt HB0.out HA.out.bl) HRZ.out _ _ _⟩
      rw [HE.out]
      exact HA.out.rd.box3 (HTZ.out.on HA.out.bl) ⟨_, _, _, rfl⟩ ⟨_, _, _, rfl⟩ ⟨_, _, _, rfl⟩ ⟨_, _, _, rfl⟩ ⟨_, _, _, rfl⟩ ⟨_, _, _, rfl⟩
end Go.Proofs.YtaegencmnmjgbaaGreat
