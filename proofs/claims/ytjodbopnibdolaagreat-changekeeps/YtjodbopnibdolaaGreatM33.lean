/-
  The program's Apply, and All, of layer 8.
  The contract of alive of layer 8.
  The contracts of few, and own, of layer 8's law.
  The walk of ChangeRight.
-/
import Derived.Test.YtjodbopnibdolaaGreatM30
import Derived.Test.YtjodbopnibdolaaGreatM32
import Derived.Test.YtjodbopnibdolaaGreatM22
import Derived.Test.YtjodbopnibdolaaGreatM15
import Derived.Deep.Cut

namespace Go.Proofs.YtjodbopnibdolaaGreat
open Go.RowKit
set_option linter.unusedVariables false
set_option linter.unusedSimpArgs false

def ApQ (w : World) (l : List Fd) (c : Ch) (e : Ending) (w' : World) : Prop := ∃ A n cp, e = .returned (.tuple #[.slice A n cp, .int .i64 (mkE l c)]) ∧ RdF w' w'.heap.size A n cp (mkT l c).nw ∧ Below w.heap.size w w'

set_option maxRecDepth 20000 in
set_option maxHeartbeats 8000000 in
theorem p8apply_any {w : World} {A : Option Addr} {n cp : Nat} {l : List Fd} (h : RdF w w.heap.size A n cp l) (hs : short l) {c : Ch} (hc : chOk c) {A2 : Option Addr} {n2 c2 : Nat} (ho : RdI w w.heap.size A2 n2 c2 c.od) :
    Calls Tryz.prog 18 #[.slice A n cp, chV c A2 n2 c2] w (ApQ w l c) := by
  obtain ⟨w0, hw0⟩ : ∃ w0, w0 = w.alloc (.cells #[.int .i64 c.op, .string (bs c.nm), .string (bs c.to.nm), .int .i64 c.to.k, .int .i64 c.to.g, .int .i64 c.dk, .int .u64 c.dn, .string c.dt, .slice A2 n2 c2] 57) := ⟨_, rfl⟩
  obtain ⟨rc, hrc⟩ : ∃ rc, rc = w.heap.size := ⟨_, rfl⟩
  have HW0 := hid hw0; have HRC := hid hrc
  have HB0 : Hid (Below w.heap.size w w0) := by rw [hw0]; exact hid (B1 _ _)
  have HC0 : Hid (CB w0 rc c A2 n2 c2 57) := by rw [hw0, hrc]; exact hid (CB.new w c A2 n2 c2 _)
  have H := hid (h.on HB0.out); have HO := hid (ho.on HB0.out); have HS := hid hs; have HC := hid hc
  clear h hs hc ho hw0 hrc
  obtain ⟨k0, k1, k2, k3, k4, k5, k6, k7, k8⟩ := HC0.out.cells
  unfold chV
  go_enter Tryz.func18, Tryz.ntmps18
  go_upto_region 1 with fail
  rw [← HW0.out, ← HRC.out]
  go_wp2_with fail
  refine (p8make_any H.out HS.out HC.out HO.out).mono ?_
  rintro e w1 ⟨v, rfl, ⟨B1', m1, d1, B2', m2, d2, B3', m3, d3, rfl, h1, h2, h3⟩, hb1⟩
  have HB1 := hid (Bt HB0.out hb1)
  have HN := hid h2
  clear h1 h2 h3 hb1 k0 k1 k2 k3 k4 k5 k6 k7 k8
  obtain ⟨q, hq⟩ : ∃ q, q = w1.heap.size := ⟨_, rfl⟩
  obtain ⟨w2, hw2⟩ : ∃ w2, w2 = w1.alloc (.cells #[.slice B1' m1 d1, .slice B2' m2 d2, .slice B3' m3 d3] 36) := ⟨_, rfl⟩
  have HQ := hid hq; have HW2 := hid hw2
  have HT : Hid (TBx w2 q (.slice B1' m1 d1) (.slice B2' m2 d2) (.slice B3' m3 d3) 36) := by rw [hw2, hq]; exact hid (tb_new _ _ _ _ _)
  have HN2 : Hid (RdF w2 w2.heap.size B2' m2 d2 (mkT l c).nw) := by rw [hw2]; exact hid (HN.out.on (B1 _ _))
  have HB2 : Hid (Below w.heap.size w w2) := by rw [hw2]; exact hid (Ba HB1.out _)
  clear hq hw2
  go_upto_region 2 with fail
  rw [← HW2.out, ← HQ.out]
  obtain ⟨a0, a1, a2⟩ := HT.out.cells
  go_wp2_with fail
  go_ret2
  exact ⟨_, _, _, rfl, HN2.out, HB2.out⟩

/-- All's table under way: block q holds it; the fields that it makes. -/
structure PS (w0 W : World) (q : Nat) (l : List Fd) (cs : List Ch) (j : Nat) (v1 v2 v3 : Value) (A : Option Addr) (n c : Nat) (T : Tb) : Prop where
  tb : TBx W q v1 v2 v3 36
  rd : RdT W W.heap.size (.agg #[v1, v2, v3]) T
  rn : RdF W W.heap.size A n c T.nw
  bl : Below w0.heap.size w0 W
  wq : w0.heap.size ≤ q
  rt : rightT T = true
  al : all8 l cs = allF T (cs.drop j)
theorem PS.on {w0 W W' : World} {q : Nat} {l : List Fd} {cs : List Ch} {j : Nat} {v1 v2 v3 : Value} {A : Option Addr} {n c : Nat} {T : Tb} (h : PS w0 W q l cs j v1 v2 v3 A n c T) (hb : Below W.heap.size W W') : PS w0 W' q l cs j v1 v2 v3 A n c T :=
  ⟨h.tb.on hb, h.rd.on hb, h.rn.on hb, h.bl.trans (hb.mono h.bl.size), h.wq, h.rt, h.al⟩
theorem mkT_nw {l : List Fd} {c : Ch} {T : Tb} (h : compB T (mkT l c) = true) : (compT T (mkT l c)).nw = (mkT l c).nw := by rw [compT_ok' h]

set_option maxRecDepth 20000 in
set_option maxHeartbeats 12000000 in
theorem p8all_any {w : World} {A : Option Addr} {n cp : Nat} {l : List Fd} (h : RdF w w.heap.size A n cp l) (hr : rightL l = true) {Ac : Option Addr} {m mc : Nat} {cs : List Ch} (hcs : RdC w w.heap.size Ac m mc cs) (hsc : ∀ c ∈ cs, c.to.nm.length ≤ 100000) :
    Calls Tryz.prog 8 #[.slice A n cp, .slice Ac m mc] w fun e w' => ∃ v, e = .returned (.tuple #[v, .int .i64 (all8 l cs).2]) ∧ RdT w' w'.heap.size v (all8 l cs).1 ∧ Below w.heap.size w w' := by
  have hmi : (m : Int) ≤ 9223372036854775807 := by have := Nat.le_trans hcs.2.1 hcs.2.2.1; unfold maxLen at this; omega
  obtain ⟨w0, hw0⟩ : ∃ w0, w0 = w.alloc (.cells #[.slice none 0 0, .slice none 0 0, .slice none 0 0] 36) := ⟨_, rfl⟩
  obtain ⟨rz, hrz⟩ : ∃ rz, rz = w.heap.size := ⟨_, rfl⟩
  have HW0 := hid hw0; have HRZE := hid hrz
  have HB0 : Hid (Below w.heap.size w w0) := by rw [hw0]; exact hid (B1 _ _)
  have HTZ : Hid (TBx w0 rz (.slice none 0 0) (.slice none 0 0) (.slice none 0 0) 36) := by rw [hw0, hrz]; exact hid (tb_new _ _ _ _ _)
  have HRZ : Hid (w.heap.size ≤ rz) := hid (by omega)
  have H := hid (h.on HB0.out); have HC := hid (hcs.on HB0.out); have HSC := hid hsc
  have HML : Hid (cs.length = m) := hid hcs.1
  have HR := hid hr
  clear h hcs hsc hw0 hrz hr
  go_enter Tryz.func8, Tryz.ntmps8
  go_upto_region 1 with fail
  rw [← HW0.out, ← HRZE.out]
  go_wp2_with fail
  refine (p7same_any H.out (right_short HR.out)).mono ?_
  rintro e w1 ⟨v, rfl, ho1, hb1⟩
  have hrd1 : RdT w1 w1.heap.size v (sameT l) := by
    have h16 := right_len HR.out
    have hok : okF l := H.out.2.2.2.1
    rw [sameT_right HR.out] at ho1 ⊢
    exact ho1.rd hok hok (self_I64 (by omega))
  obtain ⟨B1', m1, d1, B2', m2, d2, B3', m3, d3, rfl, h1, h2, h3⟩ := hrd1
  obtain ⟨q, hq⟩ : ∃ q, q = w1.heap.size := ⟨_, rfl⟩
  obtain ⟨w2, hw2⟩ : ∃ w2, w2 = w1.alloc (.cells #[.slice B1' m1 d1, .slice B2' m2 d2, .slice B3' m3 d3] 36) := ⟨_, rfl⟩
  have HQ := hid hq; have HW2 := hid hw2
  have HPS : Hid (PS w0 w2 q l cs 0 (.slice B1' m1 d1) (.slice B2' m2 d2) (.slice B3' m3 d3) A n cp (sameT l)) := by
    rw [hw2, hq]
    refine hid ⟨tb_new w1 _ _ _ _, RdT.on ⟨_, _, _, _, _, _, _, _, _, rfl, h1, h2, h3⟩ (B1 _ _), ?_, Ba hb1 _, hb1.size, same_rightT HR.out, by unfold all8; rw [HR.out]; rfl⟩
    rw [sameT_right HR.out]
    exact (H.out.on hb1).on (B1 _ _)
  clear ho1 hb1 h1 h2 h3 hq hw2
  go_upto_region 2 with fail
  rw [← HW2.out, ← HQ.out]
  go_wp2_with fail
  go_loopw [0, 15] (fun s i wr => ∃ (j : Nat), j ≤ m ∧ i = .int .i64 j ∧ ∃ A n c, s = .slice A n c ∧ Hid (∃ B1 m1 d1 B2 m2 d2 B3 m3 d3 T, PS w0 wr q l cs j (.slice B1 m1 d1) (.slice B2 m2 d2) (.slice B3 m3 d3) A n c T)) (fun _ i _ => m - (intOf i).toNat)
  case atStart => exact ⟨0, by omega, rfl, A, n, cp, rfl, hid ⟨_, _, _, _, _, _, _, _, _, _, HPS.out⟩⟩
  case round =>
    obtain ⟨j, hj, rfl, Al, nl, cl, rfl, ⟨D, nd, cd, D2, nd2, cd2, D3, nd3, cd3, T, ha⟩⟩ := hrel
    have HA := hid ha
    clear ha
    by_cases hlt : j < m
    · obtain ⟨c, hc⟩ : ∃ c, cs[j]? = some c := ⟨_, List.getElem?_eq_getElem (by have := HML.out; omega)⟩
      have hs1 := HSC.out c (List.mem_of_getElem? hc)
      obtain ⟨_, hn5, b, off, Ao, no, co, rfl, hcc, hod⟩ := HC.out.at hc
      have HCK : Hid (chOk c) := hid ⟨hn5.1, hn5.2.1, hn5.2.2.1, hn5.2.2.2.1, hn5.2.2.2.2, hs1⟩
      have HOD := hid (hod.on HA.out.bl)
      have HAT : Hid (all8 l cs = _) := hid (HA.out.al.trans (allF_at hc))
      have hji : (j : Int) < m := by omega
      have hj0 : (0 : Int) ≤ j := by omega
      obtain ⟨y0, y1, y2, y3, y4, y5, y6, y7, y8⟩ := hcc wr HA.out.bl
      obtain ⟨p, hp⟩ : ∃ p, p = wr.heap.size := ⟨_, rfl⟩
      obtain ⟨w3, hw3⟩ : ∃ w3, w3 = wr.alloc (.cells #[.int .i64 c.op, .string (bs c.nm), .string (bs c.to.nm), .int .i64 c.to.k, .int .i64 c.to.g, .int .i64 c.dk, .int .u64 c.dn, .string c.dt, .slice Ao no co] 57) := ⟨_, rfl⟩
      have HP := hid hp; have HW3 := hid hw3
      have HCB : Hid (CB w3 p c Ao no co 57) := by rw [hw3, hp]; exact hid (CB.new wr c Ao no co _)
      have HA3 : Hid (PS w0 w3 q l cs j (.slice D nd cd) (.slice D2 nd2 cd2) (.slice D3 nd3 cd3) Al nl cl T) := by rw [hw3]; exact hid (HA.out.on (B1 _ _))
      have HOD3 : Hid (RdI w3 w3.heap.size Ao no co c.od) := by rw [hw3]; exact hid (HOD.out.on (B1 _ _))
      clear hcc hod hs1 hn5 hc hp hw3
      go_upto_region 5 with fail
      rw [← HW3.out, ← HP.out]
      clear y0 y1 y2 y3 y4 y5 y6 y7 y8
      obtain ⟨y0, y1, y2, y3, y4, y5, y6, y7, y8⟩ := HCB.out.cells
      go_wp2_with fail
      refine (p8make_any HA3.out.rn (right_short (rightT_iff.1 HA3.out.rt).2.1) HCK.out HOD3.out).mono ?_
      rintro e w6 ⟨v6, rfl, hv6, hb6⟩
      obtain ⟨E, ne, ce, E2, ne2, ce2, E3, ne3, ce3, rfl, i1, i2, i3⟩ := hv6
      obtain ⟨p3, hp3⟩ : ∃ p3, p3 = w6.heap.size := ⟨_, rfl⟩
      obtain ⟨w7, hw7⟩ : ∃ w7, w7 = w6.alloc (.cells #[.slice E ne ce, .slice E2 ne2 ce2, .slice E3 ne3 ce3] 36) := ⟨_, rfl⟩
      have HP3 := hid hp3; have HW7 := hid hw7
      have HV7 : Hid (TBx w7 p3 (.slice E ne ce) (.slice E2 ne2 ce2) (.slice E3 ne3 ce3) 36) := by rw [hw7, hp3]; exact hid (tb_new _ _ _ _ _)
      have HR7 : Hid (RdT w7 w7.heap.size (.agg #[.slice E ne ce, .slice E2 ne2 ce2, .slice E3 ne3 ce3]) (mkT T.nw c)) := by rw [hw7]; exact hid (RdT.on ⟨_, _, _, _, _, _, _, _, _, rfl, i1, i2, i3⟩ (B1 _ _))
      have HA7 : Hid (PS w0 w7 q l cs j (.slice D nd cd) (.slice D2 nd2 cd2) (.slice D3 nd3 cd3) Al nl cl T) := by rw [hw7]; exact hid ((HA3.out.on hb6).on (B1 _ _))
      have HPQ : Hid (q < p3) := hid (by rw [hp3]; have := HA3.out.tb.lt; have := hb6.size; omega)
      clear i1 i2 i3 hb6 hp3 hw7 y0 y1 y2 y3 y4 y5 y6 y7 y8
      go_upto_region 6 with fail
      rw [← HW7.out, ← HP3.out]
      obtain ⟨q0, q1, q2⟩ := HA7.out.tb.cells
      obtain ⟨p0, p1, p2⟩ := HV7.out.cells
      obtain ⟨z0, z1, z2⟩ := (HTZ.out.on HA7.out.bl).cells
      have fz0 := (HTZ.out.on HA7.out.bl).frozen 0; have fz1 := (HTZ.out.on HA7.out.bl).frozen 1; have fz2 := (HTZ.out.on HA7.out.bl).frozen 2
      obtain ⟨me, hme⟩ : ∃ me, me = mkE T.nw c := ⟨_, rfl⟩
      rw [← hme]
      by_cases hm0 : me = 0
      · have HM0 : Hid (mkE T.nw c = 0) := hid (by rw [← hme]; exact hm0)
        clear hme
        subst hm0
        go_wp2_with fail
        refine (p7compose_any HA7.out.rd HR7.out (rightT_short HA.out.rt) (mkT_short HM0.out)).mono ?_
        rintro e w9 ⟨v9, rfl, hv9, hb9⟩
        obtain ⟨G, ng, cg, G2, ng2, cg2, G3, ng3, cg3, rfl, g1, g2, g3⟩ := hv9
        have HR9 : Hid (RdT w9 w9.heap.size (.agg #[.slice G ng cg, .slice G2 ng2 cg2, .slice G3 ng3 cg3]) (compT T (mkT T.nw c))) := hid ⟨_, _, _, _, _, _, _, _, _, rfl, g1, g2, g3⟩
        have HA9 := hid (HA7.out.on hb9)
        have HV9 := hid (HV7.out.on hb9)
        have HN9 : Hid (RdF w9 w9.heap.size E2 ne2 ce2 (mkT T.nw c).nw) := by
          obtain ⟨_, _, _, _, _, _, _, _, _, e1, _, r2, _⟩ := HR7.out.on hb9
          cases e1; exact hid r2
        clear g1 g2 g3 hb9 q0 q1 q2 p0 p1 p2
        clear z0 z1 z2 fz0 fz1 fz2
        obtain ⟨W8, hW8⟩ : ∃ W8, W8 = ((w9.setCell ⟨q, 0, none⟩ (.slice G ng cg)).setCell ⟨q, 1, none⟩ (.slice G2 ng2 cg2)).setCell ⟨q, 2, none⟩ (.slice G3 ng3 cg3) := ⟨_, rfl⟩
        have HWW := hid hW8
        have HB8 : Hid (Below w0.heap.size w0 W8) := by rw [hW8]; exact hid (B3 HA9.out.bl HA9.out.wq _ _ _)
        have HT8 : Hid (TBx W8 q (.slice G ng cg) (.slice G2 ng2 cg2) (.slice G3 ng3 cg3) 36) := by rw [hW8]; exact hid (HA9.out.tb.set3 _ _ _)
        have HV8 : Hid (TBx W8 p3 (.slice E ne ce) (.slice E2 ne2 ce2) (.slice E3 ne3 ce3) 36) := by rw [hW8]; exact hid (HV9.out.other3 (by have := HPQ.out; omega) _ _ _)
        have HR8 : Hid (RdT W8 W8.heap.size (.agg #[.slice G ng cg, .slice G2 ng2 cg2, .slice G3 ng3 cg3]) (compT T (mkT T.nw c))) := by
          rw [hW8]; exact hid (HR9.out.box3 HA9.out.tb ⟨_, _, _, rfl⟩ ⟨_, _, _, rfl⟩ ⟨_, _, _, rfl⟩ ⟨_, _, _, rfl⟩ ⟨_, _, _, rfl⟩ ⟨_, _, _, rfl⟩)
        have HN8 : Hid (RdF W8 W8.heap.size E2 ne2 ce2 (mkT T.nw c).nw) := by
          have hx := ((HN9.out.box HA9.out.tb ⟨_, _, _, rfl⟩ ⟨_, _, _, rfl⟩ ⟨_, _, _, rfl⟩ 0 (.slice G ng cg)).box (HA9.out.tb.set0 _) ⟨_, _, _, rfl⟩ ⟨_, _, _, rfl⟩ ⟨_, _, _, rfl⟩ 1 (.slice G2 ng2 cg2)).box ((HA9.out.tb.set0 _).set1 _) ⟨_, _, _, rfl⟩ ⟨_, _, _, rfl⟩ ⟨_, _, _, rfl⟩ 2 (.slice G3 ng3 cg3)
          rw [hW8]; simpa only [size_set] using hid hx
        have HTZ8 := hid (HTZ.out.on HB8.out)
        clear hW8
        obtain ⟨q0, q1, q2⟩ := HA9.out.tb.cells
        have f0 := HA9.out.tb.frozen 0; have f1 := HA9.out.tb.frozen 1; have f2 := HA9.out.tb.frozen 2
        go_upto_region 9 with fail
        rw [← HWW.out]
        clear q0 q1 q2 f0 f1 f2
        obtain ⟨q0, q1, q2⟩ := HT8.out.cells
        obtain ⟨p0, p1, p2⟩ := HV8.out.cells
        obtain ⟨z0, z1, z2⟩ := HTZ8.out.cells
        have fz0 := HTZ8.out.frozen 0; have fz1 := HTZ8.out.frozen 1; have fz2 := HTZ8.out.frozen 2
        cases hcb : compB T (mkT T.nw c) with
        | true =>
          rw [compE_ok' hcb]
          have HCBB := hid hcb
          have HNE := hid (mkT_nw hcb)
          clear hcb
          go_wp2_with fail
          refine ⟨⟨j + 1, by omega, by go_num, _, _, _, rfl, hid ⟨_, _, _, _, _, _, _, _, _, _, HT8.out, HR8.out, by rw [HNE.out]; exact HN8.out, HB8.out, HA9.out.wq, compT_right (fun x hx => ?_) (compE_ok' HCBB.out), HAT.out.trans (by rw [if_neg (by simp [HM0.out]), if_pos HCBB.out])⟩⟩, by simp [intOf]; omega⟩
          obtain ⟨_, _, _, _, _, _, _, _, _, _, _, _, r3⟩ := HA9.out.rd
          exact (r3.2.2.2.1 x hx).2.2
        | false =>
          rw [compE_no' hcb]
          have HE : Hid (all8 l cs = (Tb.none, 70)) := hid (HAT.out.trans (by rw [if_neg (by simp [HM0.out]), hcb]; rfl))
          clear hcb
          go_wp2_with fail
          exact ret_TBpe (by rfl) (by rfl) (HTZ8.out.set3 _ _ _) (by rfl) (by rfl) ⟨_, by rw [HE.out]; rfl, by rw [HE.out]; exact RdT.nil _ _, B3 (Bt HB0.out HB8.out) HRZ.out _ _ _⟩
      · have t1 : (me != 0) = true := by simpa using hm0
        have HE : Hid (all8 l cs = (Tb.none, me)) := hid (HAT.out.trans (by rw [if_pos (by rw [← hme]; exact hm0), hme]))
        clear hme hm0
        go_wp2_with fail
        exact ret_TBpe (by rfl) (by rfl) ((HTZ.out.on HA7.out.bl).set3 _ _ _) (by rfl) (by rfl) ⟨_, by rw [HE.out]; rfl, by rw [HE.out]; exact RdT.nil _ _, B3 (Bt HB0.out HA7.out.bl) HRZ.out _ _ _⟩
    · have hjm : j = m := by omega
      have HE : Hid (all8 l cs = (T, 0)) := hid (by rw [HA.out.al, hjm, List.drop_eq_nil_of_le (Nat.le_of_eq HML.out)]; rfl)
      have hji : ¬ ((j : Int) < m) := by omega
      obtain ⟨q0, q1, q2⟩ := HA.out.tb.cells
      obtain ⟨z0, z1, z2⟩ := (HTZ.out.on HA.out.bl).cells
      have fz0 := (HTZ.out.on HA.out.bl).frozen 0; have fz1 := (HTZ.out.on HA.out.bl).frozen 1; have fz2 := (HTZ.out.on HA.out.bl).frozen 2
      clear hjm
      go_wp2_with fail
      refine ret_TBpe (by rfl) (by rfl) ((HTZ.out.on HA.out.bl).set3 _ _ _) (by rfl) (by rfl) ⟨_, by rw [HE.out]; rfl, ?_, B3 (Bt HB0.out HA.out.bl) HRZ.out _ _ _⟩
      rw [HE.out]
      exact HA.out.rd.box3 (HTZ.out.on HA.out.bl) ⟨_, _, _, rfl⟩ ⟨_, _, _, rfl⟩ ⟨_, _, _, rfl⟩ ⟨_, _, _, rfl⟩ ⟨_, _, _, rfl⟩ ⟨_, _, _, rfl⟩
end Go.Proofs.YtjodbopnibdolaaGreat

namespace Go.Proofs.YtjodbopnibdolaaGreat
open Go.RowKit
set_option linter.unusedVariables false
set_option linter.unusedSimpArgs false

def lA : List Fd := [⟨[97], 1, 0⟩]
def cA1 : Ch := ⟨4, [97], ⟨[], 2, 0⟩, 0, 0, ⟨#[]⟩, []⟩
def cA2 : Ch := ⟨4, [97], ⟨[], 5, 0⟩, 0, 0, ⟨#[]⟩, []⟩
def cA3 : Ch := ⟨3, [97], ⟨[98], 0, 0⟩, 0, 0, ⟨#[]⟩, []⟩
theorem eA : mkE lA cA1 = 0 ∧ mkE lA cA2 = 80 ∧ mkE lA cA3 = 0 := by decide +kernel
theorem tA1 : mkT lA cA1 = ⟨lA, [⟨[97], 2, 0⟩], [⟨0, 0, 0, ⟨#[]⟩⟩]⟩ := by
  rw [mkT_ok eA.1]
  have h1 : newC lA cA1 = [⟨[97], 2, 0⟩] := by decide +kernel
  have h2 : mvC lA cA1 = [⟨0, 0, 0, ⟨#[]⟩⟩] := by rfl
  rw [h1, h2]
theorem tA3 : (mkT lA cA3).nw = [⟨[98], 1, 0⟩] := by
  rw [mkT_ok eA.2.2]
  show newC lA cA3 = _
  decide +kernel
theorem rd_lA (w : World) : RdF (w.alloc (.cells #[.string ⟨#[97]⟩, .int .i64 1, .int .i64 0] 29)) (w.alloc (.cells #[.string ⟨#[97]⟩, .int .i64 1, .int .i64 0] 29)).heap.size (some ⟨w.heap.size, 0, none⟩) 1 1 lA := by
  refine ⟨rfl, by omega, by unfold maxLen; omega, fun f hf => ?_, fun _ => ⟨w.heap.size, 0, rfl, by simp, fun i hi => ?_⟩⟩
  · simp only [lA, List.mem_cons, List.not_mem_nil, or_false] at hf
    subst hf; exact ⟨i64_iff.2 (by decide), i64_iff.2 (by decide), by decide⟩
  · have : i = 0 := by simp [lA] at hi; omega
    subst this; exact ⟨row_cell (heap_alloc_new w _) _, row_cell (heap_alloc_new w _) _, row_cell (heap_alloc_new w _) _⟩
theorem short_lA : short lA := fun f hf => by
  simp only [lA, List.mem_cons, List.not_mem_nil, or_false] at hf
  subst hf; decide
theorem okA (k : Int) (h : I64 k) (o : Int) (ho : I64 o) (nm tn : List UInt8) (ht : tn.length ≤ 100000) : chOk ⟨o, nm, ⟨tn, k, 0⟩, 0, 0, ⟨#[]⟩, []⟩ :=
  have z : I64 0 := i64_iff.2 (by decide)
  have u : U64 0 := ⟨Int.le_refl _, by rw [pw8]; decide⟩
  ⟨ho, h, z, z, u, ht⟩

set_option maxRecDepth 20000 in
set_option maxHeartbeats 8000000 in
theorem alive8_any (w : World) : Calls Tryz.prog 6 #[] w fun e w' => e = .returned (.bool true) ∧ Below w.heap.size w w' := by
  obtain ⟨w0, hw0⟩ : ∃ w0, w0 = w.alloc (.cells #[.string ⟨#[97]⟩, .int .i64 1, .int .i64 0] 29) := ⟨_, rfl⟩
  have HW0 := hid hw0
  obtain ⟨lb, hlb⟩ : ∃ lb, lb = w.heap.size := ⟨_, rfl⟩
  have HLB := hid hlb
  have HB0 : Hid (Below w.heap.size w w0) := by rw [hw0]; exact B1 _ _
  have HL : Hid (RdF w0 w0.heap.size (some ⟨lb, 0, none⟩) 1 1 lA) := by rw [hw0, hlb]; exact rd_lA w
  clear hw0 hlb
  go_enter Tryz.func6, Tryz.ntmps6
  go_upto_region 2 with fail
  rw [← HW0.out, ← HLB.out]
  go_wp2_with fail
  refine (p8make_any (c := cA1) (A2 := none) (n2 := 0) (c2 := 0) HL.out short_lA (okA 2 (i64_iff.2 (by decide)) 4 (i64_iff.2 (by decide)) _ _ (by decide)) (RdI.nil _ _)).mono ?_
  rintro e w1 ⟨v1, rfl, hv1, hb1⟩
  rw [eA.1]
  rw [tA1] at hv1
  obtain ⟨B1', m1, d1, B2', m2, d2, B3', m3, d3, rfl, h1, h2, h3⟩ := hv1
  obtain ⟨q, hq⟩ : ∃ q, q = w1.heap.size := ⟨_, rfl⟩
  obtain ⟨w2, hw2⟩ : ∃ w2, w2 = w1.alloc (.cells #[.slice B1' m1 d1, .slice B2' m2 d2, .slice B3' m3 d3] 36) := ⟨_, rfl⟩
  have HQ := hid hq; have HW2 := hid hw2
  have HT : Hid (TBx w2 q (.slice B1' m1 d1) (.slice B2' m2 d2) (.slice B3' m3 d3) 36) := by rw [hw2, hq]; exact hid (tb_new _ _ _ _ _)
  have HN2 : Hid (RdF w2 w2.heap.size B2' m2 d2 [⟨[97], 2, 0⟩]) := by rw [hw2]; exact hid (h2.on (B1 _ _))
  have HM2 : Hid (RdM w2 w2.heap.size B3' m3 d3 [⟨0, 0, 0, ⟨#[]⟩⟩]) := by rw [hw2]; exact hid (h3.on (B1 _ _))
  have HB2 : Hid (Below w0.heap.size w0 w2) := by rw [hw2]; exact hid (Ba hb1 _)
  clear h1 h2 h3 hb1 hq hw2
  go_upto_region 3 with fail
  rw [← HW2.out, ← HQ.out]
  go_wp2_with fail
  refine (p8make_any (c := cA2) (A2 := none) (n2 := 0) (c2 := 0) (HL.out.on HB2.out) short_lA (okA 5 (i64_iff.2 (by decide)) 4 (i64_iff.2 (by decide)) _ _ (by decide)) (RdI.nil _ _)).mono ?_
  rintro e w3 ⟨v3, rfl, hv3, hb3⟩
  rw [eA.2.1]
  obtain ⟨C1, e1, f1, C2, e2, f2, C3, e3, f3, rfl, _, _, _⟩ := hv3
  obtain ⟨w4, hw4⟩ : ∃ w4, w4 = w3.alloc (.cells #[.slice C1 e1 f1, .slice C2 e2 f2, .slice C3 e3 f3] 36) := ⟨_, rfl⟩
  have HW4 := hid hw4
  have HB24 : Hid (Below w2.heap.size w2 w4) := by rw [hw4]; exact hid (Ba hb3 _)
  have HB4 : Hid (Below w0.heap.size w0 w4) := hid (Bt HB2.out HB24.out)
  clear hb3 hw4
  go_upto_region 4 with fail
  rw [← HW4.out]
  go_wp2_with fail
  refine (p8apply_any (c := cA3) (A2 := none) (n2 := 0) (c2 := 0) (HL.out.on HB4.out) short_lA (okA 0 (i64_iff.2 (by decide)) 3 (i64_iff.2 (by decide)) _ _ (by decide)) (RdI.nil _ _)).mono ?_
  rintro e w5 ⟨A6, n6, c6, rfl, h6, hb5⟩
  rw [eA.2.2]
  rw [tA3] at h6
  have HB25 := hid (Bt HB24.out hb5)
  have HB5 : Hid (Below w.heap.size w w5) := hid (Bt HB0.out (Bt HB4.out hb5))
  obtain ⟨a0, a1, a2⟩ := (HT.out.on HB25.out).cells
  have r2 := HN2.out.on HB25.out
  have r3 := HM2.out.on HB25.out
  obtain rfl : 1 = m2 := r2.1
  obtain rfl : 1 = m3 := r3.1
  obtain rfl : 1 = n6 := h6.1
  obtain ⟨_, _, _, _, b2, o2, rfl, g2⟩ := r2.at (i := 0) rfl
  obtain ⟨_, _, _, _, b3, o3, rfl, g3⟩ := r3.at (i := 0) rfl
  obtain ⟨_, _, _, _, b6, o6, rfl, g6⟩ := h6.at (i := 0) rfl
  obtain ⟨x0, x1, x2⟩ := g2 w5 (B0 _)
  obtain ⟨m0, m1, m2, m3⟩ := g3 w5 (B0 _)
  obtain ⟨t0, t1, t2⟩ := g6 w5 (B0 _)
  rw [Nat.zero_mul, Nat.add_zero] at x0 x1 x2 m0 m1 m2 m3 t0 t1 t2
  have hb98 : (⟨#[98]⟩ : ByteArray) = bs [98] := rfl
  clear g2 g3 g6 r2 r3 h6 hb5
  go_wp2_with fail
  go_ret
  exact ⟨rfl, HB5.out⟩
end Go.Proofs.YtjodbopnibdolaaGreat

namespace Go.Proofs.YtjodbopnibdolaaGreat
open Go.RowKit
set_option linter.unusedVariables false
set_option linter.unusedSimpArgs false

def wtC (c : Ch) : Nat := c.nm.length + c.to.nm.length + c.dt.size + c.od.length
def sumC (cs : List Ch) : Nat := (cs.map wtC).sum
theorem sumC_take {l : List Ch} {j : Nat} {f : Ch} (h : l[j]? = some f) : sumC (l.take (j + 1)) = sumC (l.take j) + wtC f := by
  unfold sumC; rw [List.take_add_one, h]; simp
theorem sumC_le {l : List Ch} {B : Nat} (h : ∀ f ∈ l, wtC f ≤ B) : sumC l ≤ l.length * B := by
  induction l with
  | nil => simp [sumC]
  | cons f l ih =>
    have h1 := h f (by simp)
    have h2 := ih (fun x hx => h x (by simp [hx]))
    have e : sumC (f :: l) = wtC f + sumC l := by simp [sumC]
    rw [e, List.length_cons, Nat.succ_mul]; omega
theorem le_sumC {l : List Ch} {f : Ch} (h : f ∈ l) : wtC f ≤ sumC l := by
  induction l with
  | nil => cases h
  | cons x l ih =>
    have e : sumC (x :: l) = wtC x + sumC l := by simp [sumC]
    rcases List.mem_cons.1 h with rfl | h
    · omega
    · have := ih h; omega
/-- As long as what a change holds may be. -/
def shC (c : Ch) : Prop := c.nm.length ≤ nmMax ∧ c.to.nm.length ≤ nmMax ∧ c.dt.size ≤ nmMax ∧ c.od.length ≤ nmMax
def fewP8 (n : Nat) (l : List Fd) (m : Nat) (cs : List Ch) : Prop := n ≤ 40 ∧ m ≤ 30 ∧ (∀ f ∈ l, f.nm.length ≤ 2000) ∧ ∀ c ∈ cs, wtC c ≤ 2000
def Few8Q (w : World) (n : Nat) (l : List Fd) (m : Nat) (cs : List Ch) (e : Ending) (w' : World) : Prop := ∃ b, e = .returned (.bool b) ∧ (b = true → fewP8 n l m cs) ∧ Below w.heap.size w w'

set_option maxHeartbeats 4000000 in
theorem few8_any {w : World} {A : Option Addr} {n c : Nat} {l : List Fd} (h : RdF w w.heap.size A n c l) {Ac : Option Addr} {m mc : Nat} {cs : List Ch} (hcs : RdC w w.heap.size Ac m mc cs) (hsh : ∀ c ∈ cs, shC c) :
    Calls Tryz.prog 4 #[.slice A n c, .slice Ac m mc] w (Few8Q w n l m cs) := by
  have HL := hid h.1; have HM := hid hcs.1
  have hnm : (n : Int) ≤ 9223372036854775807 := by have := Nat.le_trans h.2.1 h.2.2.1; unfold maxLen at this; omega
  have hmm : (m : Int) ≤ 9223372036854775807 := by have := Nat.le_trans hcs.2.1 hcs.2.2.1; unfold maxLen at this; omega
  have H := hid h; have HC := hid hcs; have HSH := hid hsh; clear h hcs hsh
  go_enter Tryz.func4, Tryz.ntmps4
  go_wp2_with fail
  go_loopw [5, 12] (fun s i wr => ∃ (j : Nat) (z : Int), j ≤ n ∧ i = .int .i64 j ∧ s = .int .i64 z ∧ Hid (n ≤ 40 → z = (sumN (l.take j) : Nat)) ∧ Hid (Below w.heap.size w wr)) (fun _ i _ => n - (intOf i).toNat)
  case atStart => exact ⟨0, 0, by omega, rfl, rfl, hid (fun _ => by simp [sumN]), B0 w⟩
  case round =>
    obtain ⟨j, z, hj, rfl, rfl, HZ, HB⟩ := hrel
    by_cases hlt : j < n
    · have hjl : j < l.length := by have := HL.out; omega
      obtain ⟨f, hf⟩ : ∃ f, l[j]? = some f := ⟨_, List.getElem?_eq_getElem hjl⟩
      obtain ⟨_, hk64, hg64, hnl, b, off, rfl, hc⟩ := H.out.at hf
      obtain ⟨c0, cc1, cc2⟩ := hc wr HB.out
      have HF := hid hf
      have hfl : (f.nm.length : Int) ≤ 9223372036854775807 := by unfold nmMax at hnl; omega
      have hjb : (j : Int) + 1 ≤ 9223372036854775807 := by omega
      have HW : Hid (n ≤ 40 → IntKind.i64.wrap (z + (f.nm.length : Int)) = (sumN (l.take (j + 1)) : Nat)) := fun h40 => by
        have h1 := HZ.out h40
        have h2 := sumN_le (l := l.take (j + 1)) (B := nmMax) (fun f hf => (H.out.2.2.2.1 f (List.mem_of_mem_take hf)).2.2)
        have h3 : (l.take (j + 1)).length ≤ 40 := by rw [List.length_take]; omega
        have h4 : (l.take (j + 1)).length * nmMax ≤ 40 * nmMax := Nat.mul_le_mul_right _ h3
        have h5 := sumN_take HF.out
        unfold nmMax at h4 h2
        rw [h1, IntKind.wrap_i64]
        omega
      obtain ⟨z', hz'⟩ : ∃ z', z' = IntKind.i64.wrap (z + (f.nm.length : Int)) := ⟨_, rfl⟩
      rw [← hz'] at HW
      have hz2 := hz'.symm
      clear hc hjl hf hk64 hg64 hnl hz'
      go_wp2_with fail
      go_roundw
      case rel => exact ⟨j + 1, z', by omega, by simp, rfl, HW, Ba HB.out _⟩
      case measure => simp [intOf]; omega
    · obtain rfl : j = n := by omega
      have et : l.take j = l := by rw [← HL.out]; exact List.take_length
      rw [et] at HZ
      have HZB : Hid (j ≤ 40 → sumN l ≤ 40 * nmMax) := hid (fun h40 => Nat.le_trans (sumN_le (B := nmMax) (fun f hf => (H.out.2.2.2.1 f hf).2.2)) (Nat.mul_le_mul_right _ (by have := HL.out; omega)))
      clear et
      go_wp2_with fail
      go_loopw [5, 24] (fun s i wr2 => ∃ (i0 : Nat) (z : Int), i0 ≤ m ∧ i = .int .i64 i0 ∧ s = .int .i64 z ∧ Hid (j ≤ 40 → m ≤ 30 → z = (sumN l : Nat) + (sumC (cs.take i0) : Nat)) ∧ Hid (Below w.heap.size w wr2)) (fun _ i _ => m - (intOf i).toNat)
      case atStart => exact ⟨0, z, by omega, rfl, rfl, hid (fun h40 _ => by rw [HZ.out h40]; simp [sumC]), HB⟩
      case round =>
        obtain ⟨i, z2, hi, rfl, rfl, HZ2, HB2⟩ := hrel
        by_cases hlt2 : i < m
        · obtain ⟨c, hc⟩ : ∃ c, cs[i]? = some c := ⟨_, List.getElem?_eq_getElem (by have := HM.out; omega)⟩
          obtain ⟨_, _, b, off, Ao, no, co, rfl, hcc, hod⟩ := HC.out.at hc
          obtain ⟨d0, d1, d2, d3, d4, d5, d6, d7, d8⟩ := hcc _ HB2.out
          have hs := HSH.out c (List.mem_of_getElem? hc)
          unfold shC nmMax at hs
          obtain ⟨s1, s2, s3, s4⟩ := hs
          have hno : c.od.length = no := hod.1
          have HCC := hid hc
          have q1 : IntKind.i64.wrap ((c.nm.length : Int) + (c.to.nm.length : Int)) = (c.nm.length : Int) + (c.to.nm.length : Int) := by rw [IntKind.wrap_i64]; omega
          have q2 : IntKind.i64.wrap ((c.nm.length : Int) + (c.to.nm.length : Int) + (c.dt.size : Int)) = (c.nm.length : Int) + (c.to.nm.length : Int) + (c.dt.size : Int) := by rw [IntKind.wrap_i64]; omega
          have q3 : IntKind.i64.wrap ((c.nm.length : Int) + (c.to.nm.length : Int) + (c.dt.size : Int) + (no : Int)) = (c.nm.length : Int) + (c.to.nm.length : Int) + (c.dt.size : Int) + (no : Int) := by rw [IntKind.wrap_i64]; omega
          have HW : Hid (j ≤ 40 → m ≤ 30 → IntKind.i64.wrap (z2 + ((c.nm.length : Int) + (c.to.nm.length : Int) + (c.dt.size : Int) + (no : Int))) = (sumN l : Nat) + (sumC (cs.take (i + 1)) : Nat)) := fun h40 h30 => by
            have h1 := HZ2.out h40 h30
            have h2 := HZB.out h40
            have h3 : ∀ f ∈ cs.take (i + 1), wtC f ≤ 4 * nmMax := fun f hf => by
              have := HSH.out f (List.mem_of_mem_take hf); unfold shC at this; unfold wtC; omega
            have h4 := sumC_le h3
            have h5 : (cs.take (i + 1)).length ≤ 30 := by rw [List.length_take]; omega
            have h6 : (cs.take (i + 1)).length * (4 * nmMax) ≤ 30 * (4 * nmMax) := Nat.mul_le_mul_right _ h5
            have h7 := sumC_take HCC.out
            unfold nmMax at h2 h4 h6
            have h8 : (wtC c : Int) = (c.nm.length : Int) + (c.to.nm.length : Int) + (c.dt.size : Int) + (no : Int) := by unfold wtC; omega
            rw [h1, IntKind.wrap_i64]
            omega
          obtain ⟨z', hz'⟩ : ∃ z', z' = IntKind.i64.wrap (z2 + ((c.nm.length : Int) + (c.to.nm.length : Int) + (c.dt.size : Int) + (no : Int))) := ⟨_, rfl⟩
          rw [← hz'] at HW
          have hz2 := hz'.symm
          have hji : (i : Int) < m := by omega
          have hj0 : (0 : Int) ≤ i := by omega
          have l1 : (c.nm.length : Int) ≤ 9223372036854775807 := by omega
          have l2 : (c.to.nm.length : Int) ≤ 9223372036854775807 := by omega
          have l3 : (c.dt.size : Int) ≤ 9223372036854775807 := by omega
          have l4 : (no : Int) ≤ 9223372036854775807 := by omega
          obtain ⟨p, hp⟩ : ∃ p, p = wr.heap.size := ⟨_, rfl⟩
          obtain ⟨w3, hw3⟩ : ∃ w3, w3 = wr.alloc (.cells #[.int .i64 c.op, .string (bs c.nm), .string (bs c.to.nm), .int .i64 c.to.k, .int .i64 c.to.g, .int .i64 c.dk, .int .u64 c.dn, .string c.dt, .slice Ao no co] 52) := ⟨_, rfl⟩
          have HP := hid hp; have HW3 := hid hw3
          have HCB : Hid (CB w3 p c Ao no co 52) := by rw [hw3, hp]; exact hid (CB.new wr c Ao no co _)
          have HB3 : Hid (Below w.heap.size w w3) := by rw [hw3]; exact hid (Ba HB2.out _)
          clear hcc hod hc hz' s1 s2 s3 s4 hno hp hw3
          go_upto_region 10 with fail
          rw [← HW3.out, ← HP.out]
          clear d0 d1 d2 d3 d4 d5 d6 d7 d8
          obtain ⟨y0, y1, y2, y3, y4, y5, y6, y7, y8⟩ := HCB.out.cells
          go_wp2_with fail
          exact ⟨⟨i + 1, z', by omega, by go_num, rfl, HW, HB3⟩, by simp [intOf]; omega⟩
        · obtain rfl : i = m := by omega
          have et : cs.take i = cs := by rw [← HM.out]; exact List.take_length
          rw [et] at HZ2
          clear et
          by_cases h40 : (j : Int) ≤ 40
          · have d1 : decide ((j : Int) ≤ 40) = true := decide_eq_true h40
            by_cases h30 : (i : Int) ≤ 30
            · have d2 : decide ((i : Int) ≤ 30) = true := decide_eq_true h30
              have HQ : Hid (decide (z2 ≤ 2000) = true → fewP8 j l i cs) := fun h => by
                have h1 := HZ2.out (by omega) (by omega)
                have h2 : z2 ≤ 2000 := by simpa using h
                exact ⟨by omega, by omega, fun f hf => by have := le_sumN hf; omega, fun f hf => by have := le_sumC hf; omega⟩
              clear h40 h30
              go_wp2_with fail
              go_ret
              exact ⟨_, rfl, HQ.out, HB2.out⟩
            · have d2 : decide ((i : Int) ≤ 30) = false := decide_eq_false h30
              go_wp2_with fail
              go_ret
              exact ⟨_, rfl, fun h => (by cases h), HB2.out⟩
          · have d1 : decide ((j : Int) ≤ 40) = false := decide_eq_false h40
            go_wp2_with fail
            go_ret
            exact ⟨_, rfl, fun h => (by cases h), HB2.out⟩
end Go.Proofs.YtjodbopnibdolaaGreat

namespace Go.Proofs.YtjodbopnibdolaaGreat
open Go.RowKit
set_option linter.unusedVariables false
set_option linter.unusedSimpArgs false

/-- A change as a law is handed it. -/
def ChA (w : World) (c : Ch) (A : Option Addr) (n cp : Nat) : Prop := (I64 c.op ∧ I64 c.to.k ∧ I64 c.to.g ∧ I64 c.dk ∧ U64 c.dn) ∧ shC c ∧ RdI w w.heap.size A n cp c.od
theorem ChA.on {w w' : World} {c : Ch} {A : Option Addr} {n cp : Nat} (h : ChA w c A n cp) (hb : Below w.heap.size w w') : ChA w' c A n cp := ⟨h.1, h.2.1, h.2.2.on hb⟩
/-- A slice of one change that the call makes. -/
theorem rdC_one {w : World} {c : Ch} {A : Option Addr} {n cp : Nat} (h : ChA w c A n cp) {g : Nat} (hg : w.heap[g]? = some (.cells #[.int .i64 c.op, .string (bs c.nm), .string (bs c.to.nm), .int .i64 c.to.k, .int .i64 c.to.g, .int .i64 c.dk, .int .u64 c.dn, .string c.dt, .slice A n cp] 52 (0, 0))) : RdC w w.heap.size (some ⟨g, 0, none⟩) 1 1 [c] := by
  refine ⟨rfl, Nat.le_refl _, by unfold maxLen; omega, fun x hx => by simp at hx; subst hx; exact h.1, fun _ => ⟨g, 0, rfl, row_lt hg, fun i hi => ?_⟩⟩
  have : i = 0 := by simp at hi; omega
  subst this
  exact ⟨A, n, cp, ⟨row_cell hg _, row_cell hg _, row_cell hg _, row_cell hg _, row_cell hg _, row_cell hg _, row_cell hg _, row_cell hg _, row_cell hg _⟩, h.2.2⟩
theorem rdC_two {w : World} {c d : Ch} {A A2 : Option Addr} {n cp n2 cp2 : Nat} (h : ChA w c A n cp) (h2 : ChA w d A2 n2 cp2) {g : Nat} (hg : w.heap[g]? = some (.cells #[.int .i64 c.op, .string (bs c.nm), .string (bs c.to.nm), .int .i64 c.to.k, .int .i64 c.to.g, .int .i64 c.dk, .int .u64 c.dn, .string c.dt, .slice A n cp, .int .i64 d.op, .string (bs d.nm), .string (bs d.to.nm), .int .i64 d.to.k, .int .i64 d.to.g, .int .i64 d.dk, .int .u64 d.dn, .string d.dt, .slice A2 n2 cp2] 52 (0, 0))) : RdC w w.heap.size (some ⟨g, 0, none⟩) 2 2 [c, d] := by
  refine ⟨rfl, Nat.le_refl _, by unfold maxLen; omega, fun x hx => by simp at hx; rcases hx with rfl | rfl; exact h.1; exact h2.1, fun _ => ⟨g, 0, rfl, row_lt hg, fun i hi => ?_⟩⟩
  have : i = 0 ∨ i = 1 := by simp at hi; omega
  rcases this with rfl | rfl
  · exact ⟨A, n, cp, ⟨row_cell hg _, row_cell hg _, row_cell hg _, row_cell hg _, row_cell hg _, row_cell hg _, row_cell hg _, row_cell hg _, row_cell hg _⟩, h.2.2⟩
  · exact ⟨A2, n2, cp2, ⟨row_cell hg _, row_cell hg _, row_cell hg _, row_cell hg _, row_cell hg _, row_cell hg _, row_cell hg _, row_cell hg _, row_cell hg _⟩, h2.2.2⟩
/-- So few: then all is short. -/
theorem few_chOk {n m : Nat} {l : List Fd} {cs : List Ch} (h : fewP8 n l m cs) {c : Ch} (hc : c ∈ cs) (hi : I64 c.op ∧ I64 c.to.k ∧ I64 c.to.g ∧ I64 c.dk ∧ U64 c.dn) : chOk c := ⟨hi.1, hi.2.1, hi.2.2.1, hi.2.2.2.1, hi.2.2.2.2, by have := h.2.2.2 c hc; unfold wtC at this; omega⟩
theorem few_short {n m : Nat} {l : List Fd} {cs : List Ch} (h : fewP8 n l m cs) : short l := fun f hf => by have := h.2.2.1 f hf; omega
/-- How many fields a change makes. -/
def moreC (c : Ch) : Int := if c.op = 1 then 1 else if c.op = 2 then -1 else 0
theorem newC_len {l : List Fd} {c : Ch} (h : mkE l c = 0) : ((newC l c).length : Int) = l.length + moreC c := by
  obtain ⟨hr, h1, h5, hk, hc, ha, ho, hn⟩ := mkE_facts h
  unfold moreC newC
  by_cases e1 : c.op = 1
  · rw [if_pos e1, if_pos e1, newF_id (by omega) (by omega) (by omega) _ (Nat.le_refl _)]; simp
  · rw [if_neg e1, if_neg e1]
    by_cases e5 : c.op = 5
    · rw [if_pos e5, if_neg (by omega)]
      have hab : allB c.od l.length = true := by unfold noOrd at ho; rw [e5] at ho; simpa using ho
      rw [odF_length (allB_mem hab), (allB_iff.1 hab).1]; simp
    · rw [if_neg e5]
      obtain ⟨k, hkk⟩ := hk (by omega) (by omega)
      rw [hkk]
      by_cases e2 : c.op = 2
      · rw [if_pos e2, newF_erase e2 _ (Nat.le_refl _), List.take_length, List.length_eraseIdx, if_pos (findN_lt hkk)]
        have := findN_lt hkk; omega
      · rw [if_neg e2]
        obtain ⟨f, hf, _⟩ := findN_get hkk
        rw [newF_set e2 hf, List.length_set]; simp
theorem mkT_nw0 {l : List Fd} {c : Ch} (h : mkE l c = 0) : (mkT l c).nw = newC l c := by rw [mkT_ok h]
theorem mkT_nwN {l : List Fd} {c : Ch} (h : mkE l c ≠ 0) : (mkT l c).nw = [] := by rw [mkT_no h]; rfl

end Go.Proofs.YtjodbopnibdolaaGreat
