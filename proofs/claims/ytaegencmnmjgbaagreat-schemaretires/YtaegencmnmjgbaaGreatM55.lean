/-
  The document's All of layer 8.
-/
import Derived.Test.YtaegencmnmjgbaaGreatM34

namespace Go.Proofs.YtaegencmnmjgbaaGreat
open Go.RowKit
set_option linter.unusedVariables false
set_option linter.unusedSimpArgs false
def AllQ (w : World) (l : List Fd) (cs : List Ch) (e : Ending) (w' : World) : Prop := ∃ v, e = .returned (.tuple #[v, .int .i64 (all8 l cs).2]) ∧ RdT w' w'.heap.size v (all8 l cs).1 ∧ Below w.heap.size w w'
structure AS (w0 W : World) (q : Nat) (ty : TypeId) (l : List Fd) (cs : List Ch) (j : Nat) (A : Option Addr) (n c : Nat) (A2 : Option Addr) (n2 c2 : Nat) (A3 : Option Addr) (n3 c3 : Nat) (T : Tb) : Prop where
  tb : TBx W q (.slice A n c) (.slice A2 n2 c2) (.slice A3 n3 c3) ty
  ro : RdF W W.heap.size A n c T.o
  rn : RdF W W.heap.size A2 n2 c2 T.nw
  rm : RdM W W.heap.size A3 n3 c3 T.mv
  bl : Below w0.heap.size w0 W
  wq : w0.heap.size ≤ q
  rt : rightT T = true
  al : all8 l cs = allF T (cs.drop j)
theorem AS.on {w0 W W' : World} {q : Nat} {ty : TypeId} {l : List Fd} {cs : List Ch} {j : Nat} {A : Option Addr} {n c : Nat} {A2 : Option Addr} {n2 c2 : Nat} {A3 : Option Addr} {n3 c3 : Nat} {T : Tb} (h : AS w0 W q ty l cs j A n c A2 n2 c2 A3 n3 c3 T) (hb : Below W.heap.size W W') : AS w0 W' q ty l cs j A n c A2 n2 c2 A3 n3 c3 T :=
  ⟨h.tb.on hb, h.ro.on hb, h.rn.on hb, h.rm.on hb, h.bl.trans (hb.mono h.bl.size), h.wq, h.rt, h.al⟩
theorem AS.tab {w0 W : World} {q : Nat} {ty : TypeId} {l : List Fd} {cs : List Ch} {j : Nat} {A : Option Addr} {n c : Nat} {A2 : Option Addr} {n2 c2 : Nat} {A3 : Option Addr} {n3 c3 : Nat} {T : Tb} (h : AS w0 W q ty l cs j A n c A2 n2 c2 A3 n3 c3 T) : RdT W W.heap.size (.agg #[.slice A n c, .slice A2 n2 c2, .slice A3 n3 c3]) T := ⟨A, n, c, A2, n2, c2, A3, n3, c3, rfl, h.ro, h.rn, h.rm⟩
set_option maxRecDepth 20000 in
set_option maxHeartbeats 12000000 in
theorem r8allq_any {w : World} {A : Option Addr} {n cp : Nat} {l : List Fd} (h : RdF w w.heap.size A n cp l) (hs : short l) {Ac : Option Addr} {m mc : Nat} {cs : List Ch} (hcs : RdC w w.heap.size Ac m mc cs) (hsc : ∀ c ∈ cs, c.to.nm.length ≤ 140737488351232 ∧ c.od.length ≤ 140737488351232) :
    Calls Tryz.prog 106 #[.slice A n cp, .slice Ac m mc] w (AllQ w l cs) := by
  have hmi : (m : Int) ≤ 9223372036854775807 := by have := Nat.le_trans hcs.2.1 hcs.2.2.1; unfold maxLen at this; omega
  obtain ⟨w0, hw0⟩ : ∃ w0, w0 = (w.alloc (.cells #[.slice none 0 0, .slice none 0 0, .slice none 0 0] 110)).alloc (.cells #[.slice none 0 0, .slice none 0 0, .slice none 0 0] 110) := ⟨_, rfl⟩
  have HW0 := hid hw0
  have HB0 : Hid (Below w.heap.size w w0) := by rw [hw0]; exact Ba (B1 _ _) _
  obtain ⟨rz, hrz⟩ : ∃ rz, rz = w.heap.size := ⟨_, rfl⟩
  obtain ⟨rn, hrn⟩ : ∃ rn, rn = w.heap.size + 1 := ⟨_, rfl⟩
  have HRZE := hid hrz; have HRN := hid hrn
  have HTZ : Hid (TBx w0 rz (.slice none 0 0) (.slice none 0 0) (.slice none 0 0) 110) := by rw [hw0, hrz]; exact (tb_new _ _ _ _ _).on (B1 _ _)
  have HTN : Hid (TBx w0 rn (.slice none 0 0) (.slice none 0 0) (.slice none 0 0) 110) := by rw [hw0, hrn, ← World.size_alloc w (.cells #[.slice none 0 0, .slice none 0 0, .slice none 0 0] 110)]; exact tb_new _ _ _ _ _
  have HRZ : Hid (w.heap.size ≤ rz) := hid (by omega)
  have HLT : Hid (rz < w0.heap.size) := hid HTZ.out.lt
  have H := hid (h.on HB0.out); have HC := hid (hcs.on HB0.out); have HS := hid hs; have HSC := hid hsc
  have HML : Hid (cs.length = m) := hid hcs.1
  clear h hs hcs hsc hw0 hrz hrn
  obtain ⟨z0, z1, z2⟩ := (HTZ.out.on (B0 w0)).cells
  obtain ⟨n0, n1, n2⟩ := (HTN.out.on (B0 w0)).cells
  have fz0 := (HTZ.out.on (B0 w0)).frozen 0; have fz1 := (HTZ.out.on (B0 w0)).frozen 1; have fz2 := (HTZ.out.on (B0 w0)).frozen 2
  go_enter Tryz.func106, Tryz.ntmps106
  go_wp2_with fail
  rw [← HW0.out, ← HRN.out, ← HRZE.out]
  refine (r6right_any H.out HS.out).mono ?_
  rintro e w1 ⟨rfl, hb1⟩
  have HB1 := hid hb1
  clear hb1
  clear z0 z1 z2 n0 n1 n2 fz0 fz1 fz2
  obtain ⟨z0, z1, z2⟩ := (HTZ.out.on HB1.out).cells
  obtain ⟨n0, n1, n2⟩ := (HTN.out.on HB1.out).cells
  have fz0 := (HTZ.out.on HB1.out).frozen 0; have fz1 := (HTZ.out.on HB1.out).frozen 1; have fz2 := (HTZ.out.on HB1.out).frozen 2
  cases hr : rightL l with
  | false =>
    have HE : Hid (all8 l cs = (Tb.none, 60)) := hid (by unfold all8; rw [hr]; rfl)
    clear hr
    go_wp2_with fail
    exact ret_TB7e (by rfl) (by rfl) ((HTZ.out.on HB1.out).set3 _ _ _) (by rfl) (by rfl) ⟨_, by rw [HE.out]; rfl, by rw [HE.out]; exact RdT.nil _ _, B3 (Bt HB0.out HB1.out) HRZ.out _ _ _⟩
  | true =>
    have HR := hid hr
    clear hr
    go_wp2_with fail
    refine (r7same_any (H.out.on HB1.out) HS.out).mono ?_
    rintro e w2 ⟨v, rfl, hv, hb2⟩
    obtain ⟨B, nb, cb, B2, nb2, cb2, B3', nb3, cb3, rfl, h1, h2, h3⟩ := hv
    have HB2 := hid (Bt HB1.out hb2)
    clear z0 z1 z2 n0 n1 n2 fz0 fz1 fz2
    obtain ⟨q, hq⟩ : ∃ q, q = w2.heap.size := ⟨_, rfl⟩
    obtain ⟨w4, hw4⟩ : ∃ w4, w4 = w2.alloc (.cells #[.slice B nb cb, .slice B2 nb2 cb2, .slice B3' nb3 cb3] 110) := ⟨_, rfl⟩
    have HQ := hid hq; have HW4 := hid hw4
    have HAS : Hid (AS w0 w4 q 110 l cs 0 B nb cb B2 nb2 cb2 B3' nb3 cb3 (sameT l)) := by
      rw [hw4, hq]
      exact hid ⟨tb_new w2 _ _ _ _, h1.on (B1 _ _), h2.on (B1 _ _), h3.on (B1 _ _), Ba HB2.out _, HB2.out.size, same_rightT HR.out, by unfold all8; rw [HR.out]; rfl⟩
    clear hq hw4 h1 h2 h3 hb2
    go_upto_region 6 with fail
    rw [← HW4.out, ← HQ.out]
    go_loopw [8] (fun i wr => ∃ j : Nat, j ≤ m ∧ i = .int .i64 j ∧ Hid (∃ A n c A2 n2 c2 A3 n3 c3 T, AS w0 wr q 110 l cs j A n c A2 n2 c2 A3 n3 c3 T)) (fun i _ => m - (intOf i).toNat)
    case atStart => exact ⟨0, by omega, rfl, hid ⟨_, _, _, _, _, _, _, _, _, _, HAS.out⟩⟩
    case round =>
      obtain ⟨j, hj, rfl, ⟨D, nd, cd, D2, nd2, cd2, D3, nd3, cd3, T, ha⟩⟩ := hrel
      have HA := hid ha
      obtain ⟨q0, q1, q2⟩ := ha.tb.cells
      clear ha
      obtain ⟨z0, z1, z2⟩ := (HTZ.out.on HA.out.bl).cells
      obtain ⟨n0, n1, n2⟩ := (HTN.out.on HA.out.bl).cells
      have fz0 := (HTZ.out.on HA.out.bl).frozen 0; have fz1 := (HTZ.out.on HA.out.bl).frozen 1; have fz2 := (HTZ.out.on HA.out.bl).frozen 2
      by_cases hlt : j < m
      · obtain ⟨c, hc⟩ : ∃ c, cs[j]? = some c := ⟨_, List.getElem?_eq_getElem (by have := HML.out; omega)⟩
        obtain ⟨hs1, hs2⟩ := HSC.out c (List.mem_of_getElem? hc)
        obtain ⟨_, hn5, b, off, Ao, no, co, rfl, hcc, hod⟩ := HC.out.at hc
        have HCK : Hid (chOk c) := hid ⟨hn5.1, hn5.2.1, hn5.2.2.1, hn5.2.2.2.1, hn5.2.2.2.2, hs1⟩
        have HNO : Hid (no ≤ 140737488351232) := hid (by rw [← hod.1]; exact hs2)
        have HCC := hid hcc; have HOD := hid hod
        have HAT : Hid (all8 l cs = _) := hid (HA.out.al.trans (allF_at hc))
        have hji : (j : Int) < m := by omega
        have hj0 : (0 : Int) ≤ j := by omega
        clear hcc hod hs1 hs2 hn5 hc q0 q1 q2
        clear z0 z1 z2 n0 n1 n2 fz0 fz1 fz2
        go_upto_region 8 with fail
        refine reg_begin (by kernel_rfl) (fun w0a hx0a hHeld => ?_)
        have s0 : ∀ w', Ext w0a w' → AS w0 w' q 110 l cs j D nd cd D2 nd2 cd2 D3 nd3 cd3 T := fun w' h => (HA.out.on hx0a).on h
        have s1 := fun w' h => (s0 w' h).tb.cells.2.1
        have y0 : ∀ w', Ext w0a w' → ChC w' b (off + j * 9) c (.slice Ao no co) := fun w' h => HCC.out w' (s0 w' h).bl
        have y1 := fun w' h => (y0 w' h).1
        have y2 := fun w' h => (y0 w' h).2.1
        have y3 := fun w' h => (y0 w' h).2.2.1
        have y4 := fun w' h => (y0 w' h).2.2.2.1
        have y5 := fun w' h => (y0 w' h).2.2.2.2.1
        have y6 := fun w' h => (y0 w' h).2.2.2.2.2.1
        have y7 := fun w' h => (y0 w' h).2.2.2.2.2.2.1
        have y8 := fun w' h => (y0 w' h).2.2.2.2.2.2.2.1
        have y9 := fun w' h => (y0 w' h).2.2.2.2.2.2.2.2
        have HS0 := hid s0
        clear s0 y0
        refine reg_take 0 (v := ?vz1_0) at0 (by kernel_rfl) (by kernel_rfl) (by kernel_rfl) (by rfl) ?hyz1_0 hHeld ?restz1_0
        case hyz1_0 => (intro w' hSw; go_simp; try with_reducible rfl)
        try simp only [Act.put, List.setIfInBounds_toArray, List.set_cons_zero, List.set_cons_succ]
        refine reg_take 1 (v := ?vz2_1) (atS at0) (by kernel_rfl) (by kernel_rfl) (by kernel_rfl) (by rfl) ?hyz2_1 hHeld ?restz2_1
        case hyz2_1 => (intro w' hSw; go_simp; try with_reducible rfl)
        try simp only [Act.put, List.setIfInBounds_toArray, List.set_cons_zero, List.set_cons_succ]
        refine reg_take 2 (v := ?vz3_2) (atS (atS at0)) (by kernel_rfl) (by kernel_rfl) (by kernel_rfl) (by rfl) ?hyz3_2 hHeld ?restz3_2
        case hyz3_2 => (intro w' hSw; go_simp; try with_reducible rfl)
        try simp only [Act.put, List.setIfInBounds_toArray, List.set_cons_zero, List.set_cons_succ]
        refine reg_take 3 (v := ?vz4_3) (atS (atS (atS at0))) (by kernel_rfl) (by kernel_rfl) (by kernel_rfl) (by rfl) ?hyz4_3 hHeld ?restz4_3
        case hyz4_3 => (intro w' hSw; go_simp; try with_reducible rfl)
        try simp only [Act.put, List.setIfInBounds_toArray, List.set_cons_zero, List.set_cons_succ]
        refine reg_take 4 (v := ?vz5_4) (atS (atS (atS (atS at0)))) (by kernel_rfl) (by kernel_rfl) (by kernel_rfl) (by rfl) ?hyz5_4 hHeld ?restz5_4
        case hyz5_4 => (intro w' hSw; go_simp; try with_reducible rfl)
        try simp only [Act.put, List.setIfInBounds_toArray, List.set_cons_zero, List.set_cons_succ]
        refine reg_take 5 (v := ?vz6_5) (atS5 at0) (by kernel_rfl) (by kernel_rfl) (by kernel_rfl) (by rfl) ?hyz6_5 hHeld ?restz6_5
        case hyz6_5 => (intro w' hSw; go_simp; try with_reducible rfl)
        try simp only [Act.put, List.setIfInBounds_toArray, List.set_cons_zero, List.set_cons_succ]
        refine wpAnyH_ready (rs := [6, 10]) (by kernel_rfl) (by simp) ?_
        refine AllReadyH.cons (atS5 (atS at0)) (fun K hK => ?_) (AllReadyH.cons (atS5 (atS5 at0)) (fun K hK => ?_) AllReadyH.nil)
        · skip
          go_simp
          have hre : Ext w0a _ := hHeld
          refine (r8make_any (c := c) (HS0.out _ hre).rn (rightT_short HA.out.rt).2 HCK.out (HOD.out.on (HS0.out _ hre).bl) HNO.out).mono ?_
          rintro e w6 ⟨v6, rfl, hv6, hb6⟩
          obtain ⟨E, ne, ce, E2, ne2, ce2, E3, ne3, ce3, rfl, i1, i2, i3⟩ := hv6
          have HB6 : Hid (Below w0a.heap.size w0a w6) := hid (by first | exact hb6 | exact Bt (B1 _ _) hb6)
          have HR6 := hid (And.intro i1 (And.intro i2 i3))
          clear i1 i2 i3
          first | (have HVB : Hid (TBx w6 w0a.heap.size (.slice none 0 0) (.slice none 0 0) (.slice none 0 0) 110) := hid ((tb_new w0a _ _ _ _).on hb6); have sf0 := HVB.out.frozen 0; have sf1 := HVB.out.frozen 1; have sf2 := HVB.out.frozen 2; have sv0 := HVB.out.cells.1; have sv1 := HVB.out.cells.2.1; have sv2 := HVB.out.cells.2.2) | skip
          clear hb6 hre
          go_wp2_with fail
          refine hK.out _ _ HB6.out (fun hHeld => ?_)
          clear hK K
          try simp only [Act.put, List.setIfInBounds_toArray, List.set_cons_zero, List.set_cons_succ]
          refine reg_take 7 (v := ?vz7_7) (atS5 (atS (atS at0))) (by kernel_rfl) (by kernel_rfl) (by kernel_rfl) (by rfl) ?hyz7_7 hHeld ?restz7_7
          case hyz7_7 => (intro w' hSw; go_simp; try with_reducible rfl)
          try simp only [Act.put, List.setIfInBounds_toArray, List.set_cons_zero, List.set_cons_succ]
          refine reg_take 8 (v := ?vz8_8) (atS5 (atS (atS (atS at0)))) (by kernel_rfl) (by kernel_rfl) (by kernel_rfl) (by rfl) ?hyz8_8 hHeld ?restz8_8
          case hyz8_8 => (intro w' hSw; go_simp; try with_reducible rfl)
          try simp only [Act.put, List.setIfInBounds_toArray, List.set_cons_zero, List.set_cons_succ]
          refine reg_take 9 (v := ?vz9_9) (atS5 (atS (atS (atS (atS at0))))) (by kernel_rfl) (by kernel_rfl) (by kernel_rfl) (by rfl) ?hyz9_9 hHeld ?restz9_9
          case hyz9_9 => (intro w' hSw; go_simp; try with_reducible rfl)
          try simp only [Act.put, List.setIfInBounds_toArray, List.set_cons_zero, List.set_cons_succ]
          refine wpAnyH_ready (rs := [10]) (by kernel_rfl) (by simp) ?_
          refine AllReadyH.cons (atS5 (atS5 at0)) (fun K hK => ?_) AllReadyH.nil
          go_simp
          skip
          refine hK.out _ _ (by first | exact Ba HB6.out _ | exact B1 _ _) (fun hHeld => ?_)
          clear hK K
          try simp only [Act.put, List.setIfInBounds_toArray, List.set_cons_zero, List.set_cons_succ]
          refine wpAnyH_ready (rs := [11]) (by kernel_rfl) (by simp) ?_
          refine AllReadyH.cons (atS5 (atS5 (atS at0))) (fun K hK => ?_) AllReadyH.nil
          go_simp
          skip
          refine hK.out _ _ (by first | exact Ba HB6.out _ | exact B3 HB6.out (Nat.le_refl _) (.slice E ne ce) (.slice E2 ne2 ce2) (.slice E3 ne3 ce3)) (fun hHeld => ?_)
          clear hK K
          try simp only [Act.put]
          refine reg_take 12 (v := ?vz10_12) (atS5 (atS5 (atS (atS at0)))) (by kernel_rfl) (by kernel_rfl) (by kernel_rfl) (by rfl) ?hyz10_12 hHeld ?restz10_12
          case hyz10_12 => (intro w' hSw; go_simp; try with_reducible rfl)
          try simp only [Act.put, List.setIfInBounds_toArray, List.set_cons_zero, List.set_cons_succ]
          refine wpAnyH_done (by kernel_rfl) ?_ _
          refine NoPanic.normal ?_
          clear s1 y1 y2 y3 y4 y5 y6 y7 y8 y9
          first
          | (obtain ⟨w7, hw7⟩ : ∃ w7, w7 = w6.alloc (.cells #[.slice E ne ce, .slice E2 ne2 ce2, .slice E3 ne3 ce3] 110) := ⟨_, rfl⟩
             obtain ⟨p3, hp3⟩ : ∃ p3, p3 = w6.heap.size := ⟨_, rfl⟩
             rw [← hw7, ← hp3]
             have HV7 : Hid (TBx w7 p3 (.slice E ne ce) (.slice E2 ne2 ce2) (.slice E3 ne3 ce3) 110) := by rw [hw7, hp3]; exact hid (tb_new _ _ _ _ _)
             have HB7 : Hid (Below w0a.heap.size w0a w7) := by rw [hw7]; exact hid (Ba HB6.out _)
             have HR7 : Hid (RdT w7 w7.heap.size (.agg #[.slice E ne ce, .slice E2 ne2 ce2, .slice E3 ne3 ce3]) (mkT T.nw c)) := by rw [hw7]; exact hid (RdT.on ⟨_, _, _, _, _, _, _, _, _, rfl, HR6.out.1, HR6.out.2.1, HR6.out.2.2⟩ (B1 _ _))
             clear hw7 hp3)
          | (obtain ⟨w7, hw7⟩ : ∃ w7, w7 = ((w6.setCell ⟨w0a.heap.size, 0, none⟩ (.slice E ne ce)).setCell ⟨w0a.heap.size, 1, none⟩ (.slice E2 ne2 ce2)).setCell ⟨w0a.heap.size, 2, none⟩ (.slice E3 ne3 ce3) := ⟨_, rfl⟩
             obtain ⟨p3, hp3⟩ : ∃ p3, p3 = w0a.heap.size := ⟨_, rfl⟩
             rw [← hw7, ← hp3]
             have HV7 : Hid (TBx w7 p3 (.slice E ne ce) (.slice E2 ne2 ce2) (.slice E3 ne3 ce3) 110) := by rw [hw7, hp3]; exact hid (HVB.out.set3 _ _ _)
             have HB7 : Hid (Below w0a.heap.size w0a w7) := by rw [hw7]; exact hid (B3 HB6.out (Nat.le_refl _) _ _ _)
             have HR7 : Hid (RdT w7 w7.heap.size (.agg #[.slice E ne ce, .slice E2 ne2 ce2, .slice E3 ne3 ce3]) (mkT T.nw c)) := by rw [hw7]; exact hid (RdT.box3 ⟨_, _, _, _, _, _, _, _, _, rfl, HR6.out.1, HR6.out.2.1, HR6.out.2.2⟩ HVB.out ⟨_, _, _, rfl⟩ ⟨_, _, _, rfl⟩ ⟨_, _, _, rfl⟩ ⟨_, _, _, rfl⟩ ⟨_, _, _, rfl⟩ ⟨_, _, _, rfl⟩)
             clear hw7 hp3)
          have HA7 : Hid (AS w0 w7 q 110 l cs j D nd cd D2 nd2 cd2 D3 nd3 cd3 T) := hid ((HA.out.on hx0a).on HB7.out)
          obtain ⟨q0, q1, q2⟩ := HA7.out.tb.cells
          obtain ⟨p0, p1, p2⟩ := HV7.out.cells
          obtain ⟨z0, z1, z2⟩ := (HTZ.out.on HA7.out.bl).cells
          obtain ⟨n0, n1, n2⟩ := (HTN.out.on HA7.out.bl).cells
          have fz0 := (HTZ.out.on HA7.out.bl).frozen 0; have fz1 := (HTZ.out.on HA7.out.bl).frozen 1; have fz2 := (HTZ.out.on HA7.out.bl).frozen 2
          obtain ⟨me, hme⟩ : ∃ me, me = mkE T.nw c := ⟨_, rfl⟩
          rw [← hme]
          by_cases hm0 : me = 0
          · have HM0 : Hid (mkE T.nw c = 0) := hid (by rw [← hme]; exact hm0)
            clear hme
            subst hm0
            go_upto_region 11 with fail
            go_wp2_with fail
            refine (r7compose_any HA7.out.tab HR7.out (rightT_short HA.out.rt) (mkT_short HM0.out)).mono ?_
            rintro e w9 ⟨v9, rfl, hv9, hb9⟩
            obtain ⟨G, ng, cg, G2, ng2, cg2, G3, ng3, cg3, rfl, g1, g2, g3⟩ := hv9
            obtain ⟨p4, hp4⟩ : ∃ p4, p4 = w9.heap.size := ⟨_, rfl⟩
            obtain ⟨w10, hw10⟩ : ∃ w10, w10 = w9.alloc (.cells #[.slice G ng cg, .slice G2 ng2 cg2, .slice G3 ng3 cg3] 110) := ⟨_, rfl⟩
            have HP4 := hid hp4; have HW10 := hid hw10
            have HR10 : Hid (RdT w10 w10.heap.size (.agg #[.slice G ng cg, .slice G2 ng2 cg2, .slice G3 ng3 cg3]) (compT T (mkT T.nw c))) := by rw [hw10]; exact hid (RdT.on ⟨_, _, _, _, _, _, _, _, _, rfl, g1, g2, g3⟩ (B1 _ _))
            have HA10 : Hid (AS w0 w10 q 110 l cs j D nd cd D2 nd2 cd2 D3 nd3 cd3 T) := by rw [hw10]; exact hid ((HA7.out.on hb9).on (B1 _ _))
            have HV10 : Hid (TBx w10 p4 (.slice G ng cg) (.slice G2 ng2 cg2) (.slice G3 ng3 cg3) 110) := by rw [hw10, hp4]; exact hid (tb_new _ _ _ _ _)
            clear g1 g2 g3 hb9 hp4 hw10 q0 q1 q2 p0 p1 p2
            clear z0 z1 z2 n0 n1 n2 fz0 fz1 fz2
            cases hcb : compB T (mkT T.nw c) with
            | true =>
              rw [compE_ok hcb]
              have HCB := hid hcb
              clear hcb
              go_upto_region 12 with fail
              rw [← HW10.out, ← HP4.out]
              obtain ⟨q0, q1, q2⟩ := HA10.out.tb.cells
              obtain ⟨p0, p1, p2⟩ := HV10.out.cells
              have qf0 := HA10.out.tb.frozen 0; have qf1 := HA10.out.tb.frozen 1; have qf2 := HA10.out.tb.frozen 2
              go_wp2_with fail
              obtain ⟨_, _, _, _, _, _, _, _, _, e9, f1, f2, f3⟩ := HR10.out.box3 HA10.out.tb ⟨_, _, _, rfl⟩ ⟨_, _, _, rfl⟩ ⟨_, _, _, rfl⟩ (u1 := .slice G ng cg) (u2 := .slice G2 ng2 cg2) (u3 := .slice G3 ng3 cg3) ⟨_, _, _, rfl⟩ ⟨_, _, _, rfl⟩ ⟨_, _, _, rfl⟩
              cases e9
              exact ⟨⟨j + 1, by omega, by go_num, hid ⟨_, _, _, _, _, _, _, _, _, _, HA10.out.tb.set3 _ _ _, f1, f2, f3, B3 HA10.out.bl HA10.out.wq _ _ _, HA10.out.wq, compT_right (fun x hx => (HA10.out.rm.2.2.2.1 x hx).2.2) (compE_ok HCB.out), HAT.out.trans (by rw [if_neg (by simp [HM0.out]), if_pos HCB.out])⟩⟩, by simp [intOf]; omega⟩
            | false =>
              rw [compE_no hcb]
              have HE : Hid (all8 l cs = (Tb.none, 70)) := hid (HAT.out.trans (by rw [if_neg (by simp [HM0.out]), hcb]; rfl))
              clear hcb
              go_upto_region 12 with fail
              rw [← HW10.out, ← HP4.out]
              obtain ⟨z0, z1, z2⟩ := (HTZ.out.on HA10.out.bl).cells
              obtain ⟨n0, n1, n2⟩ := (HTN.out.on HA10.out.bl).cells
              have fz0 := (HTZ.out.on HA10.out.bl).frozen 0; have fz1 := (HTZ.out.on HA10.out.bl).frozen 1; have fz2 := (HTZ.out.on HA10.out.bl).frozen 2
              go_wp2_with fail
              exact ret_TB7e (by rfl) (by rfl) ((HTZ.out.on HA10.out.bl).set3 _ _ _) (by rfl) (by rfl) ⟨_, by rw [HE.out]; rfl, by rw [HE.out]; exact RdT.nil _ _, B3 (Bt HB0.out HA10.out.bl) HRZ.out _ _ _⟩
          · have t1 : (me != 0) = true := by simpa using hm0
            have HE : Hid (all8 l cs = (Tb.none, me)) := hid (HAT.out.trans (by rw [if_pos (by rw [← hme]; exact hm0), hme]))
            clear hme hm0
            go_wp2_with fail
            exact ret_TB7e (by rfl) (by rfl) ((HTZ.out.on HA7.out.bl).set3 _ _ _) (by rfl) (by rfl) ⟨_, by rw [HE.out]; rfl, by rw [HE.out]; exact RdT.nil _ _, B3 (Bt HB0.out HA7.out.bl) HRZ.out _ _ _⟩
        · skip
          go_simp
          skip
          refine hK.out _ _ (by first | exact Ba HB6.out _ | exact B1 _ _) (fun hHeld => ?_)
          clear hK K
          try simp only [Act.put, List.setIfInBounds_toArray, List.set_cons_zero, List.set_cons_succ]
          refine wpAnyH_ready (rs := [6]) (by kernel_rfl) (by simp) ?_
          refine AllReadyH.cons (atS5 (atS at0)) (fun K hK => ?_) AllReadyH.nil
          go_simp
          have hre : Ext w0a _ := hHeld
          refine (r8make_any (c := c) (HS0.out _ hre).rn (rightT_short HA.out.rt).2 HCK.out (HOD.out.on (HS0.out _ hre).bl) HNO.out).mono ?_
          rintro e w6 ⟨v6, rfl, hv6, hb6⟩
          obtain ⟨E, ne, ce, E2, ne2, ce2, E3, ne3, ce3, rfl, i1, i2, i3⟩ := hv6
          have HB6 : Hid (Below w0a.heap.size w0a w6) := hid (by first | exact hb6 | exact Bt (B1 _ _) hb6)
          have HR6 := hid (And.intro i1 (And.intro i2 i3))
          clear i1 i2 i3
          first | (have HVB : Hid (TBx w6 w0a.heap.size (.slice none 0 0) (.slice none 0 0) (.slice none 0 0) 110) := hid ((tb_new w0a _ _ _ _).on hb6); have sf0 := HVB.out.frozen 0; have sf1 := HVB.out.frozen 1; have sf2 := HVB.out.frozen 2; have sv0 := HVB.out.cells.1; have sv1 := HVB.out.cells.2.1; have sv2 := HVB.out.cells.2.2) | skip
          clear hb6 hre
          go_wp2_with fail
          refine hK.out _ _ HB6.out (fun hHeld => ?_)
          clear hK K
          try simp only [Act.put, List.setIfInBounds_toArray, List.set_cons_zero, List.set_cons_succ]
          refine reg_take 7 (v := ?vz12_7) (atS5 (atS (atS at0))) (by kernel_rfl) (by kernel_rfl) (by kernel_rfl) (by rfl) ?hyz12_7 hHeld ?restz12_7
          case hyz12_7 => (intro w' hSw; go_simp; try with_reducible rfl)
          try simp only [Act.put, List.setIfInBounds_toArray, List.set_cons_zero, List.set_cons_succ]
          refine reg_take 8 (v := ?vz13_8) (atS5 (atS (atS (atS at0)))) (by kernel_rfl) (by kernel_rfl) (by kernel_rfl) (by rfl) ?hyz13_8 hHeld ?restz13_8
          case hyz13_8 => (intro w' hSw; go_simp; try with_reducible rfl)
          try simp only [Act.put, List.setIfInBounds_toArray, List.set_cons_zero, List.set_cons_succ]
          refine reg_take 9 (v := ?vz14_9) (atS5 (atS (atS (atS (atS at0))))) (by kernel_rfl) (by kernel_rfl) (by kernel_rfl) (by rfl) ?hyz14_9 hHeld ?restz14_9
          case hyz14_9 => (intro w' hSw; go_simp; try with_reducible rfl)
          try simp only [Act.put, List.setIfInBounds_toArray, List.set_cons_zero, List.set_cons_succ]
          refine wpAnyH_ready (rs := [11]) (by kernel_rfl) (by simp) ?_
          refine AllReadyH.cons (atS5 (atS5 (atS at0))) (fun K hK => ?_) AllReadyH.nil
          go_simp
          skip
          refine hK.out _ _ (by first | exact Ba HB6.out _ | exact B3 HB6.out (Nat.le_refl _) (.slice E ne ce) (.slice E2 ne2 ce2) (.slice E3 ne3 ce3)) (fun hHeld => ?_)
          clear hK K
          try simp only [Act.put]
          refine reg_take 12 (v := ?vz15_12) (atS5 (atS5 (atS (atS at0)))) (by kernel_rfl) (by kernel_rfl) (by kernel_rfl) (by rfl) ?hyz15_12 hHeld ?restz15_12
          case hyz15_12 => (intro w' hSw; go_simp; try with_reducible rfl)
          try simp only [Act.put, List.setIfInBounds_toArray, List.set_cons_zero, List.set_cons_succ]
          refine wpAnyH_done (by kernel_rfl) ?_ _
          refine NoPanic.normal ?_
          clear s1 y1 y2 y3 y4 y5 y6 y7 y8 y9
          first
          | (obtain ⟨w7, hw7⟩ : ∃ w7, w7 = w6.alloc (.cells #[.slice E ne ce, .slice E2 ne2 ce2, .slice E3 ne3 ce3] 110) := ⟨_, rfl⟩
             obtain ⟨p3, hp3⟩ : ∃ p3, p3 = w6.heap.size := ⟨_, rfl⟩
             rw [← hw7, ← hp3]
             have HV7 : Hid (TBx w7 p3 (.slice E ne ce) (.slice E2 ne2 ce2) (.slice E3 ne3 ce3) 110) := by rw [hw7, hp3]; exact hid (tb_new _ _ _ _ _)
             have HB7 : Hid (Below w0a.heap.size w0a w7) := by rw [hw7]; exact hid (Ba HB6.out _)
             have HR7 : Hid (RdT w7 w7.heap.size (.agg #[.slice E ne ce, .slice E2 ne2 ce2, .slice E3 ne3 ce3]) (mkT T.nw c)) := by rw [hw7]; exact hid (RdT.on ⟨_, _, _, _, _, _, _, _, _, rfl, HR6.out.1, HR6.out.2.1, HR6.out.2.2⟩ (B1 _ _))
             clear hw7 hp3)
          | (obtain ⟨w7, hw7⟩ : ∃ w7, w7 = ((w6.setCell ⟨w0a.heap.size, 0, none⟩ (.slice E ne ce)).setCell ⟨w0a.heap.size, 1, none⟩ (.slice E2 ne2 ce2)).setCell ⟨w0a.heap.size, 2, none⟩ (.slice E3 ne3 ce3) := ⟨_, rfl⟩
             obtain ⟨p3, hp3⟩ : ∃ p3, p3 = w0a.heap.size := ⟨_, rfl⟩
             rw [← hw7, ← hp3]
             have HV7 : Hid (TBx w7 p3 (.slice E ne ce) (.slice E2 ne2 ce2) (.slice E3 ne3 ce3) 110) := by rw [hw7, hp3]; exact hid (HVB.out.set3 _ _ _)
             have HB7 : Hid (Below w0a.heap.size w0a w7) := by rw [hw7]; exact hid (B3 HB6.out (Nat.le_refl _) _ _ _)
             have HR7 : Hid (RdT w7 w7.heap.size (.agg #[.slice E ne ce, .slice E2 ne2 ce2, .slice E3 ne3 ce3]) (mkT T.nw c)) := by rw [hw7]; exact hid (RdT.box3 ⟨_, _, _, _, _, _, _, _, _, rfl, HR6.out.1, HR6.out.2.1, HR6.out.2.2⟩ HVB.out ⟨_, _, _, rfl⟩ ⟨_, _, _, rfl⟩ ⟨_, _, _, rfl⟩ ⟨_, _, _, rfl⟩ ⟨_, _, _, rfl⟩ ⟨_, _, _, rfl⟩)
             clear hw7 hp3)
          have HA7 : Hid (AS w0 w7 q 110 l cs j D nd cd D2 nd2 cd2 D3 nd3 cd3 T) := hid ((HA.out.on hx0a).on HB7.out)
          obtain ⟨q0, q1, q2⟩ := HA7.out.tb.cells
          obtain ⟨p0, p1, p2⟩ := HV7.out.cells
          obtain ⟨z0, z1, z2⟩ := (HTZ.out.on HA7.out.bl).cells
          obtain ⟨n0, n1, n2⟩ := (HTN.out.on HA7.out.bl).cells
          have fz0 := (HTZ.out.on HA7.out.bl).frozen 0; have fz1 := (HTZ.out.on HA7.out.bl).frozen 1; have fz2 := (HTZ.out.on HA7.out.bl).frozen 2
          obtain ⟨me, hme⟩ : ∃ me, me = mkE T.nw c := ⟨_, rfl⟩
          rw [← hme]
          by_cases hm0 : me = 0
          · have HM0 : Hid (mkE T.nw c = 0) := hid (by rw [← hme]; exact hm0)
            clear hme
            subst hm0
            go_upto_region 11 with fail
            go_wp2_with fail
            refine (r7compose_any HA7.out.tab HR7.out (rightT_short HA.out.rt) (mkT_short HM0.out)).mono ?_
            rintro e w9 ⟨v9, rfl, hv9, hb9⟩
            obtain ⟨G, ng, cg, G2, ng2, cg2, G3, ng3, cg3, rfl, g1, g2, g3⟩ := hv9
            obtain ⟨p4, hp4⟩ : ∃ p4, p4 = w9.heap.size := ⟨_, rfl⟩
            obtain ⟨w10, hw10⟩ : ∃ w10, w10 = w9.alloc (.cells #[.slice G ng cg, .slice G2 ng2 cg2, .slice G3 ng3 cg3] 110) := ⟨_, rfl⟩
            have HP4 := hid hp4; have HW10 := hid hw10
            have HR10 : Hid (RdT w10 w10.heap.size (.agg #[.slice G ng cg, .slice G2 ng2 cg2, .slice G3 ng3 cg3]) (compT T (mkT T.nw c))) := by rw [hw10]; exact hid (RdT.on ⟨_, _, _, _, _, _, _, _, _, rfl, g1, g2, g3⟩ (B1 _ _))
            have HA10 : Hid (AS w0 w10 q 110 l cs j D nd cd D2 nd2 cd2 D3 nd3 cd3 T) := by rw [hw10]; exact hid ((HA7.out.on hb9).on (B1 _ _))
            have HV10 : Hid (TBx w10 p4 (.slice G ng cg) (.slice G2 ng2 cg2) (.slice G3 ng3 cg3) 110) := by rw [hw10, hp4]; exact hid (tb_new _ _ _ _ _)
            clear g1 g2 g3 hb9 hp4 hw10 q0 q1 q2 p0 p1 p2
            clear z0 z1 z2 n0 n1 n2 fz0 fz1 fz2
            cases hcb : compB T (mkT T.nw c) with
            | true =>
              rw [compE_ok hcb]
              have HCB := hid hcb
              clear hcb
              go_upto_region 12 with fail
              rw [← HW10.out, ← HP4.out]
              obtain ⟨q0, q1, q2⟩ := HA10.out.tb.cells
              obtain ⟨p0, p1, p2⟩ := HV10.out.cells
              have qf0 := HA10.out.tb.frozen 0; have qf1 := HA10.out.tb.frozen 1; have qf2 := HA10.out.tb.frozen 2
              go_wp2_with fail
              obtain ⟨_, _, _, _, _, _, _, _, _, e9, f1, f2, f3⟩ := HR10.out.box3 HA10.out.tb ⟨_, _, _, rfl⟩ ⟨_, _, _, rfl⟩ ⟨_, _, _, rfl⟩ (u1 := .slice G ng cg) (u2 := .slice G2 ng2 cg2) (u3 := .slice G3 ng3 cg3) ⟨_, _, _, rfl⟩ ⟨_, _, _, rfl⟩ ⟨_, _, _, rfl⟩
              cases e9
              exact ⟨⟨j + 1, by omega, by go_num, hid ⟨_, _, _, _, _, _, _, _, _, _, HA10.out.tb.set3 _ _ _, f1, f2, f3, B3 HA10.out.bl HA10.out.wq _ _ _, HA10.out.wq, compT_right (fun x hx => (HA10.out.rm.2.2.2.1 x hx).2.2) (compE_ok HCB.out), HAT.out.trans (by rw [if_neg (by simp [HM0.out]), if_pos HCB.out])⟩⟩, by simp [intOf]; omega⟩
            | false =>
              rw [compE_no hcb]
              have HE : Hid (all8 l cs = (Tb.none, 70)) := hid (HAT.out.trans (by rw [if_neg (by simp [HM0.out]), hcb]; rfl))
              clear hcb
              go_upto_region 12 with fail
              rw [← HW10.out, ← HP4.out]
              obtain ⟨z0, z1, z2⟩ := (HTZ.out.on HA10.out.bl).cells
              obtain ⟨n0, n1, n2⟩ := (HTN.out.on HA10.out.bl).cells
              have fz0 := (HTZ.out.on HA10.out.bl).frozen 0; have fz1 := (HTZ.out.on HA10.out.bl).frozen 1; have fz2 := (HTZ.out.on HA10.out.bl).frozen 2
              go_wp2_with fail
              exact ret_TB7e (by rfl) (by rfl) ((HTZ.out.on HA10.out.bl).set3 _ _ _) (by rfl) (by rfl) ⟨_, by rw [HE.out]; rfl, by rw [HE.out]; exact RdT.nil _ _, B3 (Bt HB0.out HA10.out.bl) HRZ.out _ _ _⟩
          · have t1 : (me != 0) = true := by simpa using hm0
            have HE : Hid (all8 l cs = (Tb.none, me)) := hid (HAT.out.trans (by rw [if_pos (by rw [← hme]; exact hm0), hme]))
            clear hme hm0
            go_wp2_with fail
            exact ret_TB7e (by rfl) (by rfl) ((HTZ.out.on HA7.out.bl).set3 _ _ _) (by rfl) (by rfl) ⟨_, by rw [HE.out]; rfl, by rw [HE.out]; exact RdT.nil _ _, B3 (Bt HB0.out HA7.out.bl) HRZ.out _ _ _⟩
      · have hjm : j = m := by omega
        have HE : Hid (all8 l cs = (T, 0)) := hid (by rw [HA.out.al, hjm, List.drop_eq_nil_of_le (Nat.le_of_eq HML.out)]; rfl)
        have hji : ¬ ((j : Int) < m) := by omega
        clear hjm
        go_wp2_with fail
        have hbz := B3 (Bt HB0.out HA.out.bl) HRZ.out (.slice D nd cd) (.slice D2 nd2 cd2) (.slice D3 nd3 cd3)
        refine ret_TB7e (by rfl) (by rfl) ((HTZ.out.on HA.out.bl).set3 _ _ _) (by rfl) (by rfl) ⟨_, by rw [HE.out]; rfl, ?_, hbz⟩
        rw [HE.out]
        exact HA.out.tab.box3 (HTZ.out.on HA.out.bl) ⟨_, _, _, rfl⟩ ⟨_, _, _, rfl⟩ ⟨_, _, _, rfl⟩ ⟨_, _, _, rfl⟩ ⟨_, _, _, rfl⟩ ⟨_, _, _, rfl⟩
end Go.Proofs.YtaegencmnmjgbaaGreat
