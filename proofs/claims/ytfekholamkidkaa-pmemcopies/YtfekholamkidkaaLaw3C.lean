/-
  PmemCopies holds: for every two scripts the statement answers true, and nothing that was there has turned.
-/
import Derived.Test.YtfekholamkidkaaLaw3S
namespace Go.Proofs.Ytfekholamkidkaa
open Go.RowKit Go.Maps Go.Sort
set_option linter.unusedVariables false

theorem row_low4 {w4 w6 wr : World} {base n : Nat} {e : TypeId} {v : Value} {cs : List Value} (h4 : w4.ownsRow base e 1 v n cs) (h6 : w6.ownsRow base e 1 v n cs) (hb : Below w4.heap.size w6 wr) : wr.ownsRow base e 1 v n cs := by
  refine ⟨h6.1, ?_⟩
  rcases h6.2 with h0 | ⟨b, cap, cur, hv, hbb, hg, hr⟩
  · exact .inl h0
  · refine .inr ⟨b, cap, cur, hv, hbb, ?_, hr⟩
    have hlt : b < w4.heap.size := by
      rcases h4.2 with ⟨e, _⟩ | ⟨b', cap', cur', hv', _, hg', _⟩
      · rw [hv] at e; cases e
      · rw [hv] at hv'; cases hv'; exact row_lt hg'
    exact (hb.block b hlt).trans hg
set_option maxHeartbeats 4000000 in
theorem walk_PmemCopies (A : Option Addr) (n c : Nat) (l : List OpV) (A2 : Option Addr) (n2 c2 : Nat) (l2 : List OpV) (w : World) (h : RdO w w.heap.size A n c l) (h2 : RdO w w.heap.size A2 n2 c2 l2) :
    Calls Try.prog 5 #[.slice A n c, .slice A2 n2 c2] w fun e w' => e = .returned (.bool true) ∧ Below w.heap.size w w' := by
  have HL := hid h2.1; have HCm := hid (Nat.le_trans h2.2.1 h2.2.2.1)
  have H := hid h; have H2 := hid h2; clear h h2
  go_enter Try.func5, Try.ntmps5
  go_wp2_with fail
  refine (made_any H.out).mono ?_
  rintro e w1 (⟨rfl, hb1⟩ | ⟨d, g, cap, lb, fb, S, L, F, rfl, hd1, h80, hb1⟩)
  · have HB1 := hid hb1; clear hb1
    go_wp2_with fail
    refine (alive_any _).mono ?_
    rintro e w2 ⟨rfl, hb2⟩
    go_wp2_with fail
    go_ret
    exact ⟨rfl, Bt HB1.out hb2⟩
  · have HD1 := hid hd1; have HB1 := hid hb1; have H80 := hid h80; clear hd1 hb1 h80
    go_wp2_with fail
    refine (few_any (H2.out.on HB1.out)).mono ?_
    rintro e w2 ⟨v, rfl, ⟨b, rfl⟩, hb2⟩
    have HD2 := hid (HD1.out.on hb2); have HB2 := hid (Bt HB1.out hb2); clear hb2 HD1 HB1
    cases b with
    | false =>
      go_wp2_with fail
      refine (alive_any _).mono ?_
      rintro e w3 ⟨rfl, hb3⟩
      go_wp2_with fail
      go_ret
      exact ⟨rfl, Bt HB2.out hb3⟩
    | true =>
      go_wp2_with fail
      refine reg_begin (by kernel_rfl) (fun w0 hx0 hHeld => ?_)
      have HD0 := hid (HD2.out.on hx0)
      refine reg_take 0 (v := ?vb0) at0 (by kernel_rfl) (by kernel_rfl) (by kernel_rfl) (by rfl) ?hyb0 hHeld ?restb0
      case hyb0 => (intro w' hSw; go_simp; try with_reducible rfl)
      try simp only [Act.put, List.setIfInBounds_toArray, List.set_cons_zero, List.set_cons_succ]
      refine reg_take 3 (v := ?vb3) (atS (atS (atS at0))) (by kernel_rfl) (by kernel_rfl) (by kernel_rfl) (by rfl) ?hyb3 hHeld ?restb3
      case hyb3 => (intro w' hSw; go_simp; try with_reducible rfl)
      try simp only [Act.put, List.setIfInBounds_toArray, List.set_cons_zero, List.set_cons_succ]
      refine wpAnyH_ready (rs := [1]) (by kernel_rfl) (by simp) ?_
      refine AllReadyH.cons (atS at0) (fun K hK => ?_) AllReadyH.nil
      go_simp
      refine (bytes_any HD0.out).mono ?_
      rintro e w3 ⟨v3, rfl, ho3, hb3⟩
      have HO3 := hid ho3
      clear ho3
      go_wp2_with fail
      refine hK.out _ _ hb3 (fun hHeld => ?_)
      clear hK K
      try simp only [Act.put, List.setIfInBounds_toArray, List.set_cons_zero, List.set_cons_succ]
      refine reg_on hb3 (fun hHeld => ?_)
      have hcv3 : ∀ w', Ext w3 w' → (convert 28 9 v3).run Try.prog w' = .ok (.string ⟨S.toArray⟩) w' := fun w' hb => (HO3.out.grown hb).conv
      have HD3 := hid (HD0.out.on hb3)
      refine reg_take 2 (v := ?vb2) (atS (atS at0)) (by kernel_rfl) (by kernel_rfl) (by kernel_rfl) (by rfl) ?hyb2 hHeld ?restb2
      case hyb2 => (intro w' hSw; go_simp; try with_reducible rfl)
      try simp only [Act.put, List.setIfInBounds_toArray, List.set_cons_zero, List.set_cons_succ]
      refine wpAnyH_ready (rs := [4]) (by kernel_rfl) (by simp) ?_
      refine AllReadyH.cons (atS (atS (atS (atS at0)))) (fun K hK => ?_) AllReadyH.nil
      go_simp
      refine (loose_any HD3.out).mono ?_
      rintro e w4 ⟨v4, rfl, hr4, hb4⟩
      have HR4 := hid hr4
      clear hr4
      go_wp2_with fail
      refine hK.out _ _ hb4 (fun hHeld => ?_)
      clear hK K
      try simp only [Act.put, List.setIfInBounds_toArray, List.set_cons_zero, List.set_cons_succ]
      refine reg_on hb4 (fun hHeld => ?_)
      refine reg_take 5 (v := ?vb5) (atS5 at0) (by kernel_rfl) (by kernel_rfl) (by kernel_rfl) (by rfl) ?hyb5 hHeld ?restb5
      case hyb5 => (intro w' hSw; go_simp; try with_reducible rfl)
      try simp only [Act.put, List.setIfInBounds_toArray, List.set_cons_zero, List.set_cons_succ]
      refine reg_take 6 (v := ?vb6) (atS5 (atS at0)) (by kernel_rfl) (by kernel_rfl) (by kernel_rfl) (by rfl) ?hyb6 hHeld ?restb6
      case hyb6 => (intro w' hSw; go_simp; try with_reducible rfl)
      try simp only [Act.put, List.setIfInBounds_toArray, List.set_cons_zero, List.set_cons_succ]
      refine wpAnyH_done (by kernel_rfl) ?_ _
      refine NoPanic.normal ?_
      have HD4 := hid (HD3.out.on hb4)
      have HB4 := hid (Bt (Bt (Bt HB2.out hx0) hb3) hb4)
      clear hb3 hb4 hx0 HD3 HD0 HD2 HB2 HO3 hcv3
      go_wp2_with fail
      refine (copy_any HD4.out).mono ?_
      rintro e w5 ⟨d5, g5, cap5, lb5, fb5, rfl, hc5, hb5⟩
      have HC5 := hid hc5; have HD5 := hid (HD4.out.on hb5); have HB5 := hid (Bt HB4.out hb5); have HR5 := hid (row_below HR4.out hb5)
      have HS4 : Hid (w4.heap.size ≤ w5.heap.size) := hb5.size
      clear hc5 hb5
      go_wp2_with fail
      refine (bytes_any HC5.out).mono ?_
      rintro e w6 ⟨v6, rfl, ho6, hb6⟩
      have hcv6 := ho6.conv
      have HC6 := hid (HC5.out.on hb6); have HD6 := hid (HD5.out.on hb6); have HB6 := hid (Bt HB5.out hb6); have HR6 := hid (row_below HR5.out hb6)
      have HS6 : Hid (w4.heap.size ≤ w6.heap.size) := Nat.le_trans HS4.out hb6.size
      clear ho6 hb6 HC5 HD5 HB5 HR5
      go_wp2_with fail
      clear hcv6
      go_loopw [43] (fun i wr => ∃ j : Nat, j ≤ n2 ∧ i = .int .i64 j ∧ Hid (∃ S' L' F', Dev wr w4.heap.size d5 g5 cap5 lb5 fb5 S' L' F') ∧ Hid (Below w4.heap.size w6 wr)) (fun i _ => n2 - (intOf i).toNat)
      case atStart => exact ⟨0, by omega, rfl, ⟨_, _, _, HC6.out⟩, Below.refl _ _⟩
      case round =>
        obtain ⟨j, hj, rfl, hdv, hbr⟩ := hrel
        have HBW : Hid (Below w.heap.size w wr) := HB6.out.trans (hbr.out.mono HB4.out.size)
        by_cases hlt : j < n2
        · obtain ⟨S', L', F', hdev⟩ := hdv.out
          obtain ⟨b, off, rfl, hbl, hc⟩ := H2.out.2.2.2.2 (by omega)
          have hjl : j < l2.length := by have := HL.out; omega
          have hjb : (j : Int) + 1 ≤ 9223372036854775807 := by have := HCm.out; unfold maxLen at this; omega
          obtain ⟨c0, c1, c2', c3, c4⟩ := (hc j hjl).below HBW.out hbl
          have hok := (H2.out.2.2.2.1 _ (List.getElem_mem hjl)).below HBW.out
          generalize l2[j] = o at c0 c1 c2' c3 c4 hok
          obtain ⟨kind, at_, long, ab, nb, cb, bs, ak, nk, ck, ks⟩ := o
          simp only at c0 c1 c2' c3 c4
          have HOK := hid hok; have HDV := hid hdev
          clear hc hjl hok hdev
          go_wp2_with fail
          have hob := HOK.out.below (Below.alloc (Below.refl w.heap.size wr) HBW.out.size (.cells #[.int .i64 kind, .int .i64 at_, .int .i64 long, .slice ab nb cb, .slice ak nk ck] 35))
          refine (does_any (HDV.out.alloc _) ⟨kind, at_, long, ab, nb, cb, bs, ak, nk, ck, ks⟩ (hob.more (by have := HBW.out.size; simp; omega))).mono ?_
          rintro e w7 ⟨v7, rfl, S7, L7, F7, hd7, hs7, hb7⟩
          have HD7 : Hid (∃ S' L' F', Dev w7 w4.heap.size d5 g5 cap5 lb5 fb5 S' L' F') := ⟨S7, L7, F7, hd7⟩
          have HB7 : Hid (Below w4.heap.size w6 w7) := (Below.alloc hbr.out (Nat.le_trans HS6.out hbr.out.size) _).trans hb7
          clear hd7 hs7 hb7 hob
          go_wp2_with fail
          exact ⟨⟨j + 1, by omega, by go_num, HD7, HB7⟩, by simp [intOf]; omega⟩
        · obtain rfl : j = n2 := by omega
          have HDr := hid (HD6.out.low hbr.out HD4.out.dlt HD4.out.glt HD4.out.llt HD4.out.flt)
          have HRr : Hid (wr.ownsRow w3.heap.size 3 1 v4 (looseL (S.length / 8) L).length ((looseL (S.length / 8) L).map encZ)) := row_low4 HR4.out HR6.out hbr.out
          clear HC6 HD6 HB6 HR6 hdv
          go_wp2_with fail
          refine (alive_any _).mono ?_
          rintro e w8 ⟨rfl, hb8⟩
          have HD8 := hid (HDr.out.on hb8); have HB8 := hid (Bt HBW.out hb8); have HR8 := hid (row_below HRr.out hb8)
          clear hb8 HDr HBW HRr
          go_wp2_with fail
          refine (bytes_any HD8.out).mono ?_
          rintro e w9 ⟨v9, rfl, ho9, hb9⟩
          have hcv9 := ho9.conv
          have HD9 := hid (HD8.out.on hb9); have HB9 := hid (Bt HB8.out hb9); have HR9 := hid (row_below HR8.out hb9)
          clear ho9 hb9 HD8 HB8 HR8
          go_wp2_with fail
          refine (loose_any HD9.out).mono ?_
          rintro e w10 ⟨v10, rfl, hr10, hb10⟩
          obtain ⟨A10, c10, hv10, hi10⟩ := rdI_of_row hr10 (looseL_i64 (by have := H80.out; omega))
          obtain ⟨A11, c11, hv11, hi11⟩ := rdI_of_row (row_below HR9.out hb10) (looseL_i64 (by have := H80.out; omega))
          subst hv10; subst hv11
          have HI10 := hid hi10; have HI11 := hid hi11; have HB10 := hid (Bt HB9.out hb10)
          clear hr10 hi10 hi11 hb10 HD9 HB9 HR9 hcv9 HR4
          go_wp2_with fail
          refine (same_any HI10.out HI11.out rfl).mono ?_
          rintro e w11 ⟨rfl, hb11⟩
          have HB11 := hid (Bt HB10.out hb11)
          clear hb11
          go_wp2_with fail
          go_ret
          exact ⟨rfl, HB11.out⟩
end Go.Proofs.Ytfekholamkidkaa
