/-
  The program's Apply of layer 7, of objects whose values are right.
  The bytes of a version, of a catalogue: versionBytes, Encode.
-/
import Derived.Test.YtaegencmnmjgbaaGreatM61

namespace Go.Proofs.YtaegencmnmjgbaaGreat
open Go.RowKit
set_option linter.unusedVariables false
set_option linter.unusedSimpArgs false
theorem ow_less {w : World} {base b : Nat} {v : Value} {l : List UInt8} (h : Own w base v l) (hb : b ≤ base) : Own w b v l := by
  refine ⟨h.1, ?_⟩
  rcases h.2 with h1 | ⟨g, cap, cur, hv, hbase, hg, h3⟩
  · exact .inl h1
  · exact .inr ⟨g, cap, cur, hv, Nat.le_trans hb hbase, hg, h3⟩
theorem ow_rd2 {w : World} {base m c : Nat} {A : Option Addr} {l : List UInt8} (h : Own w base (.slice A m c) l) : m = l.length ∧ Rd w w.heap.size A m c l := by
  obtain ⟨A', c', e, hr⟩ := h.rd
  cases e
  exact ⟨rfl, hr⟩
end Go.Proofs.YtaegencmnmjgbaaGreat

namespace Go.Proofs.YtaegencmnmjgbaaGreat
open Go.RowKit Go.Maps
set_option linter.unusedVariables false
set_option linter.unusedSimpArgs false
theorem encB_toList (vk n : Int) (t : ByteArray) (k g : Int) : (encT vk n t k g).toList = encB vk n t k g := by unfold encB; rw [ByteArray.toList_eq]
def EncF (w w' : World) (e : Ending) (l : List UInt8) : Prop :=
  ∃ A m cap, e = .returned (.tuple #[.slice A m cap, .int .i64 0]) ∧ Rd w' w'.heap.size A m cap l ∧ (∀ a, A = some a → w.heap.size ≤ a.block) ∧ Below w.heap.size w w'
set_option maxHeartbeats 2000000 in
theorem kencodeF_any (vk n : Int) (t nm : ByteArray) (k g : Int) (w : World) (hn : U64 n) (hr : rightF vk n t.size k g = true) :
    Calls Tryz.prog 84 #[.agg #[.int .i64 vk, .int .u64 n, .string t], .agg #[.string nm, .int .i64 k, .int .i64 g]] w fun e w' => EncF w w' e (encT vk n t k g).toList := by
  · rw [show encT vk n t k g = encL n t k g by simp [encT, hr]]
    by_cases h12 : k = 12
    · subst h12
      have ht : t.size ≤ 1000000 := by
        have h1 := hr
        unfold rightF at h1
        simp at h1
        have := may12 h1.1.1; omega
      rw [show encL n t 12 g = t by simp [encL]]
      go_enter Tryz.func84, Tryz.ntmps84
      go_wp2_with fail
      go_at_call 122
      refine (kright_any _ _ _ _ _ _ _ hn).mono ?_
      rintro e w1 ⟨rfl, hb1⟩
      rw [hr]
      obtain ⟨c0, c1, c2⟩ := ((fb_new2 w _ nm 12 g).on hb1).cells
      obtain ⟨d0, d1, d2⟩ := (((vb_new w vk n t).alloc _).on hb1).cells
      obtain ⟨c, w2, hrun, hrd, hb2⟩ := run_bytesT w1 t ht
      have HRD := hid hrd
      clear hrd hr ht
      go_wp2_with fail
      go_ret2
      exact ⟨_, _, _, rfl, HRD.out, fun a e => by cases e; exact (Bt (Ba (B1 _ _) _) hb1).size, Bt (Bt (Ba (B1 _ _) _) hb1) hb2⟩
    · have b12 : (k == 12) = false := by simpa using h12
      rw [show encL n t k g = ⟨((le n 8).take (longF k g).toNat).toArray⟩ by simp [encL, h12]]
      obtain ⟨m, hm⟩ := Int.eq_ofNat_of_zero_le (longF_nonneg k g)
      have hm8 : m ≤ 8 := by
        have := longF_le8 g h12
        omega
      have hf8 : fits n 8 false = true := by have h1 := hn.1; have h2 := hn.2; simp [fits, isW]; exact h2
      rw [hm, Int.toNat_natCast, ByteArray.toList_eq]
      have HM := hid hm
      have hlen : (le n 8).length = 8 := le_length _ _
      go_enter Tryz.func84, Tryz.ntmps84
      go_wp2_with fail
      go_at_call 122
      refine (kright_any _ _ _ _ _ _ _ hn).mono ?_
      rintro e w1 ⟨rfl, hb1⟩
      rw [hr]
      have hF := (fb_new2 w (.cells #[.int .i64 vk, .int .u64 n, .string t] 71) nm k g).on hb1
      have hV := ((vb_new w vk n t).alloc (.cells #[.string nm, .int .i64 k, .int .i64 g] 68)).on hb1
      obtain ⟨c0, c1, c2⟩ := hF.cells
      obtain ⟨d0, d1, d2⟩ := hV.cells
      clear hm hr
      go_wp2_with fail
      go_at_call 82
      refine (put_true none 0 0 [] 8 n _ (Rd.nil _ _) (by omega) hn hf8 (by omega)).mono ?_
      rintro e w2 ⟨v, rfl, hown, hb2⟩
      obtain ⟨A, cap, rfl, hrd⟩ := hown.rd
      rw [List.nil_append] at hrd
      rw [List.nil_append, hlen]
      rw [hlen] at hrd
      have HRD := hid hrd
      have hcap := hrd.2.1
      have hcm := hrd.2.2.1
      have hA : ∃ ad, A = some ad := by
        obtain ⟨b, off, e, _⟩ := hrd.2.2.2.2 (by omega)
        exact ⟨_, e⟩
      obtain ⟨ad, rfl⟩ := hA
      have HFB : Hid (w.heap.size ≤ ad.block) := hid (by
        rcases hown.2 with ⟨e, _⟩ | ⟨g9, cap9, cur9, e, hb9, _⟩
        · cases e
        · cases e; exact Nat.le_trans (Bt (Ba (B1 _ _) _) hb1).size hb9)
      clear hown hrd c0 c1 c2 d0 d1 d2
      obtain ⟨c0, c1, c2⟩ := (hF.on hb2).cells
      go_wp2_with fail
      go_at_call 101
      refine (klong_any _ _ _ _).mono ?_
      rintro e w3 ⟨rfl, hb3⟩
      rw [HM.out]
      go_wp2_with fail
      go_ret2
      refine ⟨_, _, _, rfl, ?_, fun a e => ?_, Bt (Bt (Bt (Ba (B1 _ _) _) hb1) hb2) hb3⟩
      · exact (HRD.out.on hb3).take (by omega)
      · have := HFB.out
        simp at e
        first | (subst e; exact this) | (split at e <;> simp_all)
theorem Rd.other {w w' : World} {A : Option Addr} {n c : Nat} {l : List UInt8} {row : Option Nat} (h : Rd w w.heap.size A n c l) (hg : w.grownBy w' row) (hne : ∀ a, A = some a → some a.block ≠ row) : Rd w' w'.heap.size A n c l :=
  ⟨h.1, h.2.1, h.2.2.1, h.2.2.2.1, fun hn => by
    obtain ⟨b, off, e, hlt, hc⟩ := h.2.2.2.2 hn
    have hb := hg.block b hlt (hne _ e)
    exact ⟨b, off, e, Nat.lt_of_lt_of_le hlt hg.size, fun i hi => (cell_cong (p := ⟨b, _, none⟩) hb).trans (hc i hi)⟩⟩
structure VS (w W : World) (q : Nat) (v1 v2 v3 : Value) (v : Value) (X : List UInt8) : Prop where
  ow : Own W w.heap.size v X
  tb : TBx W q v1 v2 v3 92
  bl : Below w.heap.size w W
section
variable {w W W' : World} {q : Nat} {v1 v2 v3 v v' : Value} {X Y : List UInt8}
theorem VS.on (h : VS w W q v1 v2 v3 v X) (hb : Below W.heap.size W W') : VS w W' q v1 v2 v3 v X := ⟨h.ow.grown hb, h.tb.on hb, h.bl.trans (hb.mono h.bl.size)⟩
theorem VS.app (h : VS w W q v1 v2 v3 v X) (hg : W.grownBy W' v.ownBlock) (ho : Own W' w.heap.size v' Y) : VS w W' q v1 v2 v3 v' Y :=
  ⟨ho, (hg.block q h.tb.lt (fun e => by
    obtain ⟨_, cs, hc⟩ := h.ow.blk2 q e.symm
    have := h.tb; unfold TBx at this; rw [hc] at this; cases this)).trans h.tb, h.bl.grown hg h.bl.size (fun j e => (h.ow.blk2 j e).1)⟩
end
set_option maxRecDepth 20000 in
set_option maxHeartbeats 16000000 in
theorem verb9_any {w : World} {A1 A2 A3 : Option Addr} {n1 c1 n2 c2 n3 c3 : Nat} {T : Tb} (h : RdT w w.heap.size (.agg #[.slice A1 n1 c1, .slice A2 n2 c2, .slice A3 n3 c3]) T) (hT : VerOk T) :
    Calls Tryz.prog 51 #[.agg #[.slice A1 n1 c1, .slice A2 n2 c2, .slice A3 n3 c3]] w fun e w' => ∃ v, e = .returned v ∧ Own w' w.heap.size v (verE T) ∧ Below w.heap.size w w' := by
  obtain ⟨_, _, _, _, _, _, _, _, _, er, h1, h2, h3⟩ := h
  cases er
  obtain ⟨w0, hw0⟩ : ∃ w0, w0 = w.alloc (.cells #[.slice A1 n1 c1, .slice A2 n2 c2, .slice A3 n3 c3] 92) := ⟨_, rfl⟩
  obtain ⟨q, hq⟩ : ∃ q, q = w.heap.size := ⟨_, rfl⟩
  have HW0 := hid hw0; have HQ := hid hq
  have HB0 : Hid (Below w.heap.size w w0) := by rw [hw0]; exact hid (B1 _ _)
  have HX0 : Hid (TBx w0 q (.slice A1 n1 c1) (.slice A2 n2 c2) (.slice A3 n3 c3) 92) := by rw [hw0, hq]; exact hid (tb_new _ _ _ _ _)
  have HL3 := hid h3.1; have HL2 := hid h2.1
  have H2 := hid (h2.on HB0.out); have H3 := hid (h3.on HB0.out); have HOK := hid hT
  have hm16 : n3 ≤ 16 := by have a := hT.len; have b := right_len hT.nw; have := h3.1; omega
  have HEN : Hid (encE6 T.nw = (encA T.nw, 0)) := hid (by unfold encE6; rw [hT.nw]; rfl)
  clear h1 h2 h3 hT hw0 hq
  go_enter Tryz.func51, Tryz.ntmps51
  go_upto_region 1 with fail
  rw [← HW0.out, ← HQ.out]
  obtain ⟨x0, x1, x2⟩ := HX0.out.cells
  go_wp2_with fail
  refine (p6encode_any H2.out (right_short HOK.out.nw)).mono ?_
  rintro e w1 ⟨v1, rfl, ho1, hb1⟩
  rw [HEN.out] at ho1 ⊢
  obtain ⟨B1', d1, rfl, hr1⟩ := ho1.rd
  have HB1 := hid hb1; have HR1 := hid hr1
  have HX1 := hid (HX0.out.on hb1)
  clear ho1 hb1 hr1 x0 x1 x2
  dsimp only at HR1 ⊢
  go_wp2_with fail
  refine (piece9_any 2 w1 HR1.out (.inr rfl) (.inr ⟨rfl, encA_short HOK.out.nw⟩)).mono ?_
  rintro e w2 ⟨v2, rfl, ho2, hb2⟩
  have HV2 : Hid (VS w0 w2 q (.slice A1 n1 c1) (.slice A2 n2 c2) (.slice A3 n3 c3) v2 (encFs T.nw)) := hid ⟨ow_less ho2 HB1.out.size, HX1.out.on hb2, Bt HB1.out hb2⟩
  obtain ⟨B2', m2, d2, rfl⟩ := ho2.shape2
  have HB2 := hid (Bt HB1.out hb2)
  clear ho2 hb2
  obtain ⟨x0, x1, x2⟩ := HV2.out.tb.cells
  go_wp2_with fail
  clear x0 x1 x2
  go_loopw [5, 21] (fun v i wr => ∃ (j : Nat) (A : Option Addr) (n c : Nat), j ≤ n3 ∧ i = .int .i64 j ∧ v = .slice A n c ∧ Hid (VS w0 wr q (.slice A1 n1 c1) (.slice A2 n2 c2) (.slice A3 n3 c3) (.slice A n c) (encFs T.nw ++ encMs (T.mv.take j) T.nw))) (fun _ i _ => n3 - (intOf i).toNat)
  case atStart => exact ⟨0, _, _, _, by omega, rfl, rfl, hid (by rw [List.take_zero, encMs_nil, List.append_nil]; exact HV2.out)⟩
  case round =>
    obtain ⟨j, A, nn, cc, hj, rfl, rfl, HV⟩ := hrel
    have HB : Hid (Below w0.heap.size w0 wr) := hid HV.out.bl
    by_cases hlt : j < n3
    · obtain ⟨m, hm⟩ : ∃ m, T.mv[j]? = some m := ⟨_, List.getElem?_eq_getElem (by have := HL3.out; omega)⟩
      obtain ⟨f, hf⟩ : ∃ f, T.nw[j]? = some f := ⟨_, List.getElem?_eq_getElem (by have := HL3.out; have := HOK.out.len; omega)⟩
      obtain ⟨k1, k2, k3⟩ := HOK.out.mv j m f hm hf
      have hTK := encMs_take hm hf
      obtain ⟨_, hf64, hk64, hnu, b, off, rfl, hc⟩ := H3.out.at hm
      obtain ⟨hj2, hfk, hfg, hfn, b2, off2, rfl, hc2⟩ := H2.out.at hf
      obtain ⟨d0, dd1, dd2, dd3⟩ := hc wr HB.out
      have HC2 := hid hc2
      have hji : (j : Int) < n3 := by omega
      have hji2 : (j : Int) < n2 := by omega
      have hj0 : (0 : Int) ≤ j := by omega
      obtain ⟨X, hX⟩ : ∃ X, X = encFs T.nw ++ encMs (T.mv.take j) T.nw := ⟨_, rfl⟩
      have hXl : X.length ≤ 68000 := by
        rw [hX]; unfold encFs
        have a := encA_short HOK.out.nw
        have b := encMs_len HOK.out j
        simp only [List.length_append, le_length]; omega
      have hXn : encFs T.nw ++ encMs (T.mv.take (j + 1)) T.nw = X ++ encMv m f := by rw [hTK, hX, List.append_assoc]
      rw [← hX] at HV
      have HXN := hid hXn; have HXL := hid hXl
      have HK := hid (And.intro k1 (And.intro k2 k3))
      obtain ⟨wv, hwv⟩ : ∃ wv, wv = wr.alloc (.cells #[.int .i64 m.fr, .int .i64 m.k, .int .u64 m.n, .string m.t] 161) := ⟨_, rfl⟩
      obtain ⟨p, hp⟩ : ∃ p, p = wr.heap.size := ⟨_, rfl⟩
      have HWV := hid hwv; have HP := hid hp
      have HM : Hid (MB wv p m 161) := by rw [hwv, hp]; exact hid (mb_new _ _ _)
      have HVV : Hid (VS w0 wv q (.slice A1 n1 c1) (.slice (some ⟨b2, off2, none⟩) n2 c2) (.slice (some ⟨b, off, none⟩) n3 c3) (.slice A nn cc) X) := by rw [hwv]; exact hid (HV.out.on (B1 _ _))
      have HBV : Hid (Below w0.heap.size w0 wv) := by rw [hwv]; exact hid (Ba HB.out _)
      clear hm hf k1 k2 k3 hTK hf64 hk64 hnu hc hfk hfg hfn hc2 hX hXl hXn hwv hp
      go_upto_region 6 with fail
      rw [← HWV.out, ← HP.out]
      clear d0 dd1 dd2 dd3
      obtain ⟨d0, dd1, dd2, dd3⟩ := HM.out.cells
      by_cases hfr : m.fr = -1
      · have t1 : (m.fr != -1) = false := by simpa using hfr
        have HEM : Hid (encMv m f = [255] ++ encB m.k m.n m.t f.k f.g) := hid (by unfold encMv; rw [if_pos hfr]; rfl)
        have HRF : Hid (rightF m.k m.n m.t.size f.k f.g = true) := hid (HK.out.2.1 hfr)
        clear hfr
        go_upto_region 8 with fail
        clear d0 dd1 dd2 dd3
        refine reg_begin (by kernel_rfl) (fun w0a hx0a hHeld => ?_)
        have s0 : ∀ w', Ext w0a w' → Below w0.heap.size w0 w' := fun w' h => HBV.out.trans ((hx0a.trans h).mono HBV.out.size)
        have ma : ∀ w', Ext w0a w' → MB w' p m 161 := fun w' h => (HM.out.on (Bt (B0 _) hx0a)).on h
        have m1 := fun w' h => (ma w' h).cells.2.1
        have m2 := fun w' h => (ma w' h).cells.2.2.1
        have m3 := fun w' h => (ma w' h).cells.2.2.2
        have ta : ∀ w', Ext w0a w' → TBx w' q (.slice A1 n1 c1) (.slice (some ⟨b2, off2, none⟩) n2 c2) (.slice (some ⟨b, off, none⟩) n3 c3) 92 := fun w' h => (HVV.out.tb.on (Bt (B0 _) hx0a)).on h
        have t2 := fun w' h => (ta w' h).cells.2.1
        have y0 := fun w' h => (HC2.out w' (s0 w' h)).1
        have y1 := fun w' h => (HC2.out w' (s0 w' h)).2.1
        have y2 := fun w' h => (HC2.out w' (s0 w' h)).2.2
        clear s0 ma ta
        refine reg_take 0 (v := ?vb0) at0 (by kernel_rfl) (by kernel_rfl) (by kernel_rfl) (by rfl) ?hyb0 hHeld ?restb0
        case hyb0 => (intro w' hSw; go_simp; try with_reducible rfl)
        try simp only [Act.put, List.setIfInBounds_toArray, List.set_cons_zero, List.set_cons_succ]
        refine reg_take 1 (v := ?vb1) (atS at0) (by kernel_rfl) (by kernel_rfl) (by kernel_rfl) (by rfl) ?hyb1 hHeld ?restb1
        case hyb1 => (intro w' hSw; go_simp; try with_reducible rfl)
        try simp only [Act.put, List.setIfInBounds_toArray, List.set_cons_zero, List.set_cons_succ]
        refine reg_take 2 (v := ?vb2) (atS (atS at0)) (by kernel_rfl) (by kernel_rfl) (by kernel_rfl) (by rfl) ?hyb2 hHeld ?restb2
        case hyb2 => (intro w' hSw; go_simp; try with_reducible rfl)
        try simp only [Act.put, List.setIfInBounds_toArray, List.set_cons_zero, List.set_cons_succ]
        refine reg_take 3 (v := ?vb3) (atS (atS (atS at0))) (by kernel_rfl) (by kernel_rfl) (by kernel_rfl) (by rfl) ?hyb3 hHeld ?restb3
        case hyb3 => (intro w' hSw; go_simp; try with_reducible rfl)
        try simp only [Act.put, List.setIfInBounds_toArray, List.set_cons_zero, List.set_cons_succ]
        refine reg_take 4 (v := ?vb4) (atS (atS (atS (atS at0)))) (by kernel_rfl) (by kernel_rfl) (by kernel_rfl) (by rfl) ?hyb4 hHeld ?restb4
        case hyb4 => (intro w' hSw; go_simp; try with_reducible rfl)
        try simp only [Act.put, List.setIfInBounds_toArray, List.set_cons_zero, List.set_cons_succ]
        refine reg_take 5 (v := ?vb5) (atS5 at0) (by kernel_rfl) (by kernel_rfl) (by kernel_rfl) (by rfl) ?hyb5 hHeld ?restb5
        case hyb5 => (intro w' hSw; go_simp; try with_reducible rfl)
        try simp only [Act.put, List.setIfInBounds_toArray, List.set_cons_zero, List.set_cons_succ]
        refine reg_take 6 (v := ?vb6) (atS5 (atS at0)) (by kernel_rfl) (by kernel_rfl) (by kernel_rfl) (by rfl) ?hyb6 hHeld ?restb6
        case hyb6 => (intro w' hSw; go_simp; try with_reducible rfl)
        try simp only [Act.put, List.setIfInBounds_toArray, List.set_cons_zero, List.set_cons_succ]
        refine wpAnyH_ready (rs := [7]) (by kernel_rfl) (by simp) ?_
        refine AllReadyH.cons (atS5 (atS (atS at0))) (fun K hK => ?_) AllReadyH.nil
        go_simp
        refine (kencodeF_any m.k m.n m.t (bs f.nm) f.k f.g _ HK.out.1 HRF.out).mono ?_
        rintro e w4 ⟨A4, m4, c4, rfl, hr4, hf4, hb4⟩
        rw [encB_toList] at hr4
        go_wp2_with fail
        refine hK.out _ _ hb4 (fun hHeld => ?_)
        clear hK K
        try simp only [Act.put, List.setIfInBounds_toArray, List.set_cons_zero, List.set_cons_succ]
        refine reg_on hb4 (fun hHeld => ?_)
        refine reg_take 8 (v := ?vb8) (atS5 (atS (atS (atS at0)))) (by kernel_rfl) (by kernel_rfl) (by kernel_rfl) (by rfl) ?hyb8 hHeld ?restb8
        case hyb8 => (intro w' hSw; go_simp; try with_reducible rfl)
        try simp only [Act.put, List.setIfInBounds_toArray, List.set_cons_zero, List.set_cons_succ]
        refine reg_take 9 (v := ?vb9) (atS5 (atS (atS (atS (atS at0))))) (by kernel_rfl) (by kernel_rfl) (by kernel_rfl) (by rfl) ?hyb9 hHeld ?restb9
        case hyb9 => (intro w' hSw; go_simp; try with_reducible rfl)
        try simp only [Act.put, List.setIfInBounds_toArray, List.set_cons_zero, List.set_cons_succ]
        refine reg_take 10 (v := ?vb10) (atS5 (atS5 at0)) (by kernel_rfl) (by kernel_rfl) (by kernel_rfl) (by rfl) ?hyb10 hHeld ?restb10
        case hyb10 => (intro w' hSw; go_simp; try with_reducible rfl)
        try simp only [Act.put, List.setIfInBounds_toArray, List.set_cons_zero, List.set_cons_succ]
        refine reg_take 11 (v := ?vb11) (atS5 (atS5 (atS at0))) (by kernel_rfl) (by kernel_rfl) (by kernel_rfl) (by rfl) ?hyb11 hHeld ?restb11
        case hyb11 => (intro w' hSw; go_simp; try with_reducible rfl)
        try simp only [Act.put, List.setIfInBounds_toArray, List.set_cons_zero, List.set_cons_succ]
        refine reg_take 12 (v := ?vb12) (atS5 (atS5 (atS (atS at0)))) (by kernel_rfl) (by kernel_rfl) (by kernel_rfl) (by rfl) ?hyb12 hHeld ?restb12
        case hyb12 => (intro w' hSw; go_simp; try with_reducible rfl)
        try simp only [Act.put, List.setIfInBounds_toArray, List.set_cons_zero, List.set_cons_succ]
        refine wpAnyH_done (by kernel_rfl) ?_ _
        refine NoPanic.normal ?_
        clear m1 m2 m3 t2 y0 y1 y2
        have HR4 := hid hr4
        have HB04 : Hid (Below wv.heap.size wv w4) := hid (Bt (Bt (B0 _) hx0a) hb4)
        have HVV4 := hid (HVV.out.on HB04.out)
        have HF4 : Hid (∀ a, A4 = some a → wv.heap.size ≤ a.block) := hid (fun a e => Nat.le_trans (Bt (B0 _) hx0a).size (hf4 a e))
        clear hr4 hb4 hf4
        go_wp2_with fail
        refine (numb9_any 1 255 w4 (.inl rfl) (by omega) (.inl (by omega))).mono ?_
        rintro e w5 ⟨v5, rfl, ho5, hb5⟩
        have HVV5 := hid (HVV4.out.on hb5)
        obtain ⟨A5, d5, rfl, hr5⟩ := ho5.rd
        obtain ⟨v6, w6, hrun6, ho6, hg6, _⟩ := run_append8 HVV5.out.ow hr5 HVV5.out.bl.size (by have := HXL.out; rw [le_length]; omega) 35
        have HVV6 := hid (HVV5.out.app hg6 ho6)
        obtain ⟨A6, m6, c6, rfl⟩ := ho6.shape2
        have hr6 : Rd w6 w6.heap.size A4 m4 c4 (encB m.k m.n m.t f.k f.g) := (HR4.out.on hb5).other hg6 (fun a e hh => by
          have h1 := HF4.out a e
          obtain ⟨_, cs, hcs⟩ := HVV.out.ow.blk2 a.block hh.symm
          have := row_lt hcs
          omega)
        obtain ⟨v7, w7, hrun7, ho7, hg7, _⟩ := run_append8 HVV6.out.ow hr6 HVV6.out.bl.size (by have := HXL.out; have := longE_le HRF.out; have := HR4.out.1; rw [List.length_append, le_length]; omega) 35
        have HVV7 := hid (HVV6.out.app hg7 ho7)
        obtain ⟨A7, m7, c7, rfl⟩ := ho7.shape2
        have HRUN6 := hid hrun6; have HRUN7 := hid hrun7
        clear ho5 hb5 hr5 hrun6 ho6 hg6 hrun7 ho7 hg7 hr6
        have e255 : le (255 : Int) 1 = [255] := by decide
        go_wp2_with (at_builtin; first | refine wpList_appG rfl _ _ rfl rfl rfl HRUN6.out ?_ | refine wpList_appG rfl _ _ rfl rfl rfl HRUN7.out ?_)
        exact ⟨⟨j + 1, _, _, _, by omega, by go_num, rfl, by rw [HXN.out, HEM.out, ← e255, ← List.append_assoc]; exact HVV7⟩, by simp [intOf]; omega⟩
      · have t1 : (m.fr != -1) = true := by simpa using hfr
        have HEM : Hid (encMv m f = le m.fr 1) := hid (by unfold encMv; rw [if_neg hfr])
        have HFR : Hid (0 ≤ m.fr ∧ m.fr < 256) := hid (HK.out.2.2 hfr)
        clear hfr
        go_wp2_with fail
        refine (numb9_any 1 m.fr wv (.inl rfl) HFR.out.1 (.inl HFR.out.2)).mono ?_
        rintro e w5 ⟨v5, rfl, ho5, hb5⟩
        have HVV5 := hid (HVV.out.on hb5)
        obtain ⟨A5, d5, rfl, hr5⟩ := ho5.rd
        obtain ⟨v6, w6, hrun6, ho6, hg6, _⟩ := run_append8 HVV5.out.ow hr5 HVV5.out.bl.size (by have := HXL.out; rw [le_length]; omega) 35
        have HVV6 := hid (HVV5.out.app hg6 ho6)
        obtain ⟨A6, m6, c6, rfl⟩ := ho6.shape2
        have HRUN := hid hrun6
        clear ho5 hb5 hr5 hrun6 ho6 hg6 d0 dd1 dd2 dd3
        go_wp2_with (at_builtin; refine wpList_appG rfl _ _ rfl rfl rfl HRUN.out ?_)
        exact ⟨⟨j + 1, _, _, _, by omega, by go_num, rfl, by rw [HXN.out, HEM.out]; exact HVV6⟩, by simp [intOf]; omega⟩
    · have hjn : j = n3 := by omega
      have hE : encFs T.nw ++ encMs (T.mv.take j) T.nw = verE T := by unfold verE; rw [hjn, ← HL3.out, List.take_length]
      rw [hE] at HV
      clear hE hjn
      go_wp2_with fail
      go_ret
      exact ⟨_, rfl, ow_less HV.out.ow HB0.out.size, Bt HB0.out HV.out.bl⟩
end Go.Proofs.YtaegencmnmjgbaaGreat
