/-
  The document's answer for layer 4: Steps.
-/
import Derived.Test.YteggkojlpgkhbaaGreatM16
namespace Go.Proofs.YteggkojlpgkhbaaGreat
open Go.RowKit Go.Maps Go.Shelf
set_option linter.unusedVariables false

theorem save_one (f : Int) {l : List UInt8} (hl : l.length = 8) : saveS f l = [.wr f l, .fl f 1, .fe] := by
  unfold saveS saveP
  rw [hl]
  have : l.take 8 = l := List.take_of_length_le (by omega)
  simp [List.range_succ, this]
theorem z8_eq : zeros 8 = le 0 8 := by decide
theorem rd_z8 (w : World) : Rd (w.alloc (.cells (zrow 8).toArray 5)) (w.alloc (.cells (zrow 8).toArray 5)).heap.size (some ⟨w.heap.size, 0, none⟩) 8 8 (le 0 8) := by
  have hr : Row (w.alloc (.cells (zrow 8).toArray 5)) w.heap.size 8 (zeros 8) :=
    ⟨_, heap_alloc_new w _, by simp [zrow], by simp [zeros], by unfold maxLen; omega, by simp [zrow, zeros]⟩
  have := hr.rd
  rw [zeros_length, z8_eq] at this; exact this
/-- What Steps answers. -/
def SteP (er : Int) (w : World) (at_ seq : Int) (xs : List (Int × Int)) (e : Ending) (w' : World) : Prop :=
  if er = 0 then ∃ v, e = .returned (.tuple #[v, .int .i64 0]) ∧ StO w' w.heap.size w.heap.size v (allS at_ seq xs) ∧ Below w.heap.size w w'
  else e = .returned (.tuple #[.slice none 0 0, .int .i64 er]) ∧ Below w.heap.size w w'
theorem SteP.no {er k : Int} {w w' : World} {at_ seq : Int} {xs : List (Int × Int)} (h : er = k) (hk : k ≠ 0) (hb : Below w.heap.size w w') : SteP er w at_ seq xs (.returned (.tuple #[.slice none 0 0, .int .i64 k])) w' := by
  unfold SteP; rw [h, if_neg hk]; exact ⟨rfl, hb⟩
theorem SteP.yes {er : Int} {w w' : World} {at_ seq : Int} {xs : List (Int × Int)} {v : Value} (h : er = 0) (hv : StO w' w.heap.size w.heap.size v (allS at_ seq xs)) (hb : Below w.heap.size w w') : SteP er w at_ seq xs (.returned (.tuple #[v, .int .i64 0])) w' := by
  unfold SteP; rw [h, if_pos rfl]; exact ⟨v, rfl, hv, hb⟩
theorem rflop2_any {w : World} (a m : Int) (h0 : 0 ≤ a) (h1 : a ≤ 8192) (h2 : 0 ≤ m) (h3 : m ≤ 8192) (k : Int) (hk : k = 8 * m) :
    Calls Tryz.prog 40 #[.int .i64 a, .int .i64 m] w fun e w' => e = .returned (.agg #[.int .i64 2, .int .i64 (8 * a), .int .i64 k, .slice none 0 0, .slice none 0 0]) ∧ Below w.heap.size w w' := by
  subst hk; exact rflop_any a m h0 h1 h2 h3
theorem recX_body (s : Int) (xs : List (Int × Int)) (k : Nat) : ((recX s xs).drop (8 + k * 8)).take 8 = ((bodyL xs).drop (k * 8)).take 8 := by
  unfold recX
  rw [List.drop_append, headL_length, List.drop_of_length_le (by rw [headL_length]; omega), List.nil_append, show 8 + k * 8 - 8 = k * 8 by omega]
theorem recX_head (s : Int) (xs : List (Int × Int)) : (recX s xs).take 8 = headL xs.length s (bodyL xs) := by
  unfold recX
  rw [List.take_append_of_le_length (by rw [headL_length]; omega), List.take_of_length_le (by rw [headL_length]; omega)]
theorem allS_eq (at_ seq : Int) (xs : List (Int × Int)) {M : Nat} (hM : (bodyL xs).length / 8 = M) :
    allS at_ seq xs = (saveS at_ (le 0 8) ++ saveP (at_ + 1) (bodyL xs) M ++ [.fl (at_ + 1) (M : Nat), .fe, .wr at_ (headL xs.length seq (bodyL xs)), .fl at_ 1, .fe]) ++ bringP xs ++ [.fe] := by
  unfold allS
  rw [save_one at_ (headL_length _ _ _)]
  have e : saveS (at_ + 1) (bodyL xs) = saveP (at_ + 1) (bodyL xs) M ++ [.fl (at_ + 1) (M : Nat), .fe] := by unfold saveS; rw [hM]
  rw [e]
  unfold bringS
  simp [List.append_assoc]

set_option maxRecDepth 20000 in
set_option maxHeartbeats 16000000 in
theorem rsteps_any {w : World} {A : Option Addr} {N c : Nat} (hN : N ≤ 8192) {at_ words seq : Int} (h0 : 0 ≤ at_) (h1 : 1 ≤ words) (h2 : at_ + words ≤ N) (hs1 : 1 ≤ seq) (hs2 : seq ≤ 4294967296) {A2 : Option Addr} {n2 c2 : Nat} {xs : List (Int × Int)} (hx : RdS w w.heap.size A2 n2 c2 xs) (hn : n2 ≤ 50) :
    Calls Tryz.prog 14 #[.slice A N c, .agg #[.int .i64 at_, .int .i64 words], .int .i64 seq, .slice A2 n2 c2] w (SteP (begE N at_ words seq xs) w at_ seq xs) := by
  have HL : Hid (xs.length = n2) := hx.1
  have HXO : Hid (∀ x ∈ xs, I64 x.1 ∧ U64 x.2) := hx.2.2.2.1
  have H := hid hx
  obtain ⟨er, her⟩ : ∃ er, er = begE N at_ words seq xs := ⟨_, rfl⟩
  rw [← her]
  have HER := hid her
  have hni : (n2 : Int) ≤ 50 := by omega
  have HN := hid hN; have H2 := hid h2
  have h28 : at_ + words ≤ 8192 := by omega
  obtain ⟨w1, hw1⟩ : ∃ w1, w1 = w.alloc (.cells #[.int .i64 at_, .int .i64 words] 25) := ⟨_, rfl⟩
  have HW1 := hid hw1
  have HB1 : Hid (Below w.heap.size w w1) := by rw [hw1]; exact B1 _ _
  obtain ⟨rb, hrb⟩ : ∃ rb, rb = w.heap.size := ⟨_, rfl⟩
  have HRB : Hid (rb < w1.heap.size) := by show _ < _; rw [hw1, hrb]; simp
  have HBX : Hid (∀ w', Below w1.heap.size w1 w' → w'.heap[rb]? = some (.cells #[.int .i64 at_, .int .i64 words] 25 (0, 0))) := fun w' h => by
    rw [h.block _ HRB.out, hw1, hrb]; exact heap_alloc_new w _
  have HRW := hid hrb
  clear hx hn her hN h2 hw1 hrb
  by_cases hz : n2 = 0
  · subst hz
    have HE : Hid (er = 1) := by rw [HER.out]; show _ = _; unfold begE; rw [if_pos (.inl HL.out)]
    go_enter Tryz.func14, Tryz.ntmps14
    go_wp2_with fail
    go_ret2
    exact SteP.no HE.out (by decide) (B1 _ _)
  have hz1 : ((n2 : Int) == 0) = false := by simpa using hz
  go_enter Tryz.func14, Tryz.ntmps14
  go_wp2_with fail
  rw [← HW1.out, ← HRW.out]
  go_loopw [10] (fun i wr => ∃ k : Nat, k ≤ n2 ∧ i = .int .i64 k ∧ Hid ((xs.take k).all (mayB N at_ words) = true) ∧ Hid (Below w1.heap.size w1 wr)) (fun i _ => n2 - (intOf i).toNat)
  case atStart => exact ⟨0, by omega, rfl, hid (by simp), hid (Below.refl _ _)⟩
  case round =>
    obtain ⟨k, hk, rfl, HM, HB⟩ := hrel
    by_cases hlt : k < n2
    · have hkl : k < xs.length := by have := HL.out; omega
      obtain ⟨b, off, rfl, hbl, hc⟩ := H.out.2.2.2.2 (by omega)
      obtain ⟨⟨x1, x2⟩, hx⟩ : ∃ x, x = xs[k] := ⟨_, rfl⟩
      have HXk : Hid (xs[k]? = some (x1, x2)) := by show _ = _; rw [hx]; exact List.getElem?_eq_getElem hkl
      have hxm : (x1, x2) ∈ xs := by rw [hx]; exact List.getElem_mem _
      have HXM := hid hxm
      have HX64 := hid (HXO.out _ hxm)
      have hc1 := (hc k hkl).1; have hc2 := (hc k hkl).2
      rw [← hx] at hc1 hc2
      simp only at hc1 hc2
      have HC1 : Hid (∀ w', Below w.heap.size w w' → w'.cell? ⟨b, off + k * 2, none⟩ = some (.int .i64 x1)) := fun w' h => (h.cell (p := ⟨b, off + k * 2, none⟩) hbl).trans hc1
      have HC2 : Hid (∀ w', Below w.heap.size w w' → w'.cell? ⟨b, off + k * 2 + 1, none⟩ = some (.int .u64 x2)) := fun w' h => (h.cell (p := ⟨b, off + k * 2 + 1, none⟩) hbl).trans hc2
      obtain ⟨mb, hmb⟩ : ∃ mb, mb = mayB N at_ words (x1, x2) := ⟨_, rfl⟩
      have HMB := hid hmb
      have hk0 : (0 : Int) ≤ k := by omega
      have hkn : (k : Int) < n2 := by omega
      have htk : ((k : Int)).toNat = k := by omega
      have hBz := HB.out.size
      clear hc hc1 hc2 hx hxm hkl hmb
      go_wp2_with fail
      refine reg_begin (by kernel_rfl) (fun w0a hx0a hHeld => ?_)
      have p0 : ∀ w', Ext w0a w' → w'.cell? ⟨rb, 0, none⟩ = some (.int .i64 at_) := fun w' h => by rw [row_cell (HBX.out w' (HB.out.trans ((hx0a.trans h).mono hBz)))]; rfl
      have p1 : ∀ w', Ext w0a w' → w'.cell? ⟨rb, 1, none⟩ = some (.int .i64 words) := fun w' h => by rw [row_cell (HBX.out w' (HB.out.trans ((hx0a.trans h).mono hBz)))]; rfl
      have p2 : ∀ w', Ext w0a w' → w'.cell? ⟨b, off + k * 2, none⟩ = some (.int .i64 x1) := fun w' h => HC1.out w' (Bt HB1.out (HB.out.trans ((hx0a.trans h).mono hBz)))
      have p3 : ∀ w', Ext w0a w' → w'.cell? ⟨b, off + k * 2 + 1, none⟩ = some (.int .u64 x2) := fun w' h => HC2.out w' (Bt HB1.out (HB.out.trans ((hx0a.trans h).mono hBz)))
      refine reg_take 0 (v := ?vb0) at0 (by kernel_rfl) (by kernel_rfl) (by kernel_rfl) (by rfl) ?hyb0 hHeld ?restb0
      case hyb0 => (intro w' hSw; go_simp; try with_reducible rfl)
      try simp only [Act.put, List.setIfInBounds_toArray, List.set_cons_zero, List.set_cons_succ]
      refine reg_take 1 (v := ?vb1) (atS at0) (by kernel_rfl) (by kernel_rfl) (by kernel_rfl) (by rfl) ?hyb1 hHeld ?restb1
      case hyb1 => (intro w' hSw; go_simp; try with_reducible rfl)
      try simp only [Act.put, List.setIfInBounds_toArray, List.set_cons_zero, List.set_cons_succ]
      refine reg_take 2 (v := ?vb2) (atS (atS at0)) (by kernel_rfl) (by kernel_rfl) (by kernel_rfl) (by rfl) ?hyb2 hHeld ?restb2
      case hyb2 => (intro w' hSw; go_simp; try with_reducible rfl)
      try simp only [Act.put, List.setIfInBounds_toArray, List.set_cons_zero, List.set_cons_succ]
      refine reg_take 3 (v := ?vb3) (atS (atS (atS at0))) (by kernel_rfl) (by kernel_rfl) (by kernel_rfl) (by rfl) ?hyb3 hHeld ?restb3
      case hyb3 => (intro w' hSw; go_simp; try with_reducible rfl)
      try simp only [Act.put, List.setIfInBounds_toArray, List.set_cons_zero, List.set_cons_succ]
      refine reg_take 4 (v := ?vb4) (atS (atS (atS (atS at0)))) (by kernel_rfl) (by kernel_rfl) (by kernel_rfl) (by rfl) ?hyb4 hHeld ?restb4
      case hyb4 => (intro w' hSw; go_simp; try with_reducible rfl)
      try simp only [Act.put, List.setIfInBounds_toArray, List.set_cons_zero, List.set_cons_succ]
      refine reg_take 5 (v := ?vb5) (atS5 at0) (by kernel_rfl) (by kernel_rfl) (by kernel_rfl) (by rfl) ?hyb5 hHeld ?restb5
      case hyb5 => (intro w' hSw; go_simp; try with_reducible rfl)
      try simp only [Act.put, List.setIfInBounds_toArray, List.set_cons_zero, List.set_cons_succ]
      refine wpAnyH_ready (rs := [6]) (by kernel_rfl) (by simp) ?_
      refine AllReadyH.cons (atS5 (atS at0)) (fun K hK => ?_) AllReadyH.nil
      go_simp
      refine (rmay_any at_ words h0 h1 h28 HN.out (x1, x2) HX64.out.1).mono ?_
      rintro e w2 ⟨rfl, hb2⟩
      rw [← HMB.out]
      have HB2 := hid hb2
      go_wp2_with fail
      refine hK.out _ _ HB2.out (fun hHeld => ?_)
      clear hK K
      try simp only [Act.put, List.setIfInBounds_toArray, List.set_cons_zero, List.set_cons_succ]
      refine reg_on HB2.out (fun hHeld => ?_)
      refine reg_take 7 (v := ?vb7) (atS5 (atS (atS at0))) (by kernel_rfl) (by kernel_rfl) (by kernel_rfl) (by rfl) ?hyb7 hHeld ?restb7
      case hyb7 => (intro w' hSw; go_simp; try with_reducible rfl)
      try simp only [Act.put, List.setIfInBounds_toArray, List.set_cons_zero, List.set_cons_succ]
      refine wpAnyH_done (by kernel_rfl) ?_ _
      refine NoPanic.normal ?_
      clear p0 p1 p2 p3
      have HBn : Hid (Below w1.heap.size w1 w2) := HB.out.trans ((Bt hx0a HB2.out).mono hBz)
      cases mb with
      | false =>
        have HE : Hid (er = 1) := by
          have ha : xs.all (mayB N at_ words) = false := by
            cases ha : xs.all (mayB N at_ words) with
            | false => rfl
            | true => have := List.all_eq_true.1 ha _ HXM.out; rw [← HMB.out] at this; cases this
          rw [HER.out]; show _ = _; unfold begE
          rw [if_pos (.inr ha)]
        go_wp2_with fail
        go_ret2
        exact SteP.no HE.out (by decide) (Bt HB1.out HBn.out)
      | true =>
        have HM2 : Hid ((xs.take (k + 1)).all (mayB N at_ words) = true) := by
          show _ = _
          rw [List.take_add_one, HXk.out, List.all_append, HM.out]
          simp [← HMB.out]
        go_wp2_with fail
        exact ⟨⟨k + 1, by omega, by go_num, HM2, HBn⟩, by simp [intOf]; omega⟩
    · obtain rfl : k = n2 := by omega
      have et : xs.take k = xs := by rw [← HL.out]; exact List.take_length
      rw [et] at HM
      clear et hlt hk
      have hx := HBX.out wr HB.out
      have x0 := row_cell hx 0; have x1 := row_cell hx 1
      simp at x0 x1
      clear hx
      by_cases z3 : (words - 1) / 2 < k
      · have HE : Hid (er = 40) := by
          rw [HER.out]; show _ = _; unfold begE
          rw [if_neg (by rw [HL.out, HM.out]; simp; exact hz), if_pos (.inl (by rw [HL.out]; exact z3))]
        have k3 : decide ((words - 1) / 2 < (k : Int)) = true := by simpa using z3
        clear z3
        go_wp2_with fail
        refine (rroom_any at_ words h1 (by omega)).mono ?_
        rintro e w3 ⟨rfl, hb3⟩
        have HB3 := hid (Bt HB.out hb3); clear hb3
        go_wp2_with fail
        go_ret2
        exact SteP.no HE.out (by decide) (Bt HB1.out HB3.out)
      by_cases z4 : 4294967295 < seq
      · have HE : Hid (er = 40) := by
          rw [HER.out]; show _ = _; unfold begE
          rw [if_neg (by rw [HL.out, HM.out]; simp; exact hz), if_pos (.inr z4)]
        have k3 : decide ((words - 1) / 2 < (k : Int)) = false := by simpa using z3
        have k4 : decide (4294967295 < seq) = true := by simpa using z4
        clear z3 z4
        go_wp2_with fail
        refine (rroom_any at_ words h1 (by omega)).mono ?_
        rintro e w3 ⟨rfl, hb3⟩
        have HB3 := hid (Bt HB.out hb3); clear hb3
        go_wp2_with fail
        go_ret2
        exact SteP.no HE.out (by decide) (Bt HB1.out HB3.out)
      have HE : Hid (er = 0) := by
        rw [HER.out]; show _ = _; unfold begE
        rw [if_neg (by rw [HL.out, HM.out]; simp; exact hz), if_neg (by rw [HL.out]; omega)]
      have k3 : decide ((words - 1) / 2 < (k : Int)) = false := by simpa using z3
      have k4 : decide (4294967295 < seq) = false := by simpa using z4
      have HZ3 := hid z3; have HZ4 := hid z4
      clear z3 z4
      go_wp2_with fail
      refine (rroom_any at_ words h1 (by omega)).mono ?_
      rintro e w3 ⟨rfl, hb3⟩
      have HB3 := hid (Bt HB.out hb3); clear hb3
      have HX0 : Hid (∀ x ∈ xs, 0 ≤ x.1 ∧ x.1 < N) := fun x hx => by
        have := List.all_eq_true.1 HM.out x hx
        unfold mayB at this
        simp only [Bool.and_eq_true, decide_eq_true_eq] at this
        exact ⟨this.1.1, this.1.2⟩
      obtain ⟨wF, hwF⟩ : ∃ wF, wF = w3.alloc (.cells #[.int .i64 3, .int .i64 0, .int .i64 0, .slice none 0 0, .slice none 0 0] 54) := ⟨_, rfl⟩
      have HWF := hid hwF
      have HBF : Hid (Below w1.heap.size w1 wF) := by rw [hwF]; exact Ba HB3.out _
      obtain ⟨fb, hfb⟩ : ∃ fb, fb = w3.heap.size := ⟨_, rfl⟩
      have HFB := hid hfb
      have HFL : Hid (fb < wF.heap.size) := by show _ < _; rw [hwF, hfb]; simp
      have HFX : Hid (wF.heap[fb]? = some (.cells #[.int .i64 3, .int .i64 0, .int .i64 0, .slice none 0 0, .slice none 0 0] 54 (0, 0))) := by
        rw [hwF, hfb]; exact heap_alloc_new w3 _
      clear hwF hfb x0 x1
      go_wp2_with fail
      rw [← HWF.out, ← HFB.out]
      refine (rrecord_any seq (by omega) (by have := HZ4.out; omega) (H.out.on (Bt HB1.out HBF.out)) (by omega) (fun x hx => (HX0.out x hx).1)).mono ?_
      rintro e w5 ⟨rfl, hb5⟩
      obtain ⟨X, hX⟩ : ∃ X, X = recX seq xs := ⟨_, rfl⟩
      rw [← hX]
      have HXX := hid hX
      have hXl : X.length = 8 + k * 16 := by rw [hX, recX_length, HL.out]
      have HB5 := hid (Bt HBF.out hb5)
      have HR5 : Hid (∀ w', Below w5.heap.size w5 w' → w'.heap[rb]? = some (.cells #[.int .i64 at_, .int .i64 words] 25 (0, 0))) := fun w' h => HBX.out w' (Bt HB5.out h)
      have HF5 : Hid (∀ w', Below w5.heap.size w5 w' → w'.heap[fb]? = some (.cells #[.int .i64 3, .int .i64 0, .int .i64 0, .slice none 0 0, .slice none 0 0] 54 (0, 0))) := fun w' h => by
        rw [h.block _ (Nat.lt_of_lt_of_le HFL.out hb5.size), hb5.block _ HFL.out]; exact HFX.out
      have HS5 : Hid (∀ w', Below w5.heap.size w5 w' → Below w.heap.size w w') := fun w' h => Bt HB1.out (Bt HB5.out h)
      have HXl := hid hXl
      clear hX hb5 hXl
      have hmk := run_make8 8 8 rfl (by omega)
      have hcz : ∀ (W w' : World), Ext (W.alloc (.cells (zrow 8).toArray 5)) w' → (convert 22 9 (.slice (some ⟨W.heap.size, 0, none⟩) 8 8)).run Tryz.prog w' = .ok (.string ⟨(le 0 8).toArray⟩) w' := fun W w' hb => ((rd_z8 W).on hb).conv
      go_wp2_with fail
      refine reg_begin (by kernel_rfl) (fun w0b hx0b hHeld => ?_)
      have p0 : ∀ w', Ext w0b w' → w'.cell? ⟨rb, 0, none⟩ = some (.int .i64 at_) := fun w' h => by rw [row_cell (HR5.out w' (hx0b.trans h))]; rfl
      have f0 : ∀ w', Ext w0b w' → w'.cell? ⟨fb, 0, none⟩ = some (.int .i64 3) := fun w' h => by rw [row_cell (HF5.out w' (hx0b.trans h))]; rfl
      have f1 : ∀ w', Ext w0b w' → w'.cell? ⟨fb, 1, none⟩ = some (.int .i64 0) := fun w' h => by rw [row_cell (HF5.out w' (hx0b.trans h))]; rfl
      have f2 : ∀ w', Ext w0b w' → w'.cell? ⟨fb, 2, none⟩ = some (.int .i64 0) := fun w' h => by rw [row_cell (HF5.out w' (hx0b.trans h))]; rfl
      have f3 : ∀ w', Ext w0b w' → w'.cell? ⟨fb, 3, none⟩ = some (.slice none 0 0) := fun w' h => by rw [row_cell (HF5.out w' (hx0b.trans h))]; rfl
      have f4 : ∀ w', Ext w0b w' → w'.cell? ⟨fb, 4, none⟩ = some (.slice none 0 0) := fun w' h => by rw [row_cell (HF5.out w' (hx0b.trans h))]; rfl
      refine reg_take 0 (v := ?vc0) at0 (by kernel_rfl) (by kernel_rfl) (by kernel_rfl) (by rfl) ?hyc0 hHeld ?restc0
      case hyc0 => (intro w' hSw; go_simp; try with_reducible rfl)
      try simp only [Act.put, List.setIfInBounds_toArray, List.set_cons_zero, List.set_cons_succ]
      refine reg_take 1 (v := ?vc1) (atS at0) (by kernel_rfl) (by kernel_rfl) (by kernel_rfl) (by rfl) ?hyc1 hHeld ?restc1
      case hyc1 => (intro w' hSw; go_simp; try with_reducible rfl)
      try simp only [Act.put, List.setIfInBounds_toArray, List.set_cons_zero, List.set_cons_succ]
      refine reg_take 5 (v := ?vc5) (atS5 at0) (by kernel_rfl) (by kernel_rfl) (by kernel_rfl) (by rfl) ?hyc5 hHeld ?restc5
      case hyc5 => (intro w' hSw; go_simp; try with_reducible rfl)
      try simp only [Act.put, List.setIfInBounds_toArray, List.set_cons_zero, List.set_cons_succ]
      refine reg_take 6 (v := ?vc6) (atS5 (atS at0)) (by kernel_rfl) (by kernel_rfl) (by kernel_rfl) (by rfl) ?hyc6 hHeld ?restc6
      case hyc6 => (intro w' hSw; go_simp; try with_reducible rfl)
      try simp only [Act.put, List.setIfInBounds_toArray, List.set_cons_zero, List.set_cons_succ]
      refine reg_take 8 (v := ?vc8) (atS5 (atS (atS (atS at0)))) (by kernel_rfl) (by kernel_rfl) (by kernel_rfl) (by rfl) ?hyc8 hHeld ?restc8
      case hyc8 => (intro w' hSw; go_simp; try with_reducible rfl)
      try simp only [Act.put, List.setIfInBounds_toArray, List.set_cons_zero, List.set_cons_succ]
      refine wpAnyH_ready (rs := [2]) (by kernel_rfl) (by simp) ?_
      refine AllReadyH.cons (atS (atS at0)) (fun K hK => ?_) AllReadyH.nil
      go_simp
      skip
      refine hK.out _ _ (B1 _ _) (fun hHeld => ?_)
      clear hK K
      try simp only [Act.put, List.setIfInBounds_toArray, List.set_cons_zero, List.set_cons_succ]
      refine reg_on (B1 _ _) (fun hHeld => ?_)
      refine reg_take 3 (v := ?vc3) (atS (atS (atS at0))) (by kernel_rfl) (by kernel_rfl) (by kernel_rfl) (by rfl) ?hyc3 hHeld ?restc3
      case hyc3 => (intro w' hSw; go_simp; try with_reducible rfl)
      try simp only [Act.put, List.setIfInBounds_toArray, List.set_cons_zero, List.set_cons_succ]
      refine wpAnyH_ready (rs := [4]) (by kernel_rfl) (by simp) ?_
      refine AllReadyH.cons (atS (atS (atS (atS at0)))) (fun K hK => ?_) AllReadyH.nil
      go_simp
      refine (rputop2_any at_ h0 (by omega) (le 0 8) 8 (le_length _ _) (by omega)).mono ?_
      rintro e w6 ⟨q6, c6, rfl, hk6, hc6, hm6, hb6⟩
      have HK6 := hid hk6; have HC6 := hid hc6; have HM6 := hid hm6; have HB6 := hid hb6
      go_wp2_with fail
      refine hK.out _ _ HB6.out (fun hHeld => ?_)
      clear hK K
      try simp only [Act.put, List.setIfInBounds_toArray, List.set_cons_zero, List.set_cons_succ]
      refine reg_on HB6.out (fun hHeld => ?_)
      refine wpAnyH_ready (rs := [7]) (by kernel_rfl) (by simp) ?_
      refine AllReadyH.cons (atS5 (atS (atS at0))) (fun K hK => ?_) AllReadyH.nil
      go_simp
      refine (rflop2_any at_ 1 h0 (by omega) (by omega) (by omega) 8 rfl).mono ?_
      rintro e w7 ⟨rfl, hb7⟩
      have HB7 := hid hb7
      go_wp2_with fail
      refine hK.out _ _ HB7.out (fun hHeld => ?_)
      clear hK K
      try simp only [Act.put, List.setIfInBounds_toArray, List.set_cons_zero, List.set_cons_succ]
      refine reg_on HB7.out (fun hHeld => ?_)
      refine wpAnyH_ready (rs := [9]) (by kernel_rfl) (by simp) ?_
      refine AllReadyH.cons (atS5 (atS (atS (atS (atS at0))))) (fun K hK => ?_) AllReadyH.nil
      go_simp
      skip
      refine hK.out _ _ (B1 _ _) (fun hHeld => ?_)
      clear hK K
      try simp only [Act.put, List.setIfInBounds_toArray, List.set_cons_zero, List.set_cons_succ]
      refine reg_on (B1 _ _) (fun hHeld => ?_)
      refine reg_take 10 (v := ?vc10) (atS5 (atS5 at0)) (by kernel_rfl) (by kernel_rfl) (by kernel_rfl) (by rfl) ?hyc10 hHeld ?restc10
      case hyc10 => (intro w' hSw; go_simp; try with_reducible rfl)
      try simp only [Act.put, List.setIfInBounds_toArray, List.set_cons_zero, List.set_cons_succ]
      refine wpAnyH_done (by kernel_rfl) ?_ _
      refine NoPanic.normal ?_
      obtain ⟨w8, hw8⟩ : ∃ w8, w8 = w7.alloc (.cells #[.int .i64 0, .int .i64 (8 * at_), .int .i64 0, .slice (some ⟨q6, 0, none⟩) 8 c6, .slice none 0 0, .int .i64 2, .int .i64 (8 * at_), .int .i64 8, .slice none 0 0, .slice none 0 0, .int .i64 3, .int .i64 0, .int .i64 0, .slice none 0 0, .slice none 0 0] 54) := ⟨_, rfl⟩
      rw [← hw8]
      have hb57 : Below w5.heap.size w5 w7 := Bt (Bt (Bt hx0b (B1 _ _)) HB6.out) HB7.out
      have HB8 : Hid (Below w5.heap.size w5 w8) := by rw [hw8]; exact Ba hb57 _
      obtain ⟨rw8, hr8⟩ : ∃ rw8, rw8 = w7.heap.size := ⟨_, rfl⟩
      rw [← hr8]
      have hlow : w.heap.size ≤ w5.heap.size := Nat.le_trans HB1.out.size HB5.out.size
      have HLOW := hid hlow
      have HST : Hid (StO w8 w.heap.size w5.heap.size (.slice (some ⟨rw8, 0, none⟩) 3 3) (saveS at_ (le 0 8) ++ saveP (at_ + 1) (bodyL xs) 0)) := by
        have hq : w8.heap[rw8]? = some (.cells (cellsO [putO at_ (some ⟨q6, 0, none⟩) c6 (le 0 8), flO at_ 1, feO]).toArray 54 (0, 0)) := by
          rw [hw8, hr8]; exact heap_alloc_new w7 _
        have e : saveS at_ (le 0 8) ++ saveP (at_ + 1) (bodyL xs) 0 = [.wr at_ (le 0 8), .fl at_ 1, .fe] := by rw [save_one at_ (le_length _ _)]; rfl
        rw [e]
        have hbk : Bk w8 w.heap.size q6 (le 0 8) := by
          have h1 := HK6.out
          have h2 : Below w6.heap.size w6 w8 := by rw [hw8]; exact Ba HB7.out _
          obtain ⟨a1, cs, f, a2, a3⟩ := h1
          exact ⟨by have := hx0b.size; simp at a1; omega, cs, f, (h2.block _ (blk_lt a2)).trans a2, a3⟩
        refine StO.new (m := 3) rfl (by omega) hq (by rw [hr8]; exact hb57.size) rfl (fun i s hi => ?_)
        match i, hi with
        | 0, hi => cases hi; exact ⟨_, rfl, q6, c6, rfl, by rw [le_length]; exact HC6.out, HM6.out, hbk⟩
        | 1, hi => cases hi; exact ⟨_, rfl, rfl⟩
        | 2, hi => cases hi; exact ⟨_, rfl, rfl⟩
      clear hw8 hr8 hb57 hlow hmk hcz p0 f0 f1 f2 f3 f4
      obtain ⟨bd, hbd⟩ : ∃ bd, bd = bodyL xs := ⟨_, rfl⟩
      have HBD := hid hbd
      have HBDl : Hid (bd.length = k * 16) := by show _ = _; rw [hbd, bodyL_length, HL.out]
      rw [← hbd] at HST
      clear hbd
      go_wp2_with fail
      go_loopw [13, 14] (fun v i wr => ∃ (j Z : Nat), j ≤ k * 2 ∧ Hid (Z = 8 + j * 8) ∧ Z ≤ 2000 ∧ i = .int .i64 Z ∧ Hid (StO wr w.heap.size w5.heap.size v (saveS at_ (le 0 8) ++ saveP (at_ + 1) bd j)) ∧ Hid (Below w5.heap.size w5 wr)) (fun _ i _ => k * 16 + 8 - (intOf i).toNat)
      case atStart => exact ⟨0, 8, by omega, hid (by simp), by omega, rfl, HST, HB8⟩
      case round =>
        obtain ⟨j, Z, hj, HZ, hZm, rfl, HO, HBj⟩ := hrel
        rename_i v
        by_cases hlt : j < k * 2
        · have d3 : decide ((Z : Int) < (X.length : Int)) = true := by have := HZ.out; have := HXl.out; simp; omega
          have hlt3 : (Z : Int) < (X.length : Int) := by simpa using d3
          have q1 : IntKind.i64.wrap ((Z : Int) + 8) = (Z : Int) + 8 := by rw [IntKind.wrap_i64]; omega
          obtain ⟨J, hJ⟩ : ∃ J : Nat, J = j + 1 := ⟨_, rfl⟩
          obtain ⟨Pz, hPz⟩ : ∃ Pz : Int, Pz = at_ + (J : Int) := ⟨_, rfl⟩
          have q2 : (Z : Int).tdiv 8 = (J : Int) := by rw [Int.tdiv_eq_ediv_of_nonneg (by omega)]; have := HZ.out; omega
          have q2' : (Z : Int) / 8 = (J : Int) := by have := HZ.out; omega
          have q2w : IntKind.i64.wrap (J : Int) = (J : Int) := by rw [IntKind.wrap_i64]; omega
          have q3 : IntKind.i64.wrap (at_ + (J : Int)) = Pz := by rw [IntKind.wrap_i64]; omega
          have hP0 : 0 ≤ Pz := by omega
          have hP1 : Pz ≤ 8192 := by have := HZ3.out; omega
          have HPz : Hid (Pz = at_ + 1 + (j : Int)) := by show _ = _; omega
          clear hJ hPz
          obtain ⟨x, hx⟩ : ∃ x, x = (bd.drop (j * 8)).take 8 := ⟨_, rfl⟩
          have hxe : (⟨X.toArray⟩ : ByteArray).extract Z (Z + 8) = ⟨x.toArray⟩ := by
            rw [ext_at, hx, HBD.out, ← recX_body seq xs j, ← HXX.out]; congr 2; rw [HZ.out, List.drop_take]; simp
          have hx8 : x.length = 8 := by rw [hx]; simp; have := HBDl.out; omega
          have hle : (Z : Int) + 8 ≤ (X.length : Int) := by have := HZ.out; have := HXl.out; omega
          have hle2 : Z + 8 ≤ X.length := by omega
          have htn : ((Z : Int) + 8).toNat = Z + 8 := by omega
          have h0z : 0 ≤ (Z : Int) + 8 := by omega
          have hz8 : (Z : Int) ≤ (Z : Int) + 8 := by omega
          have HXd := hid hx
          clear hx
          go_wp2_with fail
          refine reg_beginB (w5.heap.size) (by kernel_rfl) (fun w0c hh0c hx0c hHeld => ?_)
          have p0 : ∀ w', ExB w5.heap.size w0c w' → w'.cell? ⟨rb, 0, none⟩ = some (.int .i64 at_) := fun w' h => by rw [row_cell (HR5.out w' ((HBj.out.trans hx0c).trans h))]; rfl
          refine reg_takeB 0 (v := ?vd0) at0 (by kernel_rfl) (by kernel_rfl) (by kernel_rfl) (by rfl) ?hyd0 hHeld ?restd0
          case hyd0 => (intro w' hSw; go_simp; try with_reducible rfl)
          try simp only [Act.put, List.setIfInBounds_toArray, List.set_cons_zero, List.set_cons_succ]
          refine reg_takeB 1 (v := ?vd1) (atS at0) (by kernel_rfl) (by kernel_rfl) (by kernel_rfl) (by rfl) ?hyd1 hHeld ?restd1
          case hyd1 => (intro w' hSw; go_simp; try with_reducible rfl)
          try simp only [Act.put, List.setIfInBounds_toArray, List.set_cons_zero, List.set_cons_succ]
          refine reg_takeB 2 (v := ?vd2) (atS (atS at0)) (by kernel_rfl) (by kernel_rfl) (by kernel_rfl) (by rfl) ?hyd2 hHeld ?restd2
          case hyd2 => (intro w' hSw; go_simp; try with_reducible rfl)
          try simp only [Act.put, List.setIfInBounds_toArray, List.set_cons_zero, List.set_cons_succ]
          refine reg_takeB 3 (v := ?vd3) (atS (atS (atS at0))) (by kernel_rfl) (by kernel_rfl) (by kernel_rfl) (by rfl) ?hyd3 hHeld ?restd3
          case hyd3 => (intro w' hSw; go_simp; try with_reducible rfl)
          try simp only [Act.put, List.setIfInBounds_toArray, List.set_cons_zero, List.set_cons_succ]
          refine reg_takeB 4 (v := ?vd4) (atS (atS (atS (atS at0)))) (by kernel_rfl) (by kernel_rfl) (by kernel_rfl) (by rfl) ?hyd4 hHeld ?restd4
          case hyd4 => (intro w' hSw; go_simp; try with_reducible rfl)
          try simp only [Act.put, List.setIfInBounds_toArray, List.set_cons_zero, List.set_cons_succ]
          refine reg_takeB 5 (v := ?vd5) (atS5 at0) (by kernel_rfl) (by kernel_rfl) (by kernel_rfl) (by rfl) ?hyd5 hHeld ?restd5
          case hyd5 => (intro w' hSw; go_simp; try with_reducible rfl)
          try simp only [Act.put, List.setIfInBounds_toArray, List.set_cons_zero, List.set_cons_succ]
          refine reg_takeB 6 (v := ?vd6) (atS5 (atS at0)) (by kernel_rfl) (by kernel_rfl) (by kernel_rfl) (by rfl) ?hyd6 hHeld ?restd6
          case hyd6 => (intro w' hSw; go_simp; try with_reducible rfl)
          try simp only [Act.put, List.setIfInBounds_toArray, List.set_cons_zero, List.set_cons_succ]
          refine reg_takeB 7 (v := ?vd7) (atS5 (atS (atS at0))) (by kernel_rfl) (by kernel_rfl) (by kernel_rfl) (by rfl) ?hyd7 hHeld ?restd7
          case hyd7 => (intro w' hSw; go_simp; try with_reducible rfl)
          try simp only [Act.put, List.setIfInBounds_toArray, List.set_cons_zero, List.set_cons_succ]
          refine reg_takeB 8 (v := ?vd8) (atS5 (atS (atS (atS at0)))) (by kernel_rfl) (by kernel_rfl) (by kernel_rfl) (by rfl) ?hyd8 hHeld ?restd8
          case hyd8 => (intro w' hSw; go_simp; try with_reducible rfl)
          try simp only [Act.put, List.setIfInBounds_toArray, List.set_cons_zero, List.set_cons_succ]
          refine reg_takeB 9 (v := ?vd9) (atS5 (atS (atS (atS (atS at0))))) (by kernel_rfl) (by kernel_rfl) (by kernel_rfl) (by rfl) ?hyd9 hHeld ?restd9
          case hyd9 => (intro w' hSw; go_simp; try with_reducible rfl)
          try simp only [Act.put, List.setIfInBounds_toArray, List.set_cons_zero, List.set_cons_succ]
          refine reg_takeB 10 (v := ?vd10) (atS5 (atS5 at0)) (by kernel_rfl) (by kernel_rfl) (by kernel_rfl) (by rfl) ?hyd10 hHeld ?restd10
          case hyd10 => (intro w' hSw; go_simp; try with_reducible rfl)
          try simp only [Act.put, List.setIfInBounds_toArray, List.set_cons_zero, List.set_cons_succ]
          refine wpAnyH_ready (rs := [11]) (by kernel_rfl) (by simp) ?_
          refine AllReadyH.cons (atS5 (atS5 (atS at0))) (fun K hK => ?_) AllReadyH.nil
          go_simp
          refine (rputop2_any Pz hP0 hP1 x 8 hx8 (by omega)).mono ?_
          rintro e w9 ⟨q9, c9, rfl, hk9, hc9, hm9, hb9⟩
          have HB9 := hid hb9
          have hBs := Nat.le_trans (HBj.out.trans hx0c).size hb9.size
          obtain ⟨v', w10, hrun, hown, hbw⟩ := appO (cs := #[.int .i64 0, .int .i64 (8 * Pz), .int .i64 0, .slice (some ⟨q9, 0, none⟩) 8 c9, .slice none 0 0]) (news := [putO Pz (some ⟨q9, 0, none⟩) c9 x]) (ss' := [.wr Pz x]) (m := 1) ((HO.out.heapEq hh0c.out).on hb9) hBs (by rw [List.length_append, save_one at_ (le_length _ _), saveP_length]; simp; omega) rfl (by omega) rfl (by simp [cellsO, cellsP, putO, hx8]) (fun i s hi => by
          match i, hi with
          | 0, hi => cases hi; exact ⟨_, rfl, q9, c9, rfl, by rw [hx8]; exact hc9, hm9, hk9.less (Nat.le_trans HLOW.out (HBj.out.trans hx0c).size)⟩) 23
          have HOW := hid hown; have HBS := hid hBs
          have HBW : Hid (Below w5.heap.size w5 w10) := ((HBj.out.trans hx0c).trans (hb9.mono (HBj.out.trans hx0c).size)).trans (((Below.refl _ _).alloc hBs _).trans hbw)
          clear hk9 hc9 hm9 hb9 hown hBs
          go_wp2_with fail
          refine hK.out _ _ (HB9.out.mono (HBj.out.trans hx0c).size) (fun hHeld => ?_)
          clear hK K
          try simp only [Act.put, List.setIfInBounds_toArray, List.set_cons_zero, List.set_cons_succ]
          refine reg_onB (HB9.out.mono (HBj.out.trans hx0c).size) (fun hHeld => ?_)
          refine wpAnyH_ready (rs := [12]) (by kernel_rfl) (by simp) ?_
          refine AllReadyH.cons (atS5 (atS5 (atS (atS at0)))) (fun K hK => ?_) AllReadyH.nil
          go_simp
          skip
          refine hK.out _ _ ((Below.refl _ _).alloc HBS.out _) (fun hHeld => ?_)
          clear hK K
          try simp only [Act.put, List.setIfInBounds_toArray, List.set_cons_zero, List.set_cons_succ]
          refine reg_onB ((Below.refl _ _).alloc HBS.out _) (fun hHeld => ?_)
          refine wpAnyH_ready (rs := [13]) (by kernel_rfl) (by simp) ?_
          refine AllReadyH.cons (atS5 (atS5 (atS (atS (atS at0))))) (fun K hK => ?_) AllReadyH.nil
          refine step_appO (by rfl) (.tmp 62) (.tmp 74) (by rfl) (by rfl) (by rfl) hrun ?_
          refine hK.out _ _ hbw (fun hHeld => ?_)
          clear hK K
          try simp only [Act.put, List.setIfInBounds_toArray, List.set_cons_zero, List.set_cons_succ]
          refine reg_onB hbw (fun hHeld => ?_)
          refine reg_takeB 14 (v := ?vd14) (atS5 (atS5 (atS (atS (atS (atS at0)))))) (by kernel_rfl) (by kernel_rfl) (by kernel_rfl) (by rfl) ?hyd14 hHeld ?restd14
          case hyd14 => (intro w' hSw; go_simp; try with_reducible rfl)
          try simp only [Act.put, List.setIfInBounds_toArray, List.set_cons_zero, List.set_cons_succ]
          refine wpAnyH_done (by kernel_rfl) ?_ _
          refine NoPanic.normal ?_
          clear hrun hbw p0
          go_wp2_with fail
          go_roundw
          case rel => exact ⟨j + 1, Z + 8, by omega, hid (by have := HZ.out; omega), by have := HZ.out; omega, by simp, hid (by rw [saveP_succ, ← HXd.out, ← HPz.out, ← List.append_assoc]; exact HOW.out), HBW⟩
          case measure => have := HZ.out; simp [intOf]; omega
        · obtain rfl : j = k * 2 := by omega
          have d3 : decide ((Z : Int) < (X.length : Int)) = false := by have := HZ.out; have := HXl.out; simp; omega
          have d4 : ¬ Z < X.length := by have := HZ.out; have := HXl.out; omega
          clear hlt hj
          obtain ⟨M, hM⟩ : ∃ M : Nat, M = k * 2 := ⟨_, rfl⟩
          obtain ⟨hd, hhd⟩ : ∃ hd, hd = headL xs.length seq (bodyL xs) := ⟨_, rfl⟩
          have hd8 : hd.length = 8 := by rw [hhd, headL_length]
          have hxe : (⟨X.toArray⟩ : ByteArray).extract 0 8 = ⟨hd.toArray⟩ := by
            rw [ext_at, hhd, ← recX_head seq xs, ← HXX.out]; simp
          have hx88 : 8 ≤ X.length := by have := HXl.out; omega
          have hx88' : (8 : Int) ≤ (X.length : Int) := by omega
          have q4 : IntKind.i64.wrap (at_ + 1) = at_ + 1 := by rw [IntKind.wrap_i64]; omega
          have q5 : IntKind.i64.wrap (2 * (k : Int)) = (M : Int) := by rw [IntKind.wrap_i64]; omega
          rw [← hM] at HO
          have HMM := hid hM; have HHD := hid hhd
          have hM1 : (M : Int) ≤ 100 := by omega
          clear hM hhd
          go_wp2_with fail
          refine reg_beginB (w5.heap.size) (by kernel_rfl) (fun w0d hh0d hx0d hHeld => ?_)
          have p0 : ∀ w', ExB w5.heap.size w0d w' → w'.cell? ⟨rb, 0, none⟩ = some (.int .i64 at_) := fun w' h => by rw [row_cell (HR5.out w' ((HBj.out.trans hx0d).trans h))]; rfl
          have f0 : ∀ w', ExB w5.heap.size w0d w' → w'.cell? ⟨fb, 0, none⟩ = some (.int .i64 3) := fun w' h => by rw [row_cell (HF5.out w' ((HBj.out.trans hx0d).trans h))]; rfl
          have f1 : ∀ w', ExB w5.heap.size w0d w' → w'.cell? ⟨fb, 1, none⟩ = some (.int .i64 0) := fun w' h => by rw [row_cell (HF5.out w' ((HBj.out.trans hx0d).trans h))]; rfl
          have f2 : ∀ w', ExB w5.heap.size w0d w' → w'.cell? ⟨fb, 2, none⟩ = some (.int .i64 0) := fun w' h => by rw [row_cell (HF5.out w' ((HBj.out.trans hx0d).trans h))]; rfl
          have f3 : ∀ w', ExB w5.heap.size w0d w' → w'.cell? ⟨fb, 3, none⟩ = some (.slice none 0 0) := fun w' h => by rw [row_cell (HF5.out w' ((HBj.out.trans hx0d).trans h))]; rfl
          have f4 : ∀ w', ExB w5.heap.size w0d w' → w'.cell? ⟨fb, 4, none⟩ = some (.slice none 0 0) := fun w' h => by rw [row_cell (HF5.out w' ((HBj.out.trans hx0d).trans h))]; rfl
          have HBD0 := hid (HBj.out.trans hx0d)
          have HO0 := hid (HO.out.heapEq hh0d.out)
          refine reg_takeB 0 (v := ?ve0) at0 (by kernel_rfl) (by kernel_rfl) (by kernel_rfl) (by rfl) ?hye0 hHeld ?reste0
          case hye0 => (intro w' hSw; go_simp; try with_reducible rfl)
          try simp only [Act.put, List.setIfInBounds_toArray, List.set_cons_zero, List.set_cons_succ]
          refine reg_takeB 1 (v := ?ve1) (atS at0) (by kernel_rfl) (by kernel_rfl) (by kernel_rfl) (by rfl) ?hye1 hHeld ?reste1
          case hye1 => (intro w' hSw; go_simp; try with_reducible rfl)
          try simp only [Act.put, List.setIfInBounds_toArray, List.set_cons_zero, List.set_cons_succ]
          refine reg_takeB 2 (v := ?ve2) (atS (atS at0)) (by kernel_rfl) (by kernel_rfl) (by kernel_rfl) (by rfl) ?hye2 hHeld ?reste2
          case hye2 => (intro w' hSw; go_simp; try with_reducible rfl)
          try simp only [Act.put, List.setIfInBounds_toArray, List.set_cons_zero, List.set_cons_succ]
          refine reg_takeB 3 (v := ?ve3) (atS (atS (atS at0))) (by kernel_rfl) (by kernel_rfl) (by kernel_rfl) (by rfl) ?hye3 hHeld ?reste3
          case hye3 => (intro w' hSw; go_simp; try with_reducible rfl)
          try simp only [Act.put, List.setIfInBounds_toArray, List.set_cons_zero, List.set_cons_succ]
          refine reg_takeB 4 (v := ?ve4) (atS (atS (atS (atS at0)))) (by kernel_rfl) (by kernel_rfl) (by kernel_rfl) (by rfl) ?hye4 hHeld ?reste4
          case hye4 => (intro w' hSw; go_simp; try with_reducible rfl)
          try simp only [Act.put, List.setIfInBounds_toArray, List.set_cons_zero, List.set_cons_succ]
          refine reg_takeB 5 (v := ?ve5) (atS5 at0) (by kernel_rfl) (by kernel_rfl) (by kernel_rfl) (by rfl) ?hye5 hHeld ?reste5
          case hye5 => (intro w' hSw; go_simp; try with_reducible rfl)
          try simp only [Act.put, List.setIfInBounds_toArray, List.set_cons_zero, List.set_cons_succ]
          refine reg_takeB 6 (v := ?ve6) (atS5 (atS at0)) (by kernel_rfl) (by kernel_rfl) (by kernel_rfl) (by rfl) ?hye6 hHeld ?reste6
          case hye6 => (intro w' hSw; go_simp; try with_reducible rfl)
          try simp only [Act.put, List.setIfInBounds_toArray, List.set_cons_zero, List.set_cons_succ]
          refine reg_takeB 8 (v := ?ve8) (atS5 (atS (atS (atS at0)))) (by kernel_rfl) (by kernel_rfl) (by kernel_rfl) (by rfl) ?hye8 hHeld ?reste8
          case hye8 => (intro w' hSw; go_simp; try with_reducible rfl)
          try simp only [Act.put, List.setIfInBounds_toArray, List.set_cons_zero, List.set_cons_succ]
          refine reg_takeB 9 (v := ?ve9) (atS5 (atS (atS (atS (atS at0))))) (by kernel_rfl) (by kernel_rfl) (by kernel_rfl) (by rfl) ?hye9 hHeld ?reste9
          case hye9 => (intro w' hSw; go_simp; try with_reducible rfl)
          try simp only [Act.put, List.setIfInBounds_toArray, List.set_cons_zero, List.set_cons_succ]
          refine reg_takeB 10 (v := ?ve10) (atS5 (atS5 at0)) (by kernel_rfl) (by kernel_rfl) (by kernel_rfl) (by rfl) ?hye10 hHeld ?reste10
          case hye10 => (intro w' hSw; go_simp; try with_reducible rfl)
          try simp only [Act.put, List.setIfInBounds_toArray, List.set_cons_zero, List.set_cons_succ]
          refine reg_takeB 11 (v := ?ve11) (atS5 (atS5 (atS at0))) (by kernel_rfl) (by kernel_rfl) (by kernel_rfl) (by rfl) ?hye11 hHeld ?reste11
          case hye11 => (intro w' hSw; go_simp; try with_reducible rfl)
          try simp only [Act.put, List.setIfInBounds_toArray, List.set_cons_zero, List.set_cons_succ]
          refine reg_takeB 12 (v := ?ve12) (atS5 (atS5 (atS (atS at0)))) (by kernel_rfl) (by kernel_rfl) (by kernel_rfl) (by rfl) ?hye12 hHeld ?reste12
          case hye12 => (intro w' hSw; go_simp; try with_reducible rfl)
          try simp only [Act.put, List.setIfInBounds_toArray, List.set_cons_zero, List.set_cons_succ]
          refine reg_takeB 14 (v := ?ve14) (atS5 (atS5 (atS (atS (atS (atS at0)))))) (by kernel_rfl) (by kernel_rfl) (by kernel_rfl) (by rfl) ?hye14 hHeld ?reste14
          case hye14 => (intro w' hSw; go_simp; try with_reducible rfl)
          try simp only [Act.put, List.setIfInBounds_toArray, List.set_cons_zero, List.set_cons_succ]
          refine reg_takeB 15 (v := ?ve15) (atS5 (atS5 (atS5 at0))) (by kernel_rfl) (by kernel_rfl) (by kernel_rfl) (by rfl) ?hye15 hHeld ?reste15
          case hye15 => (intro w' hSw; go_simp; try with_reducible rfl)
          try simp only [Act.put, List.setIfInBounds_toArray, List.set_cons_zero, List.set_cons_succ]
          refine reg_takeB 17 (v := ?ve17) (atS5 (atS5 (atS5 (atS (atS at0))))) (by kernel_rfl) (by kernel_rfl) (by kernel_rfl) (by rfl) ?hye17 hHeld ?reste17
          case hye17 => (intro w' hSw; go_simp; try with_reducible rfl)
          try simp only [Act.put, List.setIfInBounds_toArray, List.set_cons_zero, List.set_cons_succ]
          refine wpAnyH_ready (rs := [7]) (by kernel_rfl) (by simp) ?_
          refine AllReadyH.cons (atS5 (atS (atS at0))) (fun K hK => ?_) AllReadyH.nil
          go_simp
          refine (rflop2_any (at_ + 1) M (by omega) (by omega) (by omega) (by omega) (8 * (M : Int)) rfl).mono ?_
          rintro e w9 ⟨rfl, hb9⟩
          have HB9 := hid hb9
          have HBD1 := hid (HBD0.out.trans (hb9.mono HBD0.out.size)); have HO1 := hid (HO0.out.on hb9)
          go_wp2_with fail
          refine hK.out _ _ (HB9.out.mono HBD0.out.size) (fun hHeld => ?_)
          clear hK K
          try simp only [Act.put, List.setIfInBounds_toArray, List.set_cons_zero, List.set_cons_succ]
          refine reg_onB (HB9.out.mono HBD0.out.size) (fun hHeld => ?_)
          refine wpAnyH_ready (rs := [13]) (by kernel_rfl) (by simp) ?_
          refine AllReadyH.cons (atS5 (atS5 (atS (atS (atS at0))))) (fun K hK => ?_) AllReadyH.nil
          go_simp
          refine (rputop2_any at_ h0 (by omega) hd 8 hd8 (by omega)).mono ?_
          rintro e w10 ⟨q10, c10, rfl, hk10, hc10, hm10, hb10⟩
          have HB10 := hid hb10; have HK10 := hid hk10; have HC10 := hid hc10; have HM10 := hid hm10
          have HBD2 := hid (HBD1.out.trans (hb10.mono HBD1.out.size)); have HO2 := hid (HO1.out.on hb10)
          go_wp2_with fail
          refine hK.out _ _ (HB10.out.mono HBD1.out.size) (fun hHeld => ?_)
          clear hK K
          try simp only [Act.put, List.setIfInBounds_toArray, List.set_cons_zero, List.set_cons_succ]
          refine reg_onB (HB10.out.mono HBD1.out.size) (fun hHeld => ?_)
          refine wpAnyH_ready (rs := [16]) (by kernel_rfl) (by simp) ?_
          refine AllReadyH.cons (atS5 (atS5 (atS5 (atS at0)))) (fun K hK => ?_) AllReadyH.nil
          go_simp
          refine (rflop2_any at_ 1 h0 (by omega) (by omega) (by omega) 8 rfl).mono ?_
          rintro e w11 ⟨rfl, hb11⟩
          have HB11 := hid hb11
          have HBD3 := hid (HBD2.out.trans (hb11.mono HBD2.out.size))
          obtain ⟨v', w12, hrun, hown, hbw⟩ := appO (cs := #[.int .i64 2, .int .i64 (8 * (at_ + 1)), .int .i64 (8 * (M : Int)), .slice none 0 0, .slice none 0 0, .int .i64 3, .int .i64 0, .int .i64 0, .slice none 0 0, .slice none 0 0, .int .i64 0, .int .i64 (8 * at_), .int .i64 0, .slice (some ⟨q10, 0, none⟩) 8 c10, .slice none 0 0, .int .i64 2, .int .i64 (8 * at_), .int .i64 8, .slice none 0 0, .slice none 0 0, .int .i64 3, .int .i64 0, .int .i64 0, .slice none 0 0, .slice none 0 0]) (news := [flO (at_ + 1) M, feO, putO at_ (some ⟨q10, 0, none⟩) c10 hd, flO at_ 1, feO]) (ss' := [.fl (at_ + 1) M, .fe, .wr at_ hd, .fl at_ 1, .fe]) (m := 5) (HO2.out.on hb11) HBD3.out.size (by rw [List.length_append, save_one at_ (le_length _ _), saveP_length]; simp; omega) rfl (by omega) rfl (by simp [cellsO, cellsP, putO, flO, feO, hd8]) (fun i s hi => by
          match i, hi with
          | 0, hi => cases hi; exact ⟨_, rfl, rfl⟩
          | 1, hi => cases hi; exact ⟨_, rfl, rfl⟩
          | 2, hi => cases hi; exact ⟨_, rfl, q10, c10, rfl, by rw [hd8]; exact HC10.out, HM10.out, (HK10.out.less (Nat.le_trans HLOW.out HBD1.out.size)).on hb11⟩
          | 3, hi => cases hi; exact ⟨_, rfl, rfl⟩
          | 4, hi => cases hi; exact ⟨_, rfl, rfl⟩) 23
          have HOW := hid hown
          have HBW : Hid (Below w5.heap.size w5 w12) := HBD3.out.trans (((Below.refl _ _).alloc HBD3.out.size _).trans hbw)
          clear hb11 hown
          go_wp2_with fail
          refine hK.out _ _ (HB11.out.mono HBD2.out.size) (fun hHeld => ?_)
          clear hK K
          try simp only [Act.put, List.setIfInBounds_toArray, List.set_cons_zero, List.set_cons_succ]
          refine reg_onB (HB11.out.mono HBD2.out.size) (fun hHeld => ?_)
          refine wpAnyH_ready (rs := [18]) (by kernel_rfl) (by simp) ?_
          refine AllReadyH.cons (atS5 (atS5 (atS5 (atS (atS (atS at0)))))) (fun K hK => ?_) AllReadyH.nil
          go_simp
          skip
          refine hK.out _ _ ((Below.refl _ _).alloc HBD3.out.size _) (fun hHeld => ?_)
          clear hK K
          try simp only [Act.put, List.setIfInBounds_toArray, List.set_cons_zero, List.set_cons_succ]
          refine reg_onB ((Below.refl _ _).alloc HBD3.out.size _) (fun hHeld => ?_)
          refine wpAnyH_ready (rs := [19]) (by kernel_rfl) (by simp) ?_
          refine AllReadyH.cons (atS5 (atS5 (atS5 (atS (atS (atS (atS at0))))))) (fun K hK => ?_) AllReadyH.nil
          refine step_appO (by rfl) (.tmp 76) (.tmp 94) (by rfl) (by rfl) (by rfl) hrun ?_
          refine hK.out _ _ hbw (fun hHeld => ?_)
          clear hK K
          try simp only [Act.put, List.setIfInBounds_toArray, List.set_cons_zero, List.set_cons_succ]
          refine reg_onB hbw (fun hHeld => ?_)
          refine reg_takeB 20 (v := ?ve20) (atS5 (atS5 (atS5 (atS5 at0)))) (by kernel_rfl) (by kernel_rfl) (by kernel_rfl) (by rfl) ?hye20 hHeld ?reste20
          case hye20 => (intro w' hSw; go_simp; try with_reducible rfl)
          try simp only [Act.put, List.setIfInBounds_toArray, List.set_cons_zero, List.set_cons_succ]
          refine wpAnyH_done (by kernel_rfl) ?_ _
          refine NoPanic.normal ?_
          clear hrun hbw p0 f0 f1 f2 f3 f4 hxe hx88 hx88' q4 q5
          obtain ⟨pre, hpre⟩ : ∃ pre, pre = saveS at_ (le 0 8) ++ saveP (at_ + 1) bd M ++ [.fl (at_ + 1) M, .fe, .wr at_ hd, .fl at_ 1, .fe] := ⟨_, rfl⟩
          have hprel : pre.length ≤ 200 := by rw [hpre, List.length_append, List.length_append, save_one at_ (le_length _ _), saveP_length]; simp; omega
          have HPL := hid hprel
          have HPRE : Hid (allS at_ seq xs = pre ++ bringP xs ++ [.fe]) := by
            show _ = _
            rw [allS_eq at_ seq xs (M := M) (by rw [← HBD.out, HBDl.out, HMM.out]; omega), hpre, HHD.out, HBD.out]
          rw [← hpre] at HOW
          clear hpre hprel
          go_wp2_with fail
          go_loopw [13, 15] (fun v i wr => ∃ t : Nat, t ≤ k ∧ i = .int .i64 t ∧ Hid (StO wr w.heap.size w5.heap.size v (pre ++ bringP (xs.take t))) ∧ Hid (Below w5.heap.size w5 wr)) (fun _ i _ => k - (intOf i).toNat)
          case atStart => exact ⟨0, by omega, rfl, hid (by simp [bringP]; exact HOW.out), HBW⟩
          case round =>
            obtain ⟨t, ht, rfl, HOt, HBt⟩ := hrel
            rename_i v
            by_cases hlt : t < k
            · have htl : t < xs.length := by have := HL.out; omega
              obtain ⟨b, off, rfl, hbl, hc⟩ := H.out.2.2.2.2 (by omega)
              obtain ⟨⟨x1, x2⟩, hx⟩ : ∃ x, x = xs[t] := ⟨_, rfl⟩
              have HXk : Hid (xs[t]? = some (x1, x2)) := by show _ = _; rw [hx]; exact List.getElem?_eq_getElem htl
              have hxm : (x1, x2) ∈ xs := by rw [hx]; exact List.getElem_mem _
              have HU2 : Hid (U64 x2) := (HXO.out _ hxm).2
              have hxx := HX0.out _ hxm
              have hx0 : 0 ≤ x1 := hxx.1
              have hx1 : x1 ≤ 8192 := by have := HN.out; have := hxx.2; simp only at this; omega
              have hc1 := (hc t htl).1; have hc2 := (hc t htl).2
              rw [← hx] at hc1 hc2
              simp only at hc1 hc2
              have HC1 : Hid (∀ w', Below w.heap.size w w' → w'.cell? ⟨b, off + t * 2, none⟩ = some (.int .i64 x1)) := fun w' h => (h.cell (p := ⟨b, off + t * 2, none⟩) hbl).trans hc1
              have HC2 : Hid (∀ w', Below w.heap.size w w' → w'.cell? ⟨b, off + t * 2 + 1, none⟩ = some (.int .u64 x2)) := fun w' h => (h.cell (p := ⟨b, off + t * 2 + 1, none⟩) hbl).trans hc2
              have ht0 : (0 : Int) ≤ t := by omega
              have htn : (t : Int) < k := by omega
              have htt : ((t : Int)).toNat = t := by omega
              clear hc hc1 hc2 hx hxm htl hxx
              go_wp2_with fail
              refine reg_beginB (w5.heap.size) (by kernel_rfl) (fun w0e hh0e hx0e hHeld => ?_)
              have HBD0 := hid (HBt.out.trans hx0e)
              have HO0 := hid (HOt.out.heapEq hh0e.out)
              have p1 : ∀ w', ExB w5.heap.size w0e w' → w'.cell? ⟨b, off + t * 2, none⟩ = some (.int .i64 x1) := fun w' h => HC1.out w' (HS5.out w' (HBD0.out.trans h))
              have p2 : ∀ w', ExB w5.heap.size w0e w' → w'.cell? ⟨b, off + t * 2 + 1, none⟩ = some (.int .u64 x2) := fun w' h => HC2.out w' (HS5.out w' (HBD0.out.trans h))
              refine reg_takeB 0 (v := ?vf0) at0 (by kernel_rfl) (by kernel_rfl) (by kernel_rfl) (by rfl) ?hyf0 hHeld ?restf0
              case hyf0 => (intro w' hSw; go_simp; try with_reducible rfl)
              try simp only [Act.put, List.setIfInBounds_toArray, List.set_cons_zero, List.set_cons_succ]
              refine reg_takeB 1 (v := ?vf1) (atS at0) (by kernel_rfl) (by kernel_rfl) (by kernel_rfl) (by rfl) ?hyf1 hHeld ?restf1
              case hyf1 => (intro w' hSw; go_simp; try with_reducible rfl)
              try simp only [Act.put, List.setIfInBounds_toArray, List.set_cons_zero, List.set_cons_succ]
              refine reg_takeB 2 (v := ?vf2) (atS (atS at0)) (by kernel_rfl) (by kernel_rfl) (by kernel_rfl) (by rfl) ?hyf2 hHeld ?restf2
              case hyf2 => (intro w' hSw; go_simp; try with_reducible rfl)
              try simp only [Act.put, List.setIfInBounds_toArray, List.set_cons_zero, List.set_cons_succ]
              refine reg_takeB 3 (v := ?vf3) (atS (atS (atS at0))) (by kernel_rfl) (by kernel_rfl) (by kernel_rfl) (by rfl) ?hyf3 hHeld ?restf3
              case hyf3 => (intro w' hSw; go_simp; try with_reducible rfl)
              try simp only [Act.put, List.setIfInBounds_toArray, List.set_cons_zero, List.set_cons_succ]
              refine reg_takeB 4 (v := ?vf4) (atS (atS (atS (atS at0)))) (by kernel_rfl) (by kernel_rfl) (by kernel_rfl) (by rfl) ?hyf4 hHeld ?restf4
              case hyf4 => (intro w' hSw; go_simp; try with_reducible rfl)
              try simp only [Act.put, List.setIfInBounds_toArray, List.set_cons_zero, List.set_cons_succ]
              refine reg_takeB 5 (v := ?vf5) (atS5 at0) (by kernel_rfl) (by kernel_rfl) (by kernel_rfl) (by rfl) ?hyf5 hHeld ?restf5
              case hyf5 => (intro w' hSw; go_simp; try with_reducible rfl)
              try simp only [Act.put, List.setIfInBounds_toArray, List.set_cons_zero, List.set_cons_succ]
              refine reg_takeB 6 (v := ?vf6) (atS5 (atS at0)) (by kernel_rfl) (by kernel_rfl) (by kernel_rfl) (by rfl) ?hyf6 hHeld ?restf6
              case hyf6 => (intro w' hSw; go_simp; try with_reducible rfl)
              try simp only [Act.put, List.setIfInBounds_toArray, List.set_cons_zero, List.set_cons_succ]
              refine reg_takeB 7 (v := ?vf7) (atS5 (atS (atS at0))) (by kernel_rfl) (by kernel_rfl) (by kernel_rfl) (by rfl) ?hyf7 hHeld ?restf7
              case hyf7 => (intro w' hSw; go_simp; try with_reducible rfl)
              try simp only [Act.put, List.setIfInBounds_toArray, List.set_cons_zero, List.set_cons_succ]
              refine reg_takeB 8 (v := ?vf8) (atS5 (atS (atS (atS at0)))) (by kernel_rfl) (by kernel_rfl) (by kernel_rfl) (by rfl) ?hyf8 hHeld ?restf8
              case hyf8 => (intro w' hSw; go_simp; try with_reducible rfl)
              try simp only [Act.put, List.setIfInBounds_toArray, List.set_cons_zero, List.set_cons_succ]
              refine reg_takeB 9 (v := ?vf9) (atS5 (atS (atS (atS (atS at0))))) (by kernel_rfl) (by kernel_rfl) (by kernel_rfl) (by rfl) ?hyf9 hHeld ?restf9
              case hyf9 => (intro w' hSw; go_simp; try with_reducible rfl)
              try simp only [Act.put, List.setIfInBounds_toArray, List.set_cons_zero, List.set_cons_succ]
              refine reg_takeB 10 (v := ?vf10) (atS5 (atS5 at0)) (by kernel_rfl) (by kernel_rfl) (by kernel_rfl) (by rfl) ?hyf10 hHeld ?restf10
              case hyf10 => (intro w' hSw; go_simp; try with_reducible rfl)
              try simp only [Act.put, List.setIfInBounds_toArray, List.set_cons_zero, List.set_cons_succ]
              refine reg_takeB 13 (v := ?vf13) (atS5 (atS5 (atS (atS (atS at0))))) (by kernel_rfl) (by kernel_rfl) (by kernel_rfl) (by rfl) ?hyf13 hHeld ?restf13
              case hyf13 => (intro w' hSw; go_simp; try with_reducible rfl)
              try simp only [Act.put, List.setIfInBounds_toArray, List.set_cons_zero, List.set_cons_succ]
              refine reg_takeB 14 (v := ?vf14) (atS5 (atS5 (atS (atS (atS (atS at0)))))) (by kernel_rfl) (by kernel_rfl) (by kernel_rfl) (by rfl) ?hyf14 hHeld ?restf14
              case hyf14 => (intro w' hSw; go_simp; try with_reducible rfl)
              try simp only [Act.put, List.setIfInBounds_toArray, List.set_cons_zero, List.set_cons_succ]
              refine reg_takeB 15 (v := ?vf15) (atS5 (atS5 (atS5 at0))) (by kernel_rfl) (by kernel_rfl) (by kernel_rfl) (by rfl) ?hyf15 hHeld ?restf15
              case hyf15 => (intro w' hSw; go_simp; try with_reducible rfl)
              try simp only [Act.put, List.setIfInBounds_toArray, List.set_cons_zero, List.set_cons_succ]
              refine reg_takeB 16 (v := ?vf16) (atS5 (atS5 (atS5 (atS at0)))) (by kernel_rfl) (by kernel_rfl) (by kernel_rfl) (by rfl) ?hyf16 hHeld ?restf16
              case hyf16 => (intro w' hSw; go_simp; try with_reducible rfl)
              try simp only [Act.put, List.setIfInBounds_toArray, List.set_cons_zero, List.set_cons_succ]
              refine reg_takeB 17 (v := ?vf17) (atS5 (atS5 (atS5 (atS (atS at0))))) (by kernel_rfl) (by kernel_rfl) (by kernel_rfl) (by rfl) ?hyf17 hHeld ?restf17
              case hyf17 => (intro w' hSw; go_simp; try with_reducible rfl)
              try simp only [Act.put, List.setIfInBounds_toArray, List.set_cons_zero, List.set_cons_succ]
              refine wpAnyH_ready (rs := [11]) (by kernel_rfl) (by simp) ?_
              refine AllReadyH.cons (atS5 (atS5 (atS at0))) (fun K hK => ?_) AllReadyH.nil
              go_simp
              refine (rput_any 8 x2 _ HU2.out).mono ?_
              rintro e w9 ⟨rfl, hb9⟩
              rw [rput8 _ HU2.out]
              have HB9 := hid hb9
              have HBD1 := hid (HBD0.out.trans (hb9.mono HBD0.out.size)); have HO1 := hid (HO0.out.on hb9)
              go_wp2_with fail
              refine hK.out _ _ (HB9.out.mono HBD0.out.size) (fun hHeld => ?_)
              clear hK K
              try simp only [Act.put, List.setIfInBounds_toArray, List.set_cons_zero, List.set_cons_succ]
              refine reg_onB (HB9.out.mono HBD0.out.size) (fun hHeld => ?_)
              refine wpAnyH_ready (rs := [12]) (by kernel_rfl) (by simp) ?_
              refine AllReadyH.cons (atS5 (atS5 (atS (atS at0)))) (fun K hK => ?_) AllReadyH.nil
              go_simp
              refine (rputop2_any x1 hx0 hx1 (le x2 8) 8 (le_length _ _) (by omega)).mono ?_
              rintro e w10 ⟨q10, c10, rfl, hk10, hc10, hm10, hb10⟩
              have HB10 := hid hb10; have HK10 := hid hk10; have HC10 := hid hc10; have HM10 := hid hm10
              have HBD2 := hid (HBD1.out.trans (hb10.mono HBD1.out.size)); have HO2 := hid (HO1.out.on hb10)
              go_wp2_with fail
              refine hK.out _ _ (HB10.out.mono HBD1.out.size) (fun hHeld => ?_)
              clear hK K
              try simp only [Act.put, List.setIfInBounds_toArray, List.set_cons_zero, List.set_cons_succ]
              refine reg_onB (HB10.out.mono HBD1.out.size) (fun hHeld => ?_)
              refine wpAnyH_ready (rs := [18]) (by kernel_rfl) (by simp) ?_
              refine AllReadyH.cons (atS5 (atS5 (atS5 (atS (atS (atS at0)))))) (fun K hK => ?_) AllReadyH.nil
              go_simp
              refine (rflop2_any x1 1 hx0 hx1 (by omega) (by omega) 8 rfl).mono ?_
              rintro e w11 ⟨rfl, hb11⟩
              have HB11 := hid hb11
              have HBD3 := hid (HBD2.out.trans (hb11.mono HBD2.out.size))
              obtain ⟨v', w12, hrun, hown, hbw⟩ := appO (cs := #[.int .i64 0, .int .i64 (8 * x1), .int .i64 0, .slice (some ⟨q10, 0, none⟩) 8 c10, .slice none 0 0, .int .i64 2, .int .i64 (8 * x1), .int .i64 8, .slice none 0 0, .slice none 0 0]) (news := [putO x1 (some ⟨q10, 0, none⟩) c10 (le x2 8), flO x1 1]) (ss' := [.wr x1 (le x2 8), .fl x1 1]) (m := 2) (HO2.out.on hb11) HBD3.out.size (by rw [List.length_append, bringP_length, List.length_take]; have := HPL.out; omega) rfl (by omega) rfl (by simp [cellsO, cellsP, putO, flO, le_length]) (fun i s hi => by
              match i, hi with
              | 0, hi => cases hi; exact ⟨_, rfl, q10, c10, rfl, by rw [le_length]; exact HC10.out, HM10.out, (HK10.out.less (Nat.le_trans HLOW.out HBD1.out.size)).on hb11⟩
              | 1, hi => cases hi; exact ⟨_, rfl, rfl⟩) 23
              have HOW2 := hid hown
              have HBW2 : Hid (Below w5.heap.size w5 w12) := HBD3.out.trans (((Below.refl _ _).alloc HBD3.out.size _).trans hbw)
              clear hb11 hown
              go_wp2_with fail
              refine hK.out _ _ (HB11.out.mono HBD2.out.size) (fun hHeld => ?_)
              clear hK K
              try simp only [Act.put, List.setIfInBounds_toArray, List.set_cons_zero, List.set_cons_succ]
              refine reg_onB (HB11.out.mono HBD2.out.size) (fun hHeld => ?_)
              refine wpAnyH_ready (rs := [19]) (by kernel_rfl) (by simp) ?_
              refine AllReadyH.cons (atS5 (atS5 (atS5 (atS (atS (atS (atS at0))))))) (fun K hK => ?_) AllReadyH.nil
              go_simp
              skip
              refine hK.out _ _ ((Below.refl _ _).alloc HBD3.out.size _) (fun hHeld => ?_)
              clear hK K
              try simp only [Act.put, List.setIfInBounds_toArray, List.set_cons_zero, List.set_cons_succ]
              refine reg_onB ((Below.refl _ _).alloc HBD3.out.size _) (fun hHeld => ?_)
              refine wpAnyH_ready (rs := [20]) (by kernel_rfl) (by simp) ?_
              refine AllReadyH.cons (atS5 (atS5 (atS5 (atS5 at0)))) (fun K hK => ?_) AllReadyH.nil
              refine step_appO (by rfl) (.tmp 102) (.tmp 121) (by rfl) (by rfl) (by rfl) hrun ?_
              refine hK.out _ _ hbw (fun hHeld => ?_)
              clear hK K
              try simp only [Act.put, List.setIfInBounds_toArray, List.set_cons_zero, List.set_cons_succ]
              refine reg_onB hbw (fun hHeld => ?_)
              refine reg_takeB 21 (v := ?vf21) (atS5 (atS5 (atS5 (atS5 (atS at0))))) (by kernel_rfl) (by kernel_rfl) (by kernel_rfl) (by rfl) ?hyf21 hHeld ?restf21
              case hyf21 => (intro w' hSw; go_simp; try with_reducible rfl)
              try simp only [Act.put, List.setIfInBounds_toArray, List.set_cons_zero, List.set_cons_succ]
              refine wpAnyH_done (by kernel_rfl) ?_ _
              refine NoPanic.normal ?_
              clear hrun hbw p1 p2
              go_wp2_with fail
              go_roundw
              case rel => exact ⟨t + 1, by omega, by simp, hid (by rw [bringP_take2 HXk.out, ← List.append_assoc]; exact HOW2.out), HBW2⟩
              case measure => simp [intOf]; omega
            · obtain rfl : t = k := by omega
              have et : xs.take t = xs := by rw [← HL.out]; exact List.take_length
              rw [et] at HOt
              clear et hlt ht
              have hf := HF5.out wr HBt.out
              have f0 := row_cell hf 0; have f1 := row_cell hf 1; have f2 := row_cell hf 2; have f3 := row_cell hf 3; have f4 := row_cell hf 4
              simp at f0 f1 f2 f3 f4
              obtain ⟨v', w12, hrun, hown, hbw⟩ := appO (cs := #[.int .i64 3, .int .i64 0, .int .i64 0, .slice none 0 0, .slice none 0 0]) (news := [feO]) (ss' := [.fe]) (m := 1) HOt.out HBt.out.size (by rw [List.length_append, bringP_length]; have := HPL.out; have := HL.out; omega) rfl (by omega) rfl (by simp [cellsO, cellsP, feO]) (fun i s hi => by
                match i, hi with
                | 0, hi => cases hi; exact ⟨_, rfl, rfl⟩) 23
              have HRUN := hid hrun; have HOW3 := hid hown
              have HBW3 : Hid (Below w5.heap.size w5 w12) := HBt.out.trans (((Below.refl _ _).alloc HBt.out.size _).trans hbw)
              clear hrun hown hbw hf
              go_wp2_with (at_builtin; refine wpList_appO rfl _ _ rfl rfl rfl HRUN.out ?_)
              refine bodyPost_ret (v := .tuple #[v', .int .i64 0]) (by simp [results, Tryz.results14, go_sem]) rfl (SteP.yes HE.out (by rw [HPRE.out]; exact HOW3.out.less HLOW.out) (HS5.out _ HBW3.out))
end Go.Proofs.YteggkojlpgkhbaaGreat
