/-
  PmemWrites holds: for every script and call the statement answers true, and nothing that was there has turned.
-/
import Derived.Test.YtfekholamkidkaaLaw3S
namespace Go.Proofs.Ytfekholamkidkaa
open Go.RowKit Go.Maps Go.Sort
set_option linter.unusedVariables false

theorem ext_eq (X : List UInt8) (i j : Nat) : (⟨X.toArray⟩ : ByteArray).extract i j = ⟨((X.take j).drop i).toArray⟩ := by
  rw [ByteArray.extract_mk]
  congr 1
  simp [List.drop_take]
theorem setL_take (S : List UInt8) (a : Nat) (bs : List UInt8) (h : a + bs.length ≤ S.length) : (setL S a bs).take a = S.take a := by
  unfold setL splice
  rw [List.take_append_of_le_length (by simp; omega), List.take_of_length_le (by simp; omega)]
theorem setL_mid (S : List UInt8) (a : Nat) (bs : List UInt8) (h : a + bs.length ≤ S.length) : ((setL S a bs).take (a + bs.length)).drop a = bs := by
  unfold setL splice
  have e : (S.take a).length = a := by simp; omega
  rw [List.drop_take, List.drop_append_of_le_length (by omega), List.drop_of_length_le (by omega), List.nil_append, show a + bs.length - a = bs.length by omega, List.take_left]
theorem setL_drop (S : List UInt8) (a : Nat) (bs : List UInt8) (h : a + bs.length ≤ S.length) : (setL S a bs).drop (a + bs.length) = S.drop (a + bs.length) := by
  unfold setL splice
  have e : (S.take a).length = a := by simp; omega
  rw [← List.append_assoc, List.drop_append_of_le_length (by simp; omega), List.drop_of_length_le (by simp; omega), List.nil_append]

set_option maxHeartbeats 4000000 in
theorem walk_PmemWrites (A : Option Addr) (n c : Nat) (l : List OpV) (o : OpV) (w : World) (h : RdO w w.heap.size A n c l) (ho : o.ok w w.heap.size) :
    Calls Try.prog 6 #[.slice A n c, o.val] w fun e w' => e = .returned (.bool true) ∧ Below w.heap.size w w' := by
  obtain ⟨kind, at_, long, ab, nb, cb, bs, ak, nk2, ck2, ks⟩ := o
  obtain ⟨hk, ha, hl, hb, hkk⟩ := ho
  simp only at hk ha hl hb hkk
  unfold OpV.val
  obtain ⟨w0, hw0⟩ : ∃ w0, w0 = w.alloc (.cells #[.int .i64 kind, .int .i64 at_, .int .i64 long, .slice ab nb cb, .slice ak nk2 ck2] 35) := ⟨_, rfl⟩
  have HB0 : Hid (Below w.heap.size w w0) := show Below _ _ _ by rw [hw0]; exact B1 w _
  have hcb : w0.heap[w.heap.size]? = some (.cells #[.int .i64 kind, .int .i64 at_, .int .i64 long, .slice ab nb cb, .slice ak nk2 ck2] 35 (0, 0)) := by rw [hw0]; exact heap_alloc_new w _
  obtain ⟨ob, hob⟩ : ∃ ob, ob = w.heap.size := ⟨_, rfl⟩
  have HO := hid h; have H0 := hid (h.on HB0.out); have HR0 := hid (hb.on HB0.out)
  have HOB : Hid (ob < w0.heap.size) := show _ < _ by rw [hob]; exact row_lt hcb
  have HC : Hid (∀ w', Below w0.heap.size w0 w' → w'.cell? ⟨ob, 1, none⟩ = some (.int .i64 at_) ∧ w'.cell? ⟨ob, 3, none⟩ = some (.slice ab nb cb)) := by
    intro w' hb'
    have h0 : w0.heap[ob]? = some (.cells #[.int .i64 kind, .int .i64 at_, .int .i64 long, .slice ab nb cb, .slice ak nk2 ck2] 35 (0, 0)) := by rw [hob]; exact hcb
    have h1 := (hb'.block ob HOB.out).trans h0
    exact ⟨by rw [row_cell h1]; rfl, by rw [row_cell h1]; rfl⟩
  have HA := hid ha
  have HNB := hid hb.1
  have HN : Hid (I64 nb) := i64_iff.2 (by have := Nat.le_trans hb.2.1 hb.2.2.1; unfold maxLen at this; omega)
  clear h hb hkk ha hl hk hcb
  go_enter Try.func6, Try.ntmps6
  go_wp2_with fail
  rw [← hw0, ← hob]
  refine (made_any H0.out).mono ?_
  rintro e w1 (⟨rfl, hb1⟩ | ⟨d, g, cap, lb, fb, S, L, F, rfl, hd1, h80, hb1⟩)
  · have HB1 := hid hb1; clear hb1 hw0 hob
    go_wp2_with fail
    refine (alive_any _).mono ?_
    rintro e w2 ⟨rfl, hb2⟩
    go_wp2_with fail
    go_ret
    exact ⟨rfl, Bt (Bt HB0.out HB1.out) hb2⟩
  · have HD1 := hid hd1; have HB1 := hid hb1; have H80 := hid h80; clear hd1 hb1 h80 hw0 hob
    obtain ⟨hc1, hc3⟩ := HC.out w1 HB1.out
    by_cases h8 : (200 : Int) < nb
    · go_wp2_with fail
      refine (alive_any _).mono ?_
      rintro e w2 ⟨rfl, hb2⟩
      go_wp2_with fail
      go_ret
      exact ⟨rfl, Bt (Bt HB0.out HB1.out) hb2⟩
    · go_wp2_with fail
      refine (bytes_any HD1.out).mono ?_
      rintro e w2 ⟨v2, rfl, ho2, hb2⟩
      have hcv2 := ho2.conv
      have HD2 := hid (HD1.out.on hb2); have HB2 := hid (Bt HB1.out hb2)
      clear ho2 hb2 HD1 HB1 hc1 hc3
      obtain ⟨hc1, hc3⟩ := HC.out w2 HB2.out
      have HRW := hid (HR0.out.on HB2.out)
      by_cases he : hE S.length at_ nb = 0
      · have HE := hid he; clear he
        go_wp2_with fail
        refine (write_ok HD2.out at_ HA.out HRW.out HE.out).mono ?_
        rintro e w3 ⟨rfl, hd3, hf3⟩
        have HD3 := hid hd3; have HB3 := hid (HB2.out.trans (HD2.out.below hf3))
        clear hd3 hf3 hcv2 hc1 hc3
        go_wp2_with fail
        refine (bytes_any HD3.out).mono ?_
        rintro e w4 ⟨v4, rfl, ho4, hb4⟩
        have hcv4 := ho4.conv
        have HB4 := hid (Bt HB3.out hb4)
        obtain ⟨hc1, hc3⟩ := HC.out w4 HB4.out
        obtain ⟨h0, h1, h2⟩ := hE_ok HE.out
        have hS2 : (setL S at_.toNat bs).length = 80 := by rw [setL_length _ _ _ (by have := HNB.out; omega)]; exact H80.out
        have h3 : at_ ≤ 80 - nb := by have := H80.out; omega
        have HS2 := hid hS2
        have h80 := H80.out
        clear ho4 hb4 HD3 HB3 h1 h2
        go_wp2_with fail
        have h5 : at_ + nb ≤ 80 := by omega
        have h6 : at_ ≤ 80 := by omega
        have h7 : 0 ≤ at_ + nb := by omega
        have h9 : at_ ≤ at_ + nb := by omega
        have hwr : IntKind.i64.wrap (at_ + nb) = at_ + nb := by rw [IntKind.wrap_i64]; omega
        obtain ⟨E1, hE1⟩ : ∃ E1 : ByteArray, E1 = ⟨(S.take at_.toNat).toArray⟩ := ⟨_, rfl⟩
        obtain ⟨E3, hE3⟩ : ∃ E3 : ByteArray, E3 = ⟨(S.drop (at_ + nb).toNat).toArray⟩ := ⟨_, rfl⟩
        have hfit : at_.toNat + bs.length ≤ S.length := by have := HNB.out; omega
        have hnb : (at_ + nb).toNat = at_.toNat + bs.length := by have := HNB.out; omega
        have hx1a : (⟨(setL S at_.toNat bs).toArray⟩ : ByteArray).extract 0 at_.toNat = E1 := by rw [hE1, ext_eq, setL_take _ _ _ hfit]; simp
        have hx1b : (⟨S.toArray⟩ : ByteArray).extract 0 at_.toNat = E1 := by rw [hE1, ext_eq]; simp
        have hx2 : (⟨(setL S at_.toNat bs).toArray⟩ : ByteArray).extract at_.toNat (at_ + nb).toNat = ⟨bs.toArray⟩ := by rw [ext_eq, hnb, setL_mid _ _ _ hfit]
        have hx3a : (⟨(setL S at_.toNat bs).toArray⟩ : ByteArray).extract (at_ + nb).toNat 80 = E3 := by rw [hE3, ext_eq, List.take_of_length_le (by omega), hnb, setL_drop _ _ _ hfit]
        have hx3b : (⟨S.toArray⟩ : ByteArray).extract (at_ + nb).toNat 80 = E3 := by rw [hE3, ext_eq, List.take_of_length_le (by omega)]
        clear hc1 hc3 hcv4 hE1 hE3 hfit hnb
        refine reg_begin (by kernel_rfl) (fun w0 hx0 hHeld => ?_)
        refine wpAnyH_ready (rs := [0]) (by kernel_rfl) (by simp) ?_
        refine AllReadyH.cons at0 (fun K hK => ?_) AllReadyH.nil
        go_simp
        refine (alive_any _).mono ?_
        rintro e w5 ⟨rfl, hb5⟩
        go_wp2_with fail
        refine hK.out _ _ hb5 (fun hHeld => ?_)
        clear hK K
        try simp only [Act.put, List.setIfInBounds_toArray, List.set_cons_zero, List.set_cons_succ]
        refine reg_on hb5 (fun hHeld => ?_)
        have HB5 := hid (Bt (Bt HB4.out hx0) hb5)
        have hc1 : ∀ w', Ext w5 w' → w'.cell? ⟨ob, 1, none⟩ = some (.int .i64 at_) := fun w' hx => (HC.out w' (Bt HB5.out hx)).1
        have hc3 : ∀ w', Ext w5 w' → w'.cell? ⟨ob, 3, none⟩ = some (.slice ab nb cb) := fun w' hx => (HC.out w' (Bt HB5.out hx)).2
        have hcvb : ∀ w', Ext w5 w' → (convert 28 9 (.slice ab nb cb)).run Try.prog w' = .ok (.string ⟨bs.toArray⟩) w' := fun w' hx => (HR0.out.on (Bt HB5.out hx)).conv
        refine reg_take 1 (v := ?vb1) (atS at0) (by kernel_rfl) (by kernel_rfl) (by kernel_rfl) (by rfl) ?hyb1 hHeld ?restb1
        case hyb1 => (intro w' hSw; go_simp; try with_reducible rfl)
        try simp only [Act.put, List.setIfInBounds_toArray, List.set_cons_zero, List.set_cons_succ]
        refine reg_take 2 (v := ?vb2) (atS (atS at0)) (by kernel_rfl) (by kernel_rfl) (by kernel_rfl) (by rfl) ?hyb2 hHeld ?restb2
        case hyb2 => (intro w' hSw; go_simp; try with_reducible rfl)
        try simp only [Act.put, List.setIfInBounds_toArray, List.set_cons_zero, List.set_cons_succ]
        refine reg_take 3 (v := ?vb3) (atS (atS (atS at0))) (by kernel_rfl) (by kernel_rfl) (by kernel_rfl) (by rfl) ?hyb3 hHeld ?restb3
        case hyb3 => (intro w' hSw; go_simp; try with_reducible rfl)
        try simp only [Act.put, List.setIfInBounds_toArray, List.set_cons_zero, List.set_cons_succ]
        refine reg_take 4 (v := ?vb4) (atS (atS (atS (atS at0)))) (by kernel_rfl) (by kernel_rfl) (by kernel_rfl) (by rfl) ?hyb4 hHeld ?restb4
        case hyb4 => (intro w' hSw; go_simp; try with_reducible rfl)
        try simp only [Act.put, List.setIfInBounds_toArray, List.set_cons_zero, List.set_cons_succ]
        refine reg_take 5 (v := ?vb5) (atS5 at0) (by kernel_rfl) (by kernel_rfl) (by kernel_rfl) (by rfl) ?hyb5 hHeld ?restb5
        case hyb5 => (intro w' hSw; go_simp; try with_reducible rfl)
        try simp only [Act.put, List.setIfInBounds_toArray, List.set_cons_zero, List.set_cons_succ]
        refine reg_take 6 (v := ?vb6) (atS5 (atS at0)) (by kernel_rfl) (by kernel_rfl) (by kernel_rfl) (by rfl) ?hyb6 hHeld ?restb6
        case hyb6 => (intro w' hSw; go_simp; try with_reducible rfl)
        try simp only [Act.put, List.setIfInBounds_toArray, List.set_cons_zero, List.set_cons_succ]
        refine reg_take 7 (v := ?vb7) (atS5 (atS (atS at0))) (by kernel_rfl) (by kernel_rfl) (by kernel_rfl) (by rfl) ?hyb7 hHeld ?restb7
        case hyb7 => (intro w' hSw; go_simp; try with_reducible rfl)
        try simp only [Act.put, List.setIfInBounds_toArray, List.set_cons_zero, List.set_cons_succ]
        refine reg_take 8 (v := ?vb8) (atS5 (atS (atS (atS at0)))) (by kernel_rfl) (by kernel_rfl) (by kernel_rfl) (by rfl) ?hyb8 hHeld ?restb8
        case hyb8 => (intro w' hSw; go_simp; try with_reducible rfl)
        try simp only [Act.put, List.setIfInBounds_toArray, List.set_cons_zero, List.set_cons_succ]
        refine reg_take 9 (v := ?vb9) (atS5 (atS (atS (atS (atS at0))))) (by kernel_rfl) (by kernel_rfl) (by kernel_rfl) (by rfl) ?hyb9 hHeld ?restb9
        case hyb9 => (intro w' hSw; go_simp; try with_reducible rfl)
        try simp only [Act.put, List.setIfInBounds_toArray, List.set_cons_zero, List.set_cons_succ]
        refine reg_take 10 (v := ?vb10) (atS5 (atS5 at0)) (by kernel_rfl) (by kernel_rfl) (by kernel_rfl) (by rfl) ?hyb10 hHeld ?restb10
        case hyb10 => (intro w' hSw; go_simp; try with_reducible rfl)
        try simp only [Act.put, List.setIfInBounds_toArray, List.set_cons_zero, List.set_cons_succ]
        refine reg_take 11 (v := ?vb11) (atS5 (atS5 (atS at0))) (by kernel_rfl) (by kernel_rfl) (by kernel_rfl) (by rfl) ?hyb11 hHeld ?restb11
        case hyb11 => (intro w' hSw; go_simp; try with_reducible rfl)
        try simp only [Act.put, List.setIfInBounds_toArray, List.set_cons_zero, List.set_cons_succ]
        refine reg_take 12 (v := ?vb12) (atS5 (atS5 (atS (atS at0)))) (by kernel_rfl) (by kernel_rfl) (by kernel_rfl) (by rfl) ?hyb12 hHeld ?restb12
        case hyb12 => (intro w' hSw; go_simp; try with_reducible rfl)
        try simp only [Act.put, List.setIfInBounds_toArray, List.set_cons_zero, List.set_cons_succ]
        refine reg_take 13 (v := ?vb13) (atS5 (atS5 (atS (atS (atS at0))))) (by kernel_rfl) (by kernel_rfl) (by kernel_rfl) (by rfl) ?hyb13 hHeld ?restb13
        case hyb13 => (intro w' hSw; go_simp; try with_reducible rfl)
        try simp only [Act.put, List.setIfInBounds_toArray, List.set_cons_zero, List.set_cons_succ]
        refine reg_take 14 (v := ?vb14) (atS5 (atS5 (atS (atS (atS (atS at0)))))) (by kernel_rfl) (by kernel_rfl) (by kernel_rfl) (by rfl) ?hyb14 hHeld ?restb14
        case hyb14 => (intro w' hSw; go_simp; try with_reducible rfl)
        try simp only [Act.put, List.setIfInBounds_toArray, List.set_cons_zero, List.set_cons_succ]
        refine reg_take 15 (v := ?vb15) (atS5 (atS5 (atS5 at0))) (by kernel_rfl) (by kernel_rfl) (by kernel_rfl) (by rfl) ?hyb15 hHeld ?restb15
        case hyb15 => (intro w' hSw; go_simp; try with_reducible rfl)
        try simp only [Act.put, List.setIfInBounds_toArray, List.set_cons_zero, List.set_cons_succ]
        refine reg_take 16 (v := ?vb16) (atS5 (atS5 (atS5 (atS at0)))) (by kernel_rfl) (by kernel_rfl) (by kernel_rfl) (by rfl) ?hyb16 hHeld ?restb16
        case hyb16 => (intro w' hSw; go_simp; try with_reducible rfl)
        try simp only [Act.put, List.setIfInBounds_toArray, List.set_cons_zero, List.set_cons_succ]
        refine reg_take 17 (v := ?vb17) (atS5 (atS5 (atS5 (atS (atS at0))))) (by kernel_rfl) (by kernel_rfl) (by kernel_rfl) (by rfl) ?hyb17 hHeld ?restb17
        case hyb17 => (intro w' hSw; go_simp; try with_reducible rfl)
        try simp only [Act.put, List.setIfInBounds_toArray, List.set_cons_zero, List.set_cons_succ]
        refine reg_take 18 (v := ?vb18) (atS5 (atS5 (atS5 (atS (atS (atS at0)))))) (by kernel_rfl) (by kernel_rfl) (by kernel_rfl) (by rfl) ?hyb18 hHeld ?restb18
        case hyb18 => (intro w' hSw; go_simp; try with_reducible rfl)
        try simp only [Act.put, List.setIfInBounds_toArray, List.set_cons_zero, List.set_cons_succ]
        refine reg_take 19 (v := ?vb19) (atS5 (atS5 (atS5 (atS (atS (atS (atS at0))))))) (by kernel_rfl) (by kernel_rfl) (by kernel_rfl) (by rfl) ?hyb19 hHeld ?restb19
        case hyb19 => (intro w' hSw; go_simp; try with_reducible rfl)
        try simp only [Act.put, List.setIfInBounds_toArray, List.set_cons_zero, List.set_cons_succ]
        refine reg_take 20 (v := ?vb20) (atS5 (atS5 (atS5 (atS5 at0)))) (by kernel_rfl) (by kernel_rfl) (by kernel_rfl) (by rfl) ?hyb20 hHeld ?restb20
        case hyb20 => (intro w' hSw; go_simp; try with_reducible rfl)
        try simp only [Act.put, List.setIfInBounds_toArray, List.set_cons_zero, List.set_cons_succ]
        refine reg_take 21 (v := ?vb21) (atS5 (atS5 (atS5 (atS5 (atS at0))))) (by kernel_rfl) (by kernel_rfl) (by kernel_rfl) (by rfl) ?hyb21 hHeld ?restb21
        case hyb21 => (intro w' hSw; go_simp; try with_reducible rfl)
        try simp only [Act.put, List.setIfInBounds_toArray, List.set_cons_zero, List.set_cons_succ]
        refine reg_take 22 (v := ?vb22) (atS5 (atS5 (atS5 (atS5 (atS (atS at0)))))) (by kernel_rfl) (by kernel_rfl) (by kernel_rfl) (by rfl) ?hyb22 hHeld ?restb22
        case hyb22 => (intro w' hSw; go_simp; try with_reducible rfl)
        try simp only [Act.put, List.setIfInBounds_toArray, List.set_cons_zero, List.set_cons_succ]
        refine reg_take 23 (v := ?vb23) (atS5 (atS5 (atS5 (atS5 (atS (atS (atS at0))))))) (by kernel_rfl) (by kernel_rfl) (by kernel_rfl) (by rfl) ?hyb23 hHeld ?restb23
        case hyb23 => (intro w' hSw; go_simp; try with_reducible rfl)
        try simp only [Act.put, List.setIfInBounds_toArray, List.set_cons_zero, List.set_cons_succ]
        refine reg_take 24 (v := ?vb24) (atS5 (atS5 (atS5 (atS5 (atS (atS (atS (atS at0)))))))) (by kernel_rfl) (by kernel_rfl) (by kernel_rfl) (by rfl) ?hyb24 hHeld ?restb24
        case hyb24 => (intro w' hSw; go_simp; try with_reducible rfl)
        try simp only [Act.put, List.setIfInBounds_toArray, List.set_cons_zero, List.set_cons_succ]
        refine reg_take 25 (v := ?vb25) (atS5 (atS5 (atS5 (atS5 (atS5 at0))))) (by kernel_rfl) (by kernel_rfl) (by kernel_rfl) (by rfl) ?hyb25 hHeld ?restb25
        case hyb25 => (intro w' hSw; go_simp; try with_reducible rfl)
        try simp only [Act.put, List.setIfInBounds_toArray, List.set_cons_zero, List.set_cons_succ]
        refine reg_take 26 (v := ?vb26) (atS5 (atS5 (atS5 (atS5 (atS5 (atS at0)))))) (by kernel_rfl) (by kernel_rfl) (by kernel_rfl) (by rfl) ?hyb26 hHeld ?restb26
        case hyb26 => (intro w' hSw; go_simp; try with_reducible rfl)
        try simp only [Act.put, List.setIfInBounds_toArray, List.set_cons_zero, List.set_cons_succ]
        refine reg_take 27 (v := ?vb27) (atS5 (atS5 (atS5 (atS5 (atS5 (atS (atS at0))))))) (by kernel_rfl) (by kernel_rfl) (by kernel_rfl) (by rfl) ?hyb27 hHeld ?restb27
        case hyb27 => (intro w' hSw; go_simp; try with_reducible rfl)
        try simp only [Act.put, List.setIfInBounds_toArray, List.set_cons_zero, List.set_cons_succ]
        refine reg_take 28 (v := ?vb28) (atS5 (atS5 (atS5 (atS5 (atS5 (atS (atS (atS at0)))))))) (by kernel_rfl) (by kernel_rfl) (by kernel_rfl) (by rfl) ?hyb28 hHeld ?restb28
        case hyb28 => (intro w' hSw; go_simp; try with_reducible rfl)
        try simp only [Act.put, List.setIfInBounds_toArray, List.set_cons_zero, List.set_cons_succ]
        refine reg_take 29 (v := ?vb29) (atS5 (atS5 (atS5 (atS5 (atS5 (atS (atS (atS (atS at0))))))))) (by kernel_rfl) (by kernel_rfl) (by kernel_rfl) (by rfl) ?hyb29 hHeld ?restb29
        case hyb29 => (intro w' hSw; go_simp; try with_reducible rfl)
        try simp only [Act.put, List.setIfInBounds_toArray, List.set_cons_zero, List.set_cons_succ]
        refine reg_take 30 (v := ?vb30) (atS5 (atS5 (atS5 (atS5 (atS5 (atS5 at0)))))) (by kernel_rfl) (by kernel_rfl) (by kernel_rfl) (by rfl) ?hyb30 hHeld ?restb30
        case hyb30 => (intro w' hSw; go_simp; try with_reducible rfl)
        try simp only [Act.put, List.setIfInBounds_toArray, List.set_cons_zero, List.set_cons_succ]
        refine reg_take 31 (v := ?vb31) (atS5 (atS5 (atS5 (atS5 (atS5 (atS5 (atS at0))))))) (by kernel_rfl) (by kernel_rfl) (by kernel_rfl) (by rfl) ?hyb31 hHeld ?restb31
        case hyb31 => (intro w' hSw; go_simp; try with_reducible rfl)
        try simp only [Act.put, List.setIfInBounds_toArray, List.set_cons_zero, List.set_cons_succ]
        refine reg_take 32 (v := ?vb32) (atS5 (atS5 (atS5 (atS5 (atS5 (atS5 (atS (atS at0)))))))) (by kernel_rfl) (by kernel_rfl) (by kernel_rfl) (by rfl) ?hyb32 hHeld ?restb32
        case hyb32 => (intro w' hSw; go_simp; try with_reducible rfl)
        try simp only [Act.put, List.setIfInBounds_toArray, List.set_cons_zero, List.set_cons_succ]
        refine reg_take 33 (v := ?vb33) (atS5 (atS5 (atS5 (atS5 (atS5 (atS5 (atS (atS (atS at0))))))))) (by kernel_rfl) (by kernel_rfl) (by kernel_rfl) (by rfl) ?hyb33 hHeld ?restb33
        case hyb33 => (intro w' hSw; go_simp; try with_reducible rfl)
        try simp only [Act.put, List.setIfInBounds_toArray, List.set_cons_zero, List.set_cons_succ]
        refine reg_take 34 (v := ?vb34) (atS5 (atS5 (atS5 (atS5 (atS5 (atS5 (atS (atS (atS (atS at0)))))))))) (by kernel_rfl) (by kernel_rfl) (by kernel_rfl) (by rfl) ?hyb34 hHeld ?restb34
        case hyb34 => (intro w' hSw; go_simp; try with_reducible rfl)
        try simp only [Act.put, List.setIfInBounds_toArray, List.set_cons_zero, List.set_cons_succ]
        refine reg_take 35 (v := ?vb35) (atS5 (atS5 (atS5 (atS5 (atS5 (atS5 (atS5 at0))))))) (by kernel_rfl) (by kernel_rfl) (by kernel_rfl) (by rfl) ?hyb35 hHeld ?restb35
        case hyb35 => (intro w' hSw; go_simp; try with_reducible rfl)
        try simp only [Act.put, List.setIfInBounds_toArray, List.set_cons_zero, List.set_cons_succ]
        refine reg_take 36 (v := ?vb36) (atS5 (atS5 (atS5 (atS5 (atS5 (atS5 (atS5 (atS at0)))))))) (by kernel_rfl) (by kernel_rfl) (by kernel_rfl) (by rfl) ?hyb36 hHeld ?restb36
        case hyb36 => (intro w' hSw; go_simp; try with_reducible rfl)
        try simp only [Act.put, List.setIfInBounds_toArray, List.set_cons_zero, List.set_cons_succ]
        refine reg_take 37 (v := ?vb37) (atS5 (atS5 (atS5 (atS5 (atS5 (atS5 (atS5 (atS (atS at0))))))))) (by kernel_rfl) (by kernel_rfl) (by kernel_rfl) (by rfl) ?hyb37 hHeld ?restb37
        case hyb37 => (intro w' hSw; go_simp; try with_reducible rfl)
        try simp only [Act.put, List.setIfInBounds_toArray, List.set_cons_zero, List.set_cons_succ]
        refine reg_take 38 (v := ?vb38) (atS5 (atS5 (atS5 (atS5 (atS5 (atS5 (atS5 (atS (atS (atS at0)))))))))) (by kernel_rfl) (by kernel_rfl) (by kernel_rfl) (by rfl) ?hyb38 hHeld ?restb38
        case hyb38 => (intro w' hSw; go_simp; try with_reducible rfl)
        try simp only [Act.put, List.setIfInBounds_toArray, List.set_cons_zero, List.set_cons_succ]
        refine reg_take 39 (v := ?vb39) (atS5 (atS5 (atS5 (atS5 (atS5 (atS5 (atS5 (atS (atS (atS (atS at0))))))))))) (by kernel_rfl) (by kernel_rfl) (by kernel_rfl) (by rfl) ?hyb39 hHeld ?restb39
        case hyb39 => (intro w' hSw; go_simp; try with_reducible rfl)
        try simp only [Act.put, List.setIfInBounds_toArray, List.set_cons_zero, List.set_cons_succ]
        refine reg_take 40 (v := ?vb40) (atS5 (atS5 (atS5 (atS5 (atS5 (atS5 (atS5 (atS5 at0)))))))) (by kernel_rfl) (by kernel_rfl) (by kernel_rfl) (by rfl) ?hyb40 hHeld ?restb40
        case hyb40 => (intro w' hSw; go_simp; try with_reducible rfl)
        try simp only [Act.put, List.setIfInBounds_toArray, List.set_cons_zero, List.set_cons_succ]
        refine reg_take 41 (v := ?vb41) (atS5 (atS5 (atS5 (atS5 (atS5 (atS5 (atS5 (atS5 (atS at0))))))))) (by kernel_rfl) (by kernel_rfl) (by kernel_rfl) (by rfl) ?hyb41 hHeld ?restb41
        case hyb41 => (intro w' hSw; go_simp; try with_reducible rfl)
        try simp only [Act.put, List.setIfInBounds_toArray, List.set_cons_zero, List.set_cons_succ]
        refine reg_take 42 (v := ?vb42) (atS5 (atS5 (atS5 (atS5 (atS5 (atS5 (atS5 (atS5 (atS (atS at0)))))))))) (by kernel_rfl) (by kernel_rfl) (by kernel_rfl) (by rfl) ?hyb42 hHeld ?restb42
        case hyb42 => (intro w' hSw; go_simp; try with_reducible rfl)
        try simp only [Act.put, List.setIfInBounds_toArray, List.set_cons_zero, List.set_cons_succ]
        refine reg_take 43 (v := ?vb43) (atS5 (atS5 (atS5 (atS5 (atS5 (atS5 (atS5 (atS5 (atS (atS (atS at0))))))))))) (by kernel_rfl) (by kernel_rfl) (by kernel_rfl) (by rfl) ?hyb43 hHeld ?restb43
        case hyb43 => (intro w' hSw; go_simp; try with_reducible rfl)
        try simp only [Act.put, List.setIfInBounds_toArray, List.set_cons_zero, List.set_cons_succ]
        refine reg_take 44 (v := ?vb44) (atS5 (atS5 (atS5 (atS5 (atS5 (atS5 (atS5 (atS5 (atS (atS (atS (atS at0)))))))))))) (by kernel_rfl) (by kernel_rfl) (by kernel_rfl) (by rfl) ?hyb44 hHeld ?restb44
        case hyb44 => (intro w' hSw; go_simp; try with_reducible rfl)
        try simp only [Act.put, List.setIfInBounds_toArray, List.set_cons_zero, List.set_cons_succ]
        refine reg_take 45 (v := ?vb45) (atS5 (atS5 (atS5 (atS5 (atS5 (atS5 (atS5 (atS5 (atS5 at0))))))))) (by kernel_rfl) (by kernel_rfl) (by kernel_rfl) (by rfl) ?hyb45 hHeld ?restb45
        case hyb45 => (intro w' hSw; go_simp; try with_reducible rfl)
        try simp only [Act.put, List.setIfInBounds_toArray, List.set_cons_zero, List.set_cons_succ]
        refine reg_take 46 (v := ?vb46) (atS5 (atS5 (atS5 (atS5 (atS5 (atS5 (atS5 (atS5 (atS5 (atS at0)))))))))) (by kernel_rfl) (by kernel_rfl) (by kernel_rfl) (by rfl) ?hyb46 hHeld ?restb46
        case hyb46 => (intro w' hSw; go_simp; try with_reducible rfl)
        try simp only [Act.put, List.setIfInBounds_toArray, List.set_cons_zero, List.set_cons_succ]
        refine reg_take 47 (v := ?vb47) (atS5 (atS5 (atS5 (atS5 (atS5 (atS5 (atS5 (atS5 (atS5 (atS (atS at0))))))))))) (by kernel_rfl) (by kernel_rfl) (by kernel_rfl) (by rfl) ?hyb47 hHeld ?restb47
        case hyb47 => (intro w' hSw; go_simp; try with_reducible rfl)
        try simp only [Act.put, List.setIfInBounds_toArray, List.set_cons_zero, List.set_cons_succ]
        refine wpAnyH_done (by kernel_rfl) ?_ _
        refine NoPanic.normal ?_
        go_wp2_with fail
        go_ret
        exact ⟨rfl, Bt HB0.out HB5.out⟩
      · have hwb := write_bad HD2.out at_ HA.out (A := ab) (c := cb) HN.out he
        obtain ⟨x, hx⟩ : ∃ x, x = hE S.length at_ nb := ⟨_, rfl⟩
        rw [← hx] at he hwb
        have hxn : (x != 0) = true := by simpa using he
        have HE := hid hwb; clear hwb hx he
        go_wp2_with fail
        refine HE.out.mono ?_
        rintro e w3 ⟨rfl, rfl⟩
        go_wp2_with fail
        refine (bytes_any HD2.out).mono ?_
        rintro e w4 ⟨v4, rfl, ho4, hb4⟩
        have hcv4 := ho4.conv
        have HB4 := hid (Bt HB2.out hb4)
        clear ho4 hb4 hcv2 hc1 hc3
        go_wp2_with fail
        refine (alive_any _).mono ?_
        rintro e w5 ⟨rfl, hb5⟩
        go_wp2_with fail
        go_ret
        exact ⟨rfl, Bt (Bt HB0.out HB4.out) hb5⟩
end Go.Proofs.Ytfekholamkidkaa
