/-
  The walk of WordPads.
-/
import Derived.Test.YtcnfilakbgoofaaLaw1A
import Derived.Test.YtcnfilakbgoofaaReg
import Derived.Deep.QuietTactic
import Derived.BigQuiet
namespace Go.Proofs.Ytcnfilakbgoofaa
open Go.RowKit
set_option linter.unusedVariables false
set_option linter.unusedSimpArgs false

theorem padL_padL (l : List UInt8) : padL (padL l) = padL l := by
  have h := padL_length l
  have : padL (padL l) = padL l ++ List.replicate (((padL l).length + 7) / 8 * 8 - (padL l).length) 0 := rfl
  rw [this, h, show ((l.length + 7) / 8 * 8 + 7) / 8 * 8 - (l.length + 7) / 8 * 8 = 0 by omega]
  simp

set_option maxHeartbeats 1000000 in
theorem walk_WordPads (A : Option Addr) (n cap : Nat) (l : List UInt8) (w : World) (h : Rd w w.heap.size A n cap l) :
    Calls Try.prog 8 #[.slice A n cap] w fun e w' => e = .returned (.bool true) ∧ Below w.heap.size w w' := by
  by_cases hbig : 20000 < n
  · have hb' : decide ((20000 : Int) < n) = true := by simp; omega
    go_enter Try.func8, Try.ntmps8
    go_wp2_with fail
    refine (alive_any _).mono ?_
    rintro e w2 ⟨rfl, hb2⟩
    go_wp2_with fail
    go_ret
    exact ⟨rfl, hb2⟩
  · have hb' : decide ((20000 : Int) < n) = false := by simp; omega
    have HL := hid h.1
    have H := hid h; clear h
    go_enter Try.func8, Try.ntmps8
    go_wp2_with fail
    refine (pad_exact A n cap l _ H.out (by omega)).mono ?_
    rintro e w1 ⟨rfl, hw1⟩
    have hb1 : Below w.heap.size w w1 := by rw [hw1]; exact B1 _ _
    have hblk : w1.heap[w.heap.size]? = some (.cells ((padL l).map bv).toArray 5 (0, 0)) := by rw [hw1]; exact heap_alloc_new w _
    have hpl := padL_length l
    rw [HL.out] at hpl
    obtain ⟨m, hm⟩ : ∃ m, m = (padL l).length := ⟨_, rfl⟩
    rw [← hm] at hpl ⊢
    have ho : Own w1 w.heap.size (.slice (some ⟨w.heap.size, 0, none⟩) m m) (padL l) := own_row hblk (Nat.le_refl _) hm.symm (by unfold maxLen; omega)
    have hr1 : Rd w1 w1.heap.size (some ⟨w.heap.size, 0, none⟩) m m (padL l) := by
      obtain ⟨A1, c1, hv1, hr1⟩ := ho.rd
      rw [← hm] at hv1 hr1
      cases hv1
      exact hr1
    have HM := hid hm
    have HPL := hid hpl
    have hmn : n ≤ m := by omega
    have hmn' : (n : Int) ≤ m := by omega
    have hm7 : m ≤ n + 7 := by omega
    have hm9 : ((m : Int).tmod 8 != 0) = false := by rw [Int.tmod_eq_emod_of_nonneg (by omega)]; simp; omega
    have hw7 : IntKind.i64.wrap ((n : Int) + 7) = n + 7 := by rw [IntKind.wrap_i64]; omega
    have hm8 : ((m : Int) % 8 != 0) = false := by simp; omega
    have hq1 : decide (m < n) = false := by simp; omega
    have hq2 : decide ((n : Int) + 7 < m) = false := by simp; omega
    have htk : (padL l).take n = l := by unfold padL; rw [List.take_append_of_le_length (by rw [HL.out]; omega), List.take_of_length_le (by rw [HL.out]; omega)]
    have hz : ∀ j, n + j < m → w1.cell? ⟨w.heap.size, n + j, none⟩ = some (.int .u8 0) := by
      intro j hj
      have hi : n + j < (padL l).length := by omega
      rw [row_cell hblk]
      have e : (padL l)[n + j]? = some 0 := by
        unfold padL
        rw [List.getElem?_append_right (by rw [HL.out]; omega), HL.out, List.getElem?_replicate, if_pos (by omega)]
      simp only [List.getElem?_toArray, List.getElem?_map, e]
      rfl
    have HZ := hid hz
    have HR1 := hid hr1
    have HTK := hid htk
    have HBLK := hid hblk
    clear hr1 hm hpl ho hblk hw1 hz htk
    go_wp2_with fail
    refine reg_begin (by kernel_rfl) (fun w0 hx0 hHeld => ?_)
    have HR0 := hid (HR1.out.on hx0)
    have hcvx : ∀ w', Ext w0 w' → (convert 22 9 (.slice (some ⟨w.heap.size, 0, none⟩) n m)).run Try.prog w' = .ok (.string ⟨l.toArray⟩) w' := fun w' hb => by have := ((HR0.out.on hb).take hmn).conv; rw [HTK.out] at this; exact this
    have hcvb : ∀ w', Ext w0 w' → (convert 22 9 (.slice A n cap)).run Try.prog w' = .ok (.string ⟨l.toArray⟩) w' := fun w' hb => ((H.out.on (Bt hb1 hx0)).on hb).conv
    refine reg_take 0 (v := ?v1_0) at0 (by kernel_rfl) (by kernel_rfl) (by kernel_rfl) (by rfl) ?hy1_0 hHeld ?rest1_0
    case hy1_0 => (intro w' hSw; go_simp; try with_reducible rfl)
    try simp only [Act.put, List.setIfInBounds_toArray, List.set_cons_zero, List.set_cons_succ]
    refine reg_take 1 (v := ?v1_1) (atS at0) (by kernel_rfl) (by kernel_rfl) (by kernel_rfl) (by rfl) ?hy1_1 hHeld ?rest1_1
    case hy1_1 => (intro w' hSw; go_simp; try with_reducible rfl)
    try simp only [Act.put, List.setIfInBounds_toArray, List.set_cons_zero, List.set_cons_succ]
    refine reg_take 2 (v := ?v1_2) (atS (atS at0)) (by kernel_rfl) (by kernel_rfl) (by kernel_rfl) (by rfl) ?hy1_2 hHeld ?rest1_2
    case hy1_2 => (intro w' hSw; go_simp; try with_reducible rfl)
    try simp only [Act.put, List.setIfInBounds_toArray, List.set_cons_zero, List.set_cons_succ]
    refine reg_take 3 (v := ?v1_3) (atS (atS (atS at0))) (by kernel_rfl) (by kernel_rfl) (by kernel_rfl) (by rfl) ?hy1_3 hHeld ?rest1_3
    case hy1_3 => (intro w' hSw; go_simp; try with_reducible rfl)
    try simp only [Act.put, List.setIfInBounds_toArray, List.set_cons_zero, List.set_cons_succ]
    refine reg_take 4 (v := ?v1_4) (atS (atS (atS (atS at0)))) (by kernel_rfl) (by kernel_rfl) (by kernel_rfl) (by rfl) ?hy1_4 hHeld ?rest1_4
    case hy1_4 => (intro w' hSw; go_simp; try with_reducible rfl)
    try simp only [Act.put, List.setIfInBounds_toArray, List.set_cons_zero, List.set_cons_succ]
    refine reg_take 5 (v := ?v1_5) (atS5 at0) (by kernel_rfl) (by kernel_rfl) (by kernel_rfl) (by rfl) ?hy1_5 hHeld ?rest1_5
    case hy1_5 => (intro w' hSw; go_simp; try with_reducible rfl)
    try simp only [Act.put, List.setIfInBounds_toArray, List.set_cons_zero, List.set_cons_succ]
    refine reg_take 6 (v := ?v1_6) (atS5 (atS at0)) (by kernel_rfl) (by kernel_rfl) (by kernel_rfl) (by rfl) ?hy1_6 hHeld ?rest1_6
    case hy1_6 => (intro w' hSw; go_simp; try with_reducible rfl)
    try simp only [Act.put, List.setIfInBounds_toArray, List.set_cons_zero, List.set_cons_succ]
    refine reg_take 7 (v := ?v1_7) (atS5 (atS (atS at0))) (by kernel_rfl) (by kernel_rfl) (by kernel_rfl) (by rfl) ?hy1_7 hHeld ?rest1_7
    case hy1_7 => (intro w' hSw; go_simp; try with_reducible rfl)
    try simp only [Act.put, List.setIfInBounds_toArray, List.set_cons_zero, List.set_cons_succ]
    refine reg_take 8 (v := ?v1_8) (atS5 (atS (atS (atS at0)))) (by kernel_rfl) (by kernel_rfl) (by kernel_rfl) (by rfl) ?hy1_8 hHeld ?rest1_8
    case hy1_8 => (intro w' hSw; go_simp; try with_reducible rfl)
    try simp only [Act.put, List.setIfInBounds_toArray, List.set_cons_zero, List.set_cons_succ]
    refine reg_take 9 (v := ?v1_9) (atS5 (atS (atS (atS (atS at0))))) (by kernel_rfl) (by kernel_rfl) (by kernel_rfl) (by rfl) ?hy1_9 hHeld ?rest1_9
    case hy1_9 => (intro w' hSw; go_simp; try with_reducible rfl)
    try simp only [Act.put, List.setIfInBounds_toArray, List.set_cons_zero, List.set_cons_succ]
    refine reg_take 10 (v := ?v1_10) (atS5 (atS5 at0)) (by kernel_rfl) (by kernel_rfl) (by kernel_rfl) (by rfl) ?hy1_10 hHeld ?rest1_10
    case hy1_10 => (intro w' hSw; go_simp; try with_reducible rfl)
    try simp only [Act.put, List.setIfInBounds_toArray, List.set_cons_zero, List.set_cons_succ]
    refine reg_take 11 (v := ?v1_11) (atS5 (atS5 (atS at0))) (by kernel_rfl) (by kernel_rfl) (by kernel_rfl) (by rfl) ?hy1_11 hHeld ?rest1_11
    case hy1_11 => (intro w' hSw; go_simp; try with_reducible rfl)
    try simp only [Act.put, List.setIfInBounds_toArray, List.set_cons_zero, List.set_cons_succ]
    refine reg_take 12 (v := ?v1_12) (atS5 (atS5 (atS (atS at0)))) (by kernel_rfl) (by kernel_rfl) (by kernel_rfl) (by rfl) ?hy1_12 hHeld ?rest1_12
    case hy1_12 => (intro w' hSw; go_simp; try with_reducible rfl)
    try simp only [Act.put, List.setIfInBounds_toArray, List.set_cons_zero, List.set_cons_succ]
    refine reg_take 13 (v := ?v1_13) (atS5 (atS5 (atS (atS (atS at0))))) (by kernel_rfl) (by kernel_rfl) (by kernel_rfl) (by rfl) ?hy1_13 hHeld ?rest1_13
    case hy1_13 => (intro w' hSw; go_simp; try with_reducible rfl)
    try simp only [Act.put, List.setIfInBounds_toArray, List.set_cons_zero, List.set_cons_succ]
    refine reg_take 14 (v := ?v1_14) (atS5 (atS5 (atS (atS (atS (atS at0)))))) (by kernel_rfl) (by kernel_rfl) (by kernel_rfl) (by rfl) ?hy1_14 hHeld ?rest1_14
    case hy1_14 => (intro w' hSw; go_simp; try with_reducible rfl)
    try simp only [Act.put, List.setIfInBounds_toArray, List.set_cons_zero, List.set_cons_succ]
    refine reg_take 15 (v := ?v1_15) (atS5 (atS5 (atS5 at0))) (by kernel_rfl) (by kernel_rfl) (by kernel_rfl) (by rfl) ?hy1_15 hHeld ?rest1_15
    case hy1_15 => (intro w' hSw; go_simp; try with_reducible rfl)
    try simp only [Act.put, List.setIfInBounds_toArray, List.set_cons_zero, List.set_cons_succ]
    refine reg_take 16 (v := ?v1_16) (atS5 (atS5 (atS5 (atS at0)))) (by kernel_rfl) (by kernel_rfl) (by kernel_rfl) (by rfl) ?hy1_16 hHeld ?rest1_16
    case hy1_16 => (intro w' hSw; go_simp; try with_reducible rfl)
    try simp only [Act.put, List.setIfInBounds_toArray, List.set_cons_zero, List.set_cons_succ]
    refine reg_take 17 (v := ?v1_17) (atS5 (atS5 (atS5 (atS (atS at0))))) (by kernel_rfl) (by kernel_rfl) (by kernel_rfl) (by rfl) ?hy1_17 hHeld ?rest1_17
    case hy1_17 => (intro w' hSw; go_simp; try with_reducible rfl)
    try simp only [Act.put, List.setIfInBounds_toArray, List.set_cons_zero, List.set_cons_succ]
    refine reg_take 18 (v := ?v1_18) (atS5 (atS5 (atS5 (atS (atS (atS at0)))))) (by kernel_rfl) (by kernel_rfl) (by kernel_rfl) (by rfl) ?hy1_18 hHeld ?rest1_18
    case hy1_18 => (intro w' hSw; go_simp; try with_reducible rfl)
    try simp only [Act.put, List.setIfInBounds_toArray, List.set_cons_zero, List.set_cons_succ]
    refine reg_take 19 (v := ?v1_19) (atS5 (atS5 (atS5 (atS (atS (atS (atS at0))))))) (by kernel_rfl) (by kernel_rfl) (by kernel_rfl) (by rfl) ?hy1_19 hHeld ?rest1_19
    case hy1_19 => (intro w' hSw; go_simp; try with_reducible rfl)
    try simp only [Act.put, List.setIfInBounds_toArray, List.set_cons_zero, List.set_cons_succ]
    refine reg_take 20 (v := ?v1_20) (atS5 (atS5 (atS5 (atS5 at0)))) (by kernel_rfl) (by kernel_rfl) (by kernel_rfl) (by rfl) ?hy1_20 hHeld ?rest1_20
    case hy1_20 => (intro w' hSw; go_simp; try with_reducible rfl)
    try simp only [Act.put, List.setIfInBounds_toArray, List.set_cons_zero, List.set_cons_succ]
    refine reg_take 21 (v := ?v1_21) (atS5 (atS5 (atS5 (atS5 (atS at0))))) (by kernel_rfl) (by kernel_rfl) (by kernel_rfl) (by rfl) ?hy1_21 hHeld ?rest1_21
    case hy1_21 => (intro w' hSw; go_simp; try with_reducible rfl)
    try simp only [Act.put, List.setIfInBounds_toArray, List.set_cons_zero, List.set_cons_succ]
    refine reg_take 22 (v := ?v1_22) (atS5 (atS5 (atS5 (atS5 (atS (atS at0)))))) (by kernel_rfl) (by kernel_rfl) (by kernel_rfl) (by rfl) ?hy1_22 hHeld ?rest1_22
    case hy1_22 => (intro w' hSw; go_simp; try with_reducible rfl)
    try simp only [Act.put, List.setIfInBounds_toArray, List.set_cons_zero, List.set_cons_succ]
    refine reg_take 23 (v := ?v1_23) (atS5 (atS5 (atS5 (atS5 (atS (atS (atS at0))))))) (by kernel_rfl) (by kernel_rfl) (by kernel_rfl) (by rfl) ?hy1_23 hHeld ?rest1_23
    case hy1_23 => (intro w' hSw; go_simp; try with_reducible rfl)
    try simp only [Act.put, List.setIfInBounds_toArray, List.set_cons_zero, List.set_cons_succ]
    refine reg_take 24 (v := ?v1_24) (atS5 (atS5 (atS5 (atS5 (atS (atS (atS (atS at0)))))))) (by kernel_rfl) (by kernel_rfl) (by kernel_rfl) (by rfl) ?hy1_24 hHeld ?rest1_24
    case hy1_24 => (intro w' hSw; go_simp; try with_reducible rfl)
    try simp only [Act.put, List.setIfInBounds_toArray, List.set_cons_zero, List.set_cons_succ]
    refine reg_take 25 (v := ?v1_25) (atS5 (atS5 (atS5 (atS5 (atS5 at0))))) (by kernel_rfl) (by kernel_rfl) (by kernel_rfl) (by rfl) ?hy1_25 hHeld ?rest1_25
    case hy1_25 => (intro w' hSw; go_simp; try with_reducible rfl)
    try simp only [Act.put, List.setIfInBounds_toArray, List.set_cons_zero, List.set_cons_succ]
    refine reg_take 26 (v := ?v1_26) (atS5 (atS5 (atS5 (atS5 (atS5 (atS at0)))))) (by kernel_rfl) (by kernel_rfl) (by kernel_rfl) (by rfl) ?hy1_26 hHeld ?rest1_26
    case hy1_26 => (intro w' hSw; go_simp; try with_reducible rfl)
    try simp only [Act.put, List.setIfInBounds_toArray, List.set_cons_zero, List.set_cons_succ]
    refine reg_take 27 (v := ?v1_27) (atS5 (atS5 (atS5 (atS5 (atS5 (atS (atS at0))))))) (by kernel_rfl) (by kernel_rfl) (by kernel_rfl) (by rfl) ?hy1_27 hHeld ?rest1_27
    case hy1_27 => (intro w' hSw; go_simp; try with_reducible rfl)
    try simp only [Act.put, List.setIfInBounds_toArray, List.set_cons_zero, List.set_cons_succ]
    refine reg_take 28 (v := ?v1_28) (atS5 (atS5 (atS5 (atS5 (atS5 (atS (atS (atS at0)))))))) (by kernel_rfl) (by kernel_rfl) (by kernel_rfl) (by rfl) ?hy1_28 hHeld ?rest1_28
    case hy1_28 => (intro w' hSw; go_simp; try with_reducible rfl)
    try simp only [Act.put, List.setIfInBounds_toArray, List.set_cons_zero, List.set_cons_succ]
    refine wpAnyH_done (by kernel_rfl) ?_ _
    refine NoPanic.normal ?_
    clear hcvx hcvb hm9 hw7 hm8 hq1 hq2
    have hz0 : ∀ j, n + j < m → w0.cell? ⟨w.heap.size, n + j, none⟩ = some (.int .u8 0) := fun j hj => (hx0.cell (p := ⟨w.heap.size, n + j, none⟩) (row_lt HBLK.out)).trans (HZ.out j hj)
    have HZ0 := hid hz0
    clear hz0 HZ
    by_cases hnm : n = m
    · subst hnm
      go_wp2_with fail
      go_loop [46] (fun i => i = .int .i64 0) (fun _ => 0)
      case atStart => rfl
      case round =>
        subst hrel
        go_wp2_with fail
        refine reg_begin (by kernel_rfl) (fun w0b hx0b hHeld => ?_)
        refine wpAnyH_ready (rs := [0]) (by kernel_rfl) (by simp) ?_
        refine AllReadyH.cons at0 (fun K hK => ?_) AllReadyH.nil
        go_simp
        refine (alive_any _).mono ?_
        rintro e w3 ⟨rfl, hb3⟩
        go_wp2_with fail
        refine hK.out _ _ hb3 (fun hHeld => ?_)
        clear hK K
        try simp only [Act.put, List.setIfInBounds_toArray, List.set_cons_zero, List.set_cons_succ]
        refine reg_on hb3 (fun hHeld => ?_)
        have HR3 := hid ((HR0.out.on hx0b).on hb3)
        have hcv3 : ∀ w', Ext w3 w' → (convert 22 9 (.slice (some ⟨w.heap.size, 0, none⟩) n n)).run Try.prog w' = .ok (.string ⟨(padL l).toArray⟩) w' := fun w' hb => (HR3.out.on hb).conv
        refine reg_take 1 (v := ?v2_1) (atS at0) (by kernel_rfl) (by kernel_rfl) (by kernel_rfl) (by rfl) ?hy2_1 hHeld ?rest2_1
        case hy2_1 => (intro w' hSw; go_simp; try with_reducible rfl)
        try simp only [Act.put, List.setIfInBounds_toArray, List.set_cons_zero, List.set_cons_succ]
        refine reg_take 2 (v := ?v2_2) (atS (atS at0)) (by kernel_rfl) (by kernel_rfl) (by kernel_rfl) (by rfl) ?hy2_2 hHeld ?rest2_2
        case hy2_2 => (intro w' hSw; go_simp; try with_reducible rfl)
        try simp only [Act.put, List.setIfInBounds_toArray, List.set_cons_zero, List.set_cons_succ]
        refine reg_take 5 (v := ?v2_5) (atS5 at0) (by kernel_rfl) (by kernel_rfl) (by kernel_rfl) (by rfl) ?hy2_5 hHeld ?rest2_5
        case hy2_5 => (intro w' hSw; go_simp; try with_reducible rfl)
        try simp only [Act.put, List.setIfInBounds_toArray, List.set_cons_zero, List.set_cons_succ]
        refine reg_take 6 (v := ?v2_6) (atS5 (atS at0)) (by kernel_rfl) (by kernel_rfl) (by kernel_rfl) (by rfl) ?hy2_6 hHeld ?rest2_6
        case hy2_6 => (intro w' hSw; go_simp; try with_reducible rfl)
        try simp only [Act.put, List.setIfInBounds_toArray, List.set_cons_zero, List.set_cons_succ]
        refine wpAnyH_ready (rs := [3]) (by kernel_rfl) (by simp) ?_
        refine AllReadyH.cons (atS (atS (atS at0))) (fun K hK => ?_) AllReadyH.nil
        go_simp
        refine (pad_any _ _ _ (padL l) _ HR3.out (by omega)).mono ?_
        rintro e w4 ⟨v, rfl, ho, hb4⟩
        go_wp2_with fail
        refine hK.out _ _ hb4 (fun hHeld => ?_)
        clear hK K
        try simp only [Act.put, List.setIfInBounds_toArray, List.set_cons_zero, List.set_cons_succ]
        refine reg_on hb4 (fun hHeld => ?_)
        obtain ⟨A4, c4, hv4, hr4⟩ := ho.rd
        have HR4 := hid hr4
        have hcv4 : ∀ w', Ext w4 w' → (convert 22 9 v).run Try.prog w' = .ok (.string ⟨(padL l).toArray⟩) w' := fun w' hb => by rw [hv4]; have := (HR4.out.on hb).conv; rw [padL_padL] at this ⊢; exact this
        clear ho hr4 hv4 hcv3
        refine reg_take 4 (v := ?v2_4) (atS (atS (atS (atS at0)))) (by kernel_rfl) (by kernel_rfl) (by kernel_rfl) (by rfl) ?hy2_4 hHeld ?rest2_4
        case hy2_4 => (intro w' hSw; go_simp; try with_reducible rfl)
        try simp only [Act.put, List.setIfInBounds_toArray, List.set_cons_zero, List.set_cons_succ]
        refine reg_take 7 (v := ?v2_7) (atS5 (atS (atS at0))) (by kernel_rfl) (by kernel_rfl) (by kernel_rfl) (by rfl) ?hy2_7 hHeld ?rest2_7
        case hy2_7 => (intro w' hSw; go_simp; try with_reducible rfl)
        try simp only [Act.put, List.setIfInBounds_toArray, List.set_cons_zero, List.set_cons_succ]
        refine reg_take 8 (v := ?v2_8) (atS5 (atS (atS (atS at0)))) (by kernel_rfl) (by kernel_rfl) (by kernel_rfl) (by rfl) ?hy2_8 hHeld ?rest2_8
        case hy2_8 => (intro w' hSw; go_simp; try with_reducible rfl)
        try simp only [Act.put, List.setIfInBounds_toArray, List.set_cons_zero, List.set_cons_succ]
        refine reg_take 9 (v := ?v2_9) (atS5 (atS (atS (atS (atS at0))))) (by kernel_rfl) (by kernel_rfl) (by kernel_rfl) (by rfl) ?hy2_9 hHeld ?rest2_9
        case hy2_9 => (intro w' hSw; go_simp; try with_reducible rfl)
        try simp only [Act.put, List.setIfInBounds_toArray, List.set_cons_zero, List.set_cons_succ]
        refine wpAnyH_done (by kernel_rfl) ?_ _
        refine NoPanic.normal ?_
        go_wp2_with fail
        go_ret
        exact ⟨rfl, Bt (Bt (Bt (Bt hb1 hx0) hx0b) hb3) hb4⟩
    · have hlt : n < m := by omega
      go_wp2_with fail
      go_loop [46] (fun i => ∃ k : Nat, k ≤ m - n ∧ i = .int .i64 k) (fun i => m - n - (intOf i).toNat)
      case atStart => exact ⟨0, by omega, rfl⟩
      case round =>
        obtain ⟨k, hk, rfl⟩ := hrel
        by_cases hlt2 : k < m - n
        · have hc := HZ0.out k (by omega)
          have hki : (k : Int) < (m - n : Nat) := by omega
          go_wp2_with fail
          go_round
          case rel => exact ⟨k + 1, by omega, by go_num⟩
          case measure => simp [intOf]; omega
        · go_wp2_with fail
          refine reg_begin (by kernel_rfl) (fun w0c hx0c hHeld => ?_)
          refine wpAnyH_ready (rs := [0]) (by kernel_rfl) (by simp) ?_
          refine AllReadyH.cons at0 (fun K hK => ?_) AllReadyH.nil
          go_simp
          refine (alive_any _).mono ?_
          rintro e w3 ⟨rfl, hb3⟩
          go_wp2_with fail
          refine hK.out _ _ hb3 (fun hHeld => ?_)
          clear hK K
          try simp only [Act.put, List.setIfInBounds_toArray, List.set_cons_zero, List.set_cons_succ]
          refine reg_on hb3 (fun hHeld => ?_)
          have HR3 := hid ((HR0.out.on hx0c).on hb3)
          have hcv3 : ∀ w', Ext w3 w' → (convert 22 9 (.slice (some ⟨w.heap.size, 0, none⟩) m m)).run Try.prog w' = .ok (.string ⟨(padL l).toArray⟩) w' := fun w' hb => (HR3.out.on hb).conv
          refine reg_take 1 (v := ?v3_1) (atS at0) (by kernel_rfl) (by kernel_rfl) (by kernel_rfl) (by rfl) ?hy3_1 hHeld ?rest3_1
          case hy3_1 => (intro w' hSw; go_simp; try with_reducible rfl)
          try simp only [Act.put, List.setIfInBounds_toArray, List.set_cons_zero, List.set_cons_succ]
          refine reg_take 2 (v := ?v3_2) (atS (atS at0)) (by kernel_rfl) (by kernel_rfl) (by kernel_rfl) (by rfl) ?hy3_2 hHeld ?rest3_2
          case hy3_2 => (intro w' hSw; go_simp; try with_reducible rfl)
          try simp only [Act.put, List.setIfInBounds_toArray, List.set_cons_zero, List.set_cons_succ]
          refine reg_take 5 (v := ?v3_5) (atS5 at0) (by kernel_rfl) (by kernel_rfl) (by kernel_rfl) (by rfl) ?hy3_5 hHeld ?rest3_5
          case hy3_5 => (intro w' hSw; go_simp; try with_reducible rfl)
          try simp only [Act.put, List.setIfInBounds_toArray, List.set_cons_zero, List.set_cons_succ]
          refine reg_take 6 (v := ?v3_6) (atS5 (atS at0)) (by kernel_rfl) (by kernel_rfl) (by kernel_rfl) (by rfl) ?hy3_6 hHeld ?rest3_6
          case hy3_6 => (intro w' hSw; go_simp; try with_reducible rfl)
          try simp only [Act.put, List.setIfInBounds_toArray, List.set_cons_zero, List.set_cons_succ]
          refine wpAnyH_ready (rs := [3]) (by kernel_rfl) (by simp) ?_
          refine AllReadyH.cons (atS (atS (atS at0))) (fun K hK => ?_) AllReadyH.nil
          go_simp
          refine (pad_any _ _ _ (padL l) _ HR3.out (by omega)).mono ?_
          rintro e w4 ⟨v, rfl, ho, hb4⟩
          go_wp2_with fail
          refine hK.out _ _ hb4 (fun hHeld => ?_)
          clear hK K
          try simp only [Act.put, List.setIfInBounds_toArray, List.set_cons_zero, List.set_cons_succ]
          refine reg_on hb4 (fun hHeld => ?_)
          obtain ⟨A4, c4, hv4, hr4⟩ := ho.rd
          have HR4 := hid hr4
          have hcv4 : ∀ w', Ext w4 w' → (convert 22 9 v).run Try.prog w' = .ok (.string ⟨(padL l).toArray⟩) w' := fun w' hb => by rw [hv4]; have := (HR4.out.on hb).conv; rw [padL_padL] at this ⊢; exact this
          clear ho hr4 hv4 hcv3
          refine reg_take 4 (v := ?v3_4) (atS (atS (atS (atS at0)))) (by kernel_rfl) (by kernel_rfl) (by kernel_rfl) (by rfl) ?hy3_4 hHeld ?rest3_4
          case hy3_4 => (intro w' hSw; go_simp; try with_reducible rfl)
          try simp only [Act.put, List.setIfInBounds_toArray, List.set_cons_zero, List.set_cons_succ]
          refine reg_take 7 (v := ?v3_7) (atS5 (atS (atS at0))) (by kernel_rfl) (by kernel_rfl) (by kernel_rfl) (by rfl) ?hy3_7 hHeld ?rest3_7
          case hy3_7 => (intro w' hSw; go_simp; try with_reducible rfl)
          try simp only [Act.put, List.setIfInBounds_toArray, List.set_cons_zero, List.set_cons_succ]
          refine reg_take 8 (v := ?v3_8) (atS5 (atS (atS (atS at0)))) (by kernel_rfl) (by kernel_rfl) (by kernel_rfl) (by rfl) ?hy3_8 hHeld ?rest3_8
          case hy3_8 => (intro w' hSw; go_simp; try with_reducible rfl)
          try simp only [Act.put, List.setIfInBounds_toArray, List.set_cons_zero, List.set_cons_succ]
          refine reg_take 9 (v := ?v3_9) (atS5 (atS (atS (atS (atS at0))))) (by kernel_rfl) (by kernel_rfl) (by kernel_rfl) (by rfl) ?hy3_9 hHeld ?rest3_9
          case hy3_9 => (intro w' hSw; go_simp; try with_reducible rfl)
          try simp only [Act.put, List.setIfInBounds_toArray, List.set_cons_zero, List.set_cons_succ]
          refine wpAnyH_done (by kernel_rfl) ?_ _
          refine NoPanic.normal ?_
          go_wp2_with fail
          go_ret
          exact ⟨rfl, Bt (Bt (Bt (Bt hb1 hx0) hx0c) hb3) hb4⟩
end Go.Proofs.Ytcnfilakbgoofaa
