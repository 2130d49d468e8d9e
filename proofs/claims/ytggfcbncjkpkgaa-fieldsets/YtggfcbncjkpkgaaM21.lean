/-
  The contract of alive of layer 6.
  The laws FieldLayouts, FieldNames, FieldNew: walks.
-/
import Derived.Test.YtggfcbncjkpkgaaM20

namespace Go.Proofs.Ytggfcbncjkpkgaa
open Go.RowKit
set_option linter.unusedVariables false

def l4 : List Fd := [⟨[97], 1, 0⟩, ⟨[98], 3, 0⟩, ⟨[99], 12, 3⟩, ⟨[100], 11, 0⟩]
theorem l4_right : rightL l4 = true := by decide +kernel
theorem l4_lay : layL l4 = [0, 4, 8, 16] ∧ layT l4 = 24 ∧ refL l4 = [16] ∧ findI l4 [100] = 3 ∧ (encE6 l4).1.length = 17 ∧ (encE6 l4).2 = 0 := by decide +kernel
theorem l4_set : ∃ S : List UInt8, setS6 (List.replicate 24 0) l4 [98] 3 258 ⟨#[]⟩ = (S, 0) ∧ S.length = 24 ∧ getR S l4 [98] = .tuple #[.agg #[.int .i64 3, .int .u64 258, .string ⟨#[]⟩], .int .i64 0] := by
  have hr := l4_right
  have hN : layN l4 = 24 := by decide +kernel
  have hi : l4[1]? = some ⟨[98], 3, 0⟩ := rfl
  have hp : (layP 0 l4)[1]? = some 4 := by decide +kernel
  have hv : rightF 3 258 (ByteArray.size ⟨#[]⟩) 3 0 = true := by decide +kernel
  have hn : U64 258 := ⟨by decide, by rw [pw8]; decide⟩
  have hs : (((List.replicate 24 (0 : UInt8)).length : Nat) : Int) = layN l4 := by rw [hN]; rfl
  refine ⟨setL (List.replicate 24 0) (4 : Int).toNat (encB 3 258 ⟨#[]⟩ 3 0), ?_, ?_, ?_⟩
  · rw [set_some ⟨hr, hs⟩ (i := 1) (f := ⟨[98], 3, 0⟩) (p := 4) (((rightL_iff.1 hr).2 1 _ hi).2.2) hi hp]
    simp only [hv, if_true]
  · rw [set_length (f := ⟨[98], 3, 0⟩) hr hs hi hp hv]; rfl
  · exact get_set_same (f := ⟨[98], 3, 0⟩) hr hs hi hp hn hv
theorem rd_l4 (w : World) : RdF (w.alloc (.cells #[.string ⟨#[97]⟩, .int .i64 1, .int .i64 0, .string ⟨#[98]⟩, .int .i64 3, .int .i64 0, .string ⟨#[99]⟩, .int .i64 12, .int .i64 3, .string ⟨#[100]⟩, .int .i64 11, .int .i64 0] 40)) (w.alloc (.cells #[.string ⟨#[97]⟩, .int .i64 1, .int .i64 0, .string ⟨#[98]⟩, .int .i64 3, .int .i64 0, .string ⟨#[99]⟩, .int .i64 12, .int .i64 3, .string ⟨#[100]⟩, .int .i64 11, .int .i64 0] 40)).heap.size (some ⟨w.heap.size, 0, none⟩) 4 4 l4 := by
  refine ⟨rfl, by omega, by unfold maxLen; omega, fun f hf => ?_, fun _ => ⟨w.heap.size, 0, rfl, by simp, fun i hi => ?_⟩⟩
  · simp only [l4, List.mem_cons, List.not_mem_nil, or_false] at hf
    rcases hf with rfl | rfl | rfl | rfl <;> exact ⟨i64_iff.2 (by decide), i64_iff.2 (by decide), by decide⟩
  · have : i = 0 ∨ i = 1 ∨ i = 2 ∨ i = 3 := by simp [l4] at hi; omega
    rcases this with rfl | rfl | rfl | rfl <;> exact ⟨row_cell (heap_alloc_new w _) _, row_cell (heap_alloc_new w _) _, row_cell (heap_alloc_new w _) _⟩
theorem short_l4 : short l4 := fun f hf => by
  simp only [l4, List.mem_cons, List.not_mem_nil, or_false] at hf
  rcases hf with rfl | rfl | rfl | rfl <;> decide
theorem rdI_new (w : World) (l : List Int) (hl : l.length ≤ 100) (hx : ∀ x ∈ l, I64 x) : RdI (w.alloc (.cells (l.map iv).toArray 3)) (w.alloc (.cells (l.map iv).toArray 3)).heap.size (some ⟨w.heap.size, 0, none⟩) l.length l.length l := by
  refine ⟨rfl, Nat.le_refl _, by unfold maxLen; omega, hx, fun _ => ⟨w.heap.size, 0, rfl, by simp, fun i hi => ?_⟩⟩
  rw [row_cell (heap_alloc_new w _), Nat.zero_add]
  simp [hi, iv]

set_option maxRecDepth 20000 in
set_option maxHeartbeats 4000000 in
theorem alive_any (w : World) : Calls Try.prog 12 #[] w fun e w' => e = .returned (.bool true) ∧ Below w.heap.size w w' := by
  obtain ⟨w0, hw0⟩ : ∃ w0, w0 = w.alloc (.cells #[.string ⟨#[97]⟩, .int .i64 1, .int .i64 0, .string ⟨#[98]⟩, .int .i64 3, .int .i64 0, .string ⟨#[99]⟩, .int .i64 12, .int .i64 3, .string ⟨#[100]⟩, .int .i64 11, .int .i64 0] 40) := ⟨_, rfl⟩
  have HW0 := hid hw0
  obtain ⟨lb, hlb⟩ : ∃ lb, lb = w.heap.size := ⟨_, rfl⟩
  have HLB := hid hlb
  have HB0 : Hid (Below w.heap.size w w0) := by rw [hw0]; exact B1 _ _
  have HL : Hid (RdF w0 w0.heap.size (some ⟨lb, 0, none⟩) 4 4 l4) := by rw [hw0, hlb]; exact rd_l4 w
  obtain ⟨S, hS, hSl, hSg⟩ := l4_set
  have HS := hid hS; have HSL := hid hSl; have HSG := hid hSg
  have HLY := hid l4_lay
  clear hw0 hlb hS hSl hSg
  have hbs98 : (⟨#[98]⟩ : ByteArray) = bs [98] := rfl
  go_enter Try.func12, Try.ntmps12
  go_wp2_with fail
  rw [← HW0.out, ← HLB.out]
  refine (p6layout_any HL.out short_l4).mono ?_
  rintro e w1 ⟨v1, rfl, ho1, hb1⟩
  obtain ⟨A1, c1, rfl, hr1⟩ := ho1.rd lay_I64
  rw [HLY.out.1] at hr1 ⊢
  rw [HLY.out.2.1]
  have HR1 := hid hr1; have HB1 := hid hb1
  have HL1 := hid (HL.out.on hb1)
  have HBW1 := hid (Bt HB0.out hb1)
  clear ho1 hr1 hb1
  go_wp2_with fail
  refine (p6new_any HL1.out short_l4).mono ?_
  rintro e w2 ⟨v2, rfl, ho2, hb2⟩
  rw [HLY.out.2.1] at ho2
  obtain ⟨A2, c2, rfl, hr2⟩ := ho2.rd
  have HR2 := hid hr2
  have HRl2 := hid (HR1.out.on hb2); have HL2 := hid (HL1.out.on hb2); have HBW2 := hid (Bt HBW1.out hb2)
  clear ho2 hr2 hb2
  go_wp2_with fail
  refine (p6set_any HL2.out short_l4 HR2.out (by simp) [98] 3 258 ⟨#[]⟩ ⟨by decide, by rw [pw8]; decide⟩).mono ?_
  rintro e w3 ⟨v3, rfl, ho3, hb3⟩
  rw [show (24 : Int).toNat = 24 from rfl, HS.out] at ho3 ⊢
  obtain ⟨A3, c3, rfl, hr3⟩ := ho3.rd
  have HR3 := hid hr3
  have HRl3 := hid (HRl2.out.on hb3); have HL3 := hid (HL2.out.on hb3); have HBW3 := hid (Bt HBW2.out hb3)
  clear ho3 hr3 hb3
  go_wp2_with fail
  refine (p6get_any HL3.out short_l4 HR3.out (by show S.length ≤ 100000; rw [HSL.out]; omega) [98]).mono ?_
  rintro e w4 ⟨rfl, hb4⟩
  rw [HSG.out]
  have HRl4 := hid (HRl3.out.on hb4); have HL4 := hid (HL3.out.on hb4); have HBW4 := hid (Bt HBW3.out hb4)
  clear hb4
  obtain ⟨w5, hw5⟩ : ∃ w5, w5 = w4.alloc (.cells #[.int .i64 3, .int .u64 258, .string ⟨#[]⟩] 37) := ⟨_, rfl⟩
  obtain ⟨vb, hvb⟩ : ∃ vb, vb = w4.heap.size := ⟨_, rfl⟩
  have HW5 := hid hw5; have HVB := hid hvb
  have HV5 : Hid (VB w5 vb 3 258 ⟨#[]⟩) := by rw [hw5, hvb]; exact vb_new w4 3 258 ⟨#[]⟩
  have hb5 : Below w4.heap.size w4 w5 := by rw [hw5]; exact B1 _ _
  have HRl5 := hid (HRl4.out.on hb5); have HL5 := hid (HL4.out.on hb5); have HBW5 := hid (Bt HBW4.out hb5)
  clear hw5 hvb hb5
  go_wp2_with fail
  rw [← HW5.out, ← HVB.out]
  refine (p6encode_any HL5.out short_l4).mono ?_
  rintro e w6 ⟨v6, rfl, ho6, hb6⟩
  obtain ⟨A6, c6, rfl, hr6⟩ := ho6.rd
  rw [HLY.out.2.2.2.2.1, HLY.out.2.2.2.2.2]
  have HRl6 := hid (HRl5.out.on hb6); have HL6 := hid (HL5.out.on hb6); have HBW6 := hid (Bt HBW5.out hb6); have HV6 := hid (HV5.out.on hb6)
  clear ho6 hr6 hb6
  obtain ⟨w7, hw7⟩ : ∃ w7, w7 = w6.alloc (.cells #[.int .i64 0, .int .i64 4, .int .i64 8, .int .i64 16] 3) := ⟨_, rfl⟩
  have HW7 := hid hw7
  have hb7 : Below w6.heap.size w6 w7 := by rw [hw7]; exact B1 _ _
  obtain ⟨ib, hib⟩ : ∃ ib, ib = w6.heap.size := ⟨_, rfl⟩
  have HIB := hid hib
  have HI7 : Hid (RdI w7 w7.heap.size (some ⟨ib, 0, none⟩) 4 4 [0, 4, 8, 16]) := by
    rw [hw7, hib]
    exact rdI_new w6 [0, 4, 8, 16] (by decide) (by intro x hx; simp at hx; rcases hx with rfl | rfl | rfl | rfl <;> exact i64_iff.2 (by decide))
  have HRl7 := hid (HRl6.out.on hb7); have HL7 := hid (HL6.out.on hb7); have HBW7 := hid (Bt HBW6.out hb7); have HV7 := hid (HV6.out.on hb7)
  clear hw7 hb7 hib
  go_wp2_with fail
  rw [← HW7.out, ← HIB.out]
  refine (same_any HRl7.out HI7.out rfl).mono ?_
  rintro e w8 ⟨rfl, hb8⟩
  have HL8 := hid (HL7.out.on hb8); have HBW8 := hid (Bt HBW7.out hb8); have HV8 := hid (HV7.out.on hb8)
  obtain ⟨v80, v81, v82⟩ := HV8.out.cells
  clear hb8
  go_wp2_with fail
  refine (p6refs_any HL8.out short_l4).mono ?_
  rintro e w9 ⟨v9, rfl, ho9, hb9⟩
  rw [HLY.out.2.2.1] at ho9
  obtain ⟨A9, c9, rfl, hr9⟩ := ho9.rd (by intro x hx; simp at hx; subst hx; exact i64_iff.2 (by decide))
  have HR9 := hid hr9
  have HL9 := hid (HL8.out.on hb9); have HBW9 := hid (Bt HBW8.out hb9)
  clear ho9 hr9 hb9 v80 v81 v82
  obtain ⟨w10, hw10⟩ : ∃ w10, w10 = w9.alloc (.cells #[.int .i64 16] 3) := ⟨_, rfl⟩
  have HW10 := hid hw10
  have hb10 : Below w9.heap.size w9 w10 := by rw [hw10]; exact B1 _ _
  obtain ⟨jb, hjb⟩ : ∃ jb, jb = w9.heap.size := ⟨_, rfl⟩
  have HJB := hid hjb
  have HI10 : Hid (RdI w10 w10.heap.size (some ⟨jb, 0, none⟩) 1 1 [16]) := by
    rw [hw10, hjb]
    exact rdI_new w9 [16] (by decide) (by intro x hx; simp at hx; subst hx; exact i64_iff.2 (by decide))
  have HR10 := hid (HR9.out.on hb10); have HL10 := hid (HL9.out.on hb10); have HBW10 := hid (Bt HBW9.out hb10)
  clear hw10 hb10 hjb
  go_wp2_with fail
  rw [← HW10.out, ← HJB.out]
  refine (same_any HR10.out HI10.out rfl).mono ?_
  rintro e w11 ⟨rfl, hb11⟩
  have HL11 := hid (HL10.out.on hb11); have HBW11 := hid (Bt HBW10.out hb11)
  clear hb11
  go_wp2_with fail
  refine (p6find_any HL11.out [100]).mono ?_
  rintro e w12 ⟨rfl, hb12⟩
  rw [HLY.out.2.2.2.1]
  have HBW12 := hid (Bt HBW11.out hb12)
  clear hb12
  go_wp2_with fail
  go_ret
  exact ⟨rfl, HBW12.out⟩
end Go.Proofs.Ytggfcbncjkpkgaa

namespace Go.Proofs.Ytggfcbncjkpkgaa
open Go.RowKit
set_option linter.unusedVariables false

theorem fewP.short {n : Nat} {l : List Fd} (h : fewP n l) : short l := fun f hf => by have := h.2 f hf; omega
theorem OwI.cap {w : World} {base : Nat} {v : Value} {l : List Int} (h : OwI w base v l) : ∃ A c, v = .slice A l.length c := by
  rcases h.2 with ⟨rfl, hn⟩ | ⟨g, cap, cur, rfl, _⟩
  · exact ⟨none, 0, by rw [hn]⟩
  · exact ⟨_, cap, rfl⟩

set_option maxRecDepth 20000 in
set_option maxHeartbeats 4000000 in
theorem walk_FieldLayouts (A : Option Addr) (n c : Nat) (l : List Fd) (nmb : ByteArray) (w : World) (h : RdF w w.heap.size A n c l) (hnb : nmb.size ≤ maxLen) :
    Calls Try.prog 3 #[.slice A n c, .string nmb] w fun e w' => e = .returned (.bool true) ∧ Below w.heap.size w w' := by
  obtain ⟨x, rfl⟩ : ∃ x, nmb = bs x := ⟨nmb.data.toList, by unfold bs; simp⟩
  have hxl : (x.length : Int) ≤ 9223372036854775807 := by
    have : x.length ≤ maxLen := hnb
    unfold maxLen at this; omega
  have H := hid h
  clear h hnb
  go_enter Try.func3, Try.ntmps3
  go_wp2_with fail
  refine (few6_any H.out).mono ?_
  rintro e w1 ⟨b, rfl, hfew, hb1⟩
  have HB1 := hid hb1; clear hb1
  cases b with
  | false =>
    clear hfew
    go_wp2_with fail
    refine (alive_any _).mono ?_
    rintro e w2 ⟨rfl, hb2⟩
    have HB2 := hid (Bt HB1.out hb2); clear hb2
    go_wp2_with fail
    go_ret
    exact ⟨rfl, HB2.out⟩
  | true =>
    have HS := hid (hfew rfl).short
    clear hfew
    by_cases hx : (x.length : Int) ≤ 1000
    case neg =>
      have d1 : decide (1000 < (x.length : Int)) = true := decide_eq_true (by omega)
      go_wp2_with fail
      refine (alive_any _).mono ?_
      rintro e w2 ⟨rfl, hb2⟩
      have HB2 := hid (Bt HB1.out hb2); clear hb2
      go_wp2_with fail
      go_ret
      exact ⟨rfl, HB2.out⟩
    have d1 : decide (1000 < (x.length : Int)) = false := decide_eq_false (by omega)
    go_wp2_with fail
    refine (p6layout_any (H.out.on HB1.out) HS.out).mono ?_
    rintro e w2 ⟨v2, rfl, ho2, hb2⟩
    have HB2 := hid (Bt HB1.out hb2)
    obtain ⟨A2, c2, rfl, hr2⟩ := ho2.rd lay_I64
    obtain ⟨M, hM⟩ : ∃ M, M = (layL l).length := ⟨_, rfl⟩
    obtain ⟨T, hT⟩ : ∃ T, T = layT l := ⟨_, rfl⟩
    rw [← hM] at hr2 ⊢
    rw [← hT]
    have HR2 := hid hr2; have HM := hid hM; have HT := hid hT
    clear ho2 hr2 hM hT hb2
    go_wp2_with fail
    refine (r6layout_any (H.out.on HB2.out) HS.out).mono ?_
    rintro e w3 ⟨v3, rfl, ho3, hb3⟩
    have HB3 := hid (Bt HB2.out hb3)
    obtain ⟨A3, c3, rfl, hr3⟩ := ho3.rd lay_I64
    rw [← HM.out] at hr3 ⊢
    rw [← HT.out]
    have HR23 := hid (HR2.out.on hb3); have HR3 := hid hr3
    clear ho3 hr3 hb3
    go_wp2_with fail
    refine (alive_any _).mono ?_
    rintro e w4 ⟨rfl, hb4⟩
    have HB4 := hid (Bt HB3.out hb4); have HR24 := hid (HR23.out.on hb4); have HR4 := hid (HR3.out.on hb4)
    clear hb4
    obtain ⟨R, hR⟩ : ∃ R, R = rightL l := ⟨_, rfl⟩
    have HRR := hid hR; clear hR
    go_wp2_with fail
    refine (p6right_any (H.out.on HB4.out) HS.out).mono ?_
    rintro e w5 ⟨rfl, hb5⟩
    rw [← HRR.out]
    have HB5 := hid (Bt HB4.out hb5); have HR25 := hid (HR24.out.on hb5); have HR5 := hid (HR4.out.on hb5)
    clear hb5
    go_wp2_with fail
    refine (r6right_any (H.out.on HB5.out) HS.out).mono ?_
    rintro e w6 ⟨rfl, hb6⟩
    rw [← HRR.out]
    have HB6 := hid (Bt HB5.out hb6); have HR26 := hid (HR25.out.on hb6); have HR6 := hid (HR5.out.on hb6)
    clear hb6
    go_wp2_with fail
    refine (same_any HR26.out HR6.out rfl).mono ?_
    rintro e w7 ⟨rfl, hb7⟩
    have HB7 := hid (Bt HB6.out hb7)
    clear hb7
    go_wp2_with fail
    refine (p6refs_any (H.out.on HB7.out) HS.out).mono ?_
    rintro e w8 ⟨v8, rfl, ho8, hb8⟩
    have HB8 := hid (Bt HB7.out hb8); have HO8 := hid ho8
    clear ho8 hb8
    go_wp2_with fail
    refine (r6refs_any (H.out.on HB8.out) HS.out).mono ?_
    rintro e w9 ⟨v9, rfl, ho9, hb9⟩
    have hrI : ∀ x ∈ refL l, I64 x := fun x hx => by
      have := ref_bd hx
      exact i64_iff.2 (by omega)
    obtain ⟨A8, c8, hv8, hr8⟩ := (HO8.out.on hb9).rd hrI
    subst hv8
    obtain ⟨A9, c9, rfl, hr9⟩ := ho9.rd hrI
    obtain ⟨K, hK⟩ : ∃ K, K = (refL l).length := ⟨_, rfl⟩
    rw [← hK] at hr8 hr9 ⊢
    have HB9 := hid (Bt HB8.out hb9); have HR8 := hid hr8; have HR9 := hid hr9
    clear ho9 hb9 hr8 hr9 hrI hK
    go_wp2_with fail
    refine (same_any HR8.out HR9.out rfl).mono ?_
    rintro e w10 ⟨rfl, hb10⟩
    have HB10 := hid (Bt HB9.out hb10)
    clear hb10
    go_wp2_with fail
    refine (p6new_any (H.out.on HB10.out) HS.out).mono ?_
    rintro e w11 ⟨v11, rfl, ho11, hb11⟩
    obtain ⟨A11, c11, rfl, hr11⟩ := ho11.rd
    have hTb := layT_bd l
    rw [← HT.out] at hTb hr11 ⊢
    obtain ⟨Tn, hTn⟩ : ∃ Tn : Nat, T = (Tn : Int) := ⟨T.toNat, by omega⟩
    have hlen : (List.replicate T.toNat (0 : UInt8)).length = Tn := by rw [List.length_replicate]; omega
    rw [hlen]
    subst hTn
    have HB11 := hid (Bt HB10.out hb11)
    clear ho11 hr11 hb11 hlen hTb
    go_wp2_with fail
    refine (p6find_any (H.out.on HB11.out) x).mono ?_
    rintro e w12 ⟨rfl, hb12⟩
    obtain ⟨F, hF⟩ : ∃ F, F = findI l x := ⟨_, rfl⟩
    rw [← hF]
    have HF := hid hF
    have HB12 := hid (Bt HB11.out hb12)
    clear hb12 hF
    go_wp2_with fail
    refine (r6find_any (H.out.on HB12.out) x).mono ?_
    rintro e w13 ⟨rfl, hb13⟩
    rw [← HF.out]
    have HB13 := hid (Bt HB12.out hb13)
    clear hb13
    go_wp2_with fail
    refine (p6name_any x (by omega)).mono ?_
    rintro e w14 ⟨rfl, hb14⟩
    obtain ⟨nb, hnb⟩ : ∃ nb, nb = nameB x := ⟨_, rfl⟩
    rw [← hnb]
    have HNB := hid hnb
    have HB14 := hid (Bt HB13.out hb14)
    clear hb14 hnb
    go_wp2_with fail
    refine (r6name_any x (by omega)).mono ?_
    rintro e w15 ⟨rfl, hb15⟩
    rw [← HNB.out]
    have HB15 := hid (Bt HB14.out hb15)
    clear hb15
    go_wp2_with fail
    go_ret
    exact ⟨by simp, HB15.out⟩
end Go.Proofs.Ytggfcbncjkpkgaa
