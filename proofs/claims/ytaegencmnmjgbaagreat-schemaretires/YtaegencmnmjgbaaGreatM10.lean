/-
  Contract of the document's Cast (written by tools/kinde.py).
-/
import Derived.Test.YtaegencmnmjgbaaGreatM7
import Derived.Test.YtaegencmnmjgbaaGreatM5
import Derived.Test.YtaegencmnmjgbaaGreatM9

namespace Go.Proofs.YtaegencmnmjgbaaGreat
open Go.RowKit
set_option linter.unusedVariables false
set_option linter.unusedSimpArgs false
def castN (n k k' : Int) : Int :=
  if k' = 10 then (if k ≤ 4 then (floatW n.toNat false : Nat) else if k ≤ 8 then (if 9223372036854775808 ≤ n then (floatW (18446744073709551616 - n).toNat true : Nat) else (floatW n.toNat false : Nat)) else n)
  else if k' = 8 ∧ k = 10 then IntKind.u64.wrap (wholeN n.toNat) else n
def castT (t : ByteArray) (k' g' : Int) : ByteArray := if k' = 12 then (t ++ zs g'.toNat).extract 0 g'.toNat else ⟨#[]⟩
def castE (vk n : Int) (m : Nat) (k g k' g' : Int) : Int := if rightF vk n m k g then (if castsF k g k' g' then 0 else 51) else 50
def castR (vk n : Int) (t : ByteArray) (k g k' g' : Int) : Value :=
  if castE vk n t.size k g k' g' = 0 then .tuple #[.agg #[.int .i64 k', .int .u64 (castN n k k'), .string (castT t k' g')], .int .i64 0]
  else .tuple #[.agg #[.int .i64 0, .int .u64 0, .string ⟨#[]⟩], .int .i64 (castE vk n t.size k g k' g')]
theorem castR_ok {vk n : Int} {t : ByteArray} {k g k' g' : Int} (h : rightF vk n t.size k g = true) (h' : castsF k g k' g' = true) : castR vk n t k g k' g' = .tuple #[.agg #[.int .i64 k', .int .u64 (castN n k k'), .string (castT t k' g')], .int .i64 0] := by simp [castR, castE, h, h']
theorem castR_50 {vk n : Int} {t : ByteArray} {k g k' g' : Int} (h : rightF vk n t.size k g = false) : castR vk n t k g k' g' = .tuple #[.agg #[.int .i64 0, .int .u64 0, .string ⟨#[]⟩], .int .i64 50] := by simp [castR, castE, h]
theorem castR_51 {vk n : Int} {t : ByteArray} {k g k' g' : Int} (h : rightF vk n t.size k g = true) (h' : castsF k g k' g' = false) : castR vk n t k g k' g' = .tuple #[.agg #[.int .i64 0, .int .u64 0, .string ⟨#[]⟩], .int .i64 51] := by simp [castR, castE, h, h']
theorem run_textV (k n : Int) (t : ByteArray) (w : World) : (Instr.field 71 (.agg #[.int .i64 k, .int .u64 n, .string t]) 2).run Tryz.prog w = .ok (.string t) w := by
  simp [Instr.field, run_underlying Tryz.underlying71, asAgg, part, go_sem]
theorem rfloat_pos (n : Int) (w : World) (hn : U64 n) :
    Calls Tryz.prog 134 #[.int .u64 n, .bool false] w fun e w' => e = .returned (.int .u64 (floatW n.toNat false : Nat)) ∧ w = w' := by
  by_cases h0 : n = 0
  · subst h0
    go_enter Tryz.func134, Tryz.ntmps134
    go_wp2_with fail
    go_ret
    exact ⟨rfl, rfl⟩
  · exact rfloat_any n false w hn h0
theorem vb_new4 (w : World) (o o' o'' : Obj) (k n : Int) (t : ByteArray) : VB ((((w.alloc o).alloc o').alloc o'').alloc (.cells #[.int .i64 k, .int .u64 n, .string t] 71)) (w.heap.size + 1 + 1 + 1) k n t := by
  have h := vb_new3 (w.alloc o) o' o'' k n t
  rwa [World.size_alloc] at h
set_option maxHeartbeats 2000000 in
theorem rcast_50 (vk n : Int) (t nm nm' : ByteArray) (k g k' g' : Int) (w : World) (hn : U64 n) (hr : rightF vk n t.size k g = false) :
    Calls Tryz.prog 97 #[.agg #[.int .i64 vk, .int .u64 n, .string t], .agg #[.string nm, .int .i64 k, .int .i64 g], .agg #[.string nm', .int .i64 k', .int .i64 g']] w fun e w' => e = .returned (castR vk n t k g k' g') ∧ Below w.heap.size w w' := by
  go_enter Tryz.func97, Tryz.ntmps97
  go_wp2_with fail
  go_at_call 116
  refine (rright_any _ _ _ _ _ _ _ hn).mono ?_
  rintro e w1 ⟨rfl, hb1⟩
  rw [hr]
  have hV := ((((vb_new w vk n t).alloc (.cells #[.string nm, .int .i64 k, .int .i64 g] 68)).alloc (.cells #[.string nm', .int .i64 k', .int .i64 g'] 68)).alloc (.cells #[.int .i64 0, .int .u64 0, .string ⟨#[]⟩] 71)).on hb1
  have hF := (((fb_new2 w (.cells #[.int .i64 vk, .int .u64 n, .string t] 71) nm k g).alloc (.cells #[.string nm', .int .i64 k', .int .i64 g'] 68)).alloc (.cells #[.int .i64 0, .int .u64 0, .string ⟨#[]⟩] 71)).on hb1
  have hT := ((fb_new3 w (.cells #[.int .i64 vk, .int .u64 n, .string t] 71) (.cells #[.string nm, .int .i64 k, .int .i64 g] 68) nm' k' g').alloc (.cells #[.int .i64 0, .int .u64 0, .string ⟨#[]⟩] 71)).on hb1
  have hR := (vb_new4 w (.cells #[.int .i64 vk, .int .u64 n, .string t] 71) (.cells #[.string nm, .int .i64 k, .int .i64 g] 68) (.cells #[.string nm', .int .i64 k', .int .i64 g'] 68) 0 0 ⟨#[]⟩).on hb1
  have hbw : Below w.heap.size w w1 := Bt (Ba (Ba (Ba (B1 _ _) _) _) _) hb1
  clear hb1
  obtain ⟨r0, r1, r2⟩ := hR.cells
  have g0 := hR.frozen 0
  have g1 := hR.frozen 1
  have g2 := hR.frozen 2
  go_wp2_with fail
  refine ret_VBe (by rfl) (by rfl) (((hR.setKind 0).setBits 0).setText ⟨#[]⟩) (by rfl) (by rfl) ⟨by rw [castR_50 hr]; rfl, ?_⟩
  exact ((hbw.setCell (by simp; omega) _).setCell (by simp; omega) _).setCell (by simp; omega) _
set_option maxHeartbeats 2000000 in
theorem rcast_51 (vk n : Int) (t nm nm' : ByteArray) (k g k' g' : Int) (w : World) (hn : U64 n) (hr : rightF vk n t.size k g = true) (hc : castsF k g k' g' = false) :
    Calls Tryz.prog 97 #[.agg #[.int .i64 vk, .int .u64 n, .string t], .agg #[.string nm, .int .i64 k, .int .i64 g], .agg #[.string nm', .int .i64 k', .int .i64 g']] w fun e w' => e = .returned (castR vk n t k g k' g') ∧ Below w.heap.size w w' := by
  go_enter Tryz.func97, Tryz.ntmps97
  go_wp2_with fail
  go_at_call 116
  refine (rright_any _ _ _ _ _ _ _ hn).mono ?_
  rintro e w1 ⟨rfl, hb1⟩
  rw [hr]
  have hV := ((((vb_new w vk n t).alloc (.cells #[.string nm, .int .i64 k, .int .i64 g] 68)).alloc (.cells #[.string nm', .int .i64 k', .int .i64 g'] 68)).alloc (.cells #[.int .i64 0, .int .u64 0, .string ⟨#[]⟩] 71)).on hb1
  have hF := (((fb_new2 w (.cells #[.int .i64 vk, .int .u64 n, .string t] 71) nm k g).alloc (.cells #[.string nm', .int .i64 k', .int .i64 g'] 68)).alloc (.cells #[.int .i64 0, .int .u64 0, .string ⟨#[]⟩] 71)).on hb1
  have hT := ((fb_new3 w (.cells #[.int .i64 vk, .int .u64 n, .string t] 71) (.cells #[.string nm, .int .i64 k, .int .i64 g] 68) nm' k' g').alloc (.cells #[.int .i64 0, .int .u64 0, .string ⟨#[]⟩] 71)).on hb1
  have hR := (vb_new4 w (.cells #[.int .i64 vk, .int .u64 n, .string t] 71) (.cells #[.string nm, .int .i64 k, .int .i64 g] 68) (.cells #[.string nm', .int .i64 k', .int .i64 g'] 68) 0 0 ⟨#[]⟩).on hb1
  have hbw : Below w.heap.size w w1 := Bt (Ba (Ba (Ba (B1 _ _) _) _) _) hb1
  clear hb1
  obtain ⟨x0, x1, x2⟩ := hF.cells
  obtain ⟨y0, y1, y2⟩ := hT.cells
  go_wp2_with fail
  go_at_call 117
  refine (rcasts_any _ _ _ _ _ _ _).mono ?_
  rintro e w2 ⟨rfl, hb2⟩
  rw [hc]
  clear x0 x1 x2 y0 y1 y2
  have hV := hV.on hb2
  have hF := hF.on hb2
  have hT := hT.on hb2
  have hR := hR.on hb2
  have hbw := Bt hbw hb2
  clear hb2
  obtain ⟨r0, r1, r2⟩ := hR.cells
  have g0 := hR.frozen 0
  have g1 := hR.frozen 1
  have g2 := hR.frozen 2
  go_wp2_with fail
  refine ret_VBe (by rfl) (by rfl) (((hR.setKind 0).setBits 0).setText ⟨#[]⟩) (by rfl) (by rfl) ⟨by rw [castR_51 hr hc]; rfl, ?_⟩
  exact ((hbw.setCell (by simp; omega) _).setCell (by simp; omega) _).setCell (by simp; omega) _
set_option maxHeartbeats 2000000 in
theorem rcast_T8 (vk n : Int) (t nm nm' : ByteArray) (k g k' g' : Int) (w : World) (hn : U64 n) (hr : rightF vk n t.size k g = true) (hc : castsF k g k' g' = true) (hl : k' ≠ 8 ∧ k' ≠ 10 ∧ k' ≠ 12) :
    Calls Tryz.prog 97 #[.agg #[.int .i64 vk, .int .u64 n, .string t], .agg #[.string nm, .int .i64 k, .int .i64 g], .agg #[.string nm', .int .i64 k', .int .i64 g']] w fun e w' => e = .returned (castR vk n t k g k' g') ∧ Below w.heap.size w w' := by
  have bt12 : (k' == 12) = false := by simp; omega
  have bt10 : (k' == 10) = false := by simp; omega
  have bt8 : (k' == 8) = false := by simp; omega
  have hN : castN n k k' = n := by
    unfold castN
    rw [if_neg (by omega), if_neg (by omega)]
  have hTt : castT t k' g' = ⟨#[]⟩ := by rw [castT, if_neg (by omega)]
  clear hl
  go_enter Tryz.func97, Tryz.ntmps97
  go_wp2_with fail
  go_at_call 116
  refine (rright_any _ _ _ _ _ _ _ hn).mono ?_
  rintro e w1 ⟨rfl, hb1⟩
  rw [hr]
  have hV := ((((vb_new w vk n t).alloc (.cells #[.string nm, .int .i64 k, .int .i64 g] 68)).alloc (.cells #[.string nm', .int .i64 k', .int .i64 g'] 68)).alloc (.cells #[.int .i64 0, .int .u64 0, .string ⟨#[]⟩] 71)).on hb1
  have hF := (((fb_new2 w (.cells #[.int .i64 vk, .int .u64 n, .string t] 71) nm k g).alloc (.cells #[.string nm', .int .i64 k', .int .i64 g'] 68)).alloc (.cells #[.int .i64 0, .int .u64 0, .string ⟨#[]⟩] 71)).on hb1
  have hT := ((fb_new3 w (.cells #[.int .i64 vk, .int .u64 n, .string t] 71) (.cells #[.string nm, .int .i64 k, .int .i64 g] 68) nm' k' g').alloc (.cells #[.int .i64 0, .int .u64 0, .string ⟨#[]⟩] 71)).on hb1
  have hR := (vb_new4 w (.cells #[.int .i64 vk, .int .u64 n, .string t] 71) (.cells #[.string nm, .int .i64 k, .int .i64 g] 68) (.cells #[.string nm', .int .i64 k', .int .i64 g'] 68) 0 0 ⟨#[]⟩).on hb1
  have hbw : Below w.heap.size w w1 := Bt (Ba (Ba (Ba (B1 _ _) _) _) _) hb1
  clear hb1
  obtain ⟨x0, x1, x2⟩ := hF.cells
  obtain ⟨y0, y1, y2⟩ := hT.cells
  go_wp2_with fail
  go_at_call 117
  refine (rcasts_any _ _ _ _ _ _ _).mono ?_
  rintro e w2 ⟨rfl, hb2⟩
  rw [hc]
  clear x0 x1 x2 y0 y1 y2
  have hV := hV.on hb2
  have hF := hF.on hb2
  have hT := hT.on hb2
  have hR := hR.on hb2
  have hbw := Bt hbw hb2
  clear hb2
  have l3 : w.heap.size + 1 + 1 + 1 < w2.heap.size := hR.lt
  have l0 : w.heap.size < w2.heap.size := by omega
  have l1 : w.heap.size + 1 < w2.heap.size := by omega
  have l2 : w.heap.size + 1 + 1 < w2.heap.size := by omega
  obtain ⟨v0, v1, v2⟩ := hV.cells
  obtain ⟨x0, x1, x2⟩ := hF.cells
  obtain ⟨y0, y1, y2⟩ := hT.cells
  obtain ⟨r0, r1, r2⟩ := hR.cells
  have g0 := hR.frozen 0
  have g1 := hR.frozen 1
  have g2 := hR.frozen 2
  go_wp2_with fail
  refine ret_VBe (by rfl) (by rfl) ((((hR.setKind _).setBits _).setText _).alloc _) (by rfl) (by rfl) ⟨by rw [castR_ok hr hc, hN, hTt]; rfl, ?_⟩
  exact (((hbw.setCell (by simp; omega) _).setCell (by simp; omega) _).setCell (by simp; omega) _).alloc (by simp; omega) _
set_option maxHeartbeats 2000000 in
theorem rcast_T7 (vk n : Int) (t nm nm' : ByteArray) (k g k' g' : Int) (w : World) (hn : U64 n) (hr : rightF vk n t.size k g = true) (hc : castsF k g k' g' = true) (hl : k' = 8 ∧ k ≠ 10) :
    Calls Tryz.prog 97 #[.agg #[.int .i64 vk, .int .u64 n, .string t], .agg #[.string nm, .int .i64 k, .int .i64 g], .agg #[.string nm', .int .i64 k', .int .i64 g']] w fun e w' => e = .returned (castR vk n t k g k' g') ∧ Below w.heap.size w w' := by
  have bt12 : (k' == 12) = false := by simp; omega
  have bt10 : (k' == 10) = false := by simp; omega
  have bt8 : (k' == 8) = true := by simp; omega
  have bf10 : (k == 10) = false := by simp; omega
  have hN : castN n k k' = n := by
    unfold castN
    rw [if_neg (by omega), if_neg (by omega)]
  have hTt : castT t k' g' = ⟨#[]⟩ := by rw [castT, if_neg (by omega)]
  clear hl
  go_enter Tryz.func97, Tryz.ntmps97
  go_wp2_with fail
  go_at_call 116
  refine (rright_any _ _ _ _ _ _ _ hn).mono ?_
  rintro e w1 ⟨rfl, hb1⟩
  rw [hr]
  have hV := ((((vb_new w vk n t).alloc (.cells #[.string nm, .int .i64 k, .int .i64 g] 68)).alloc (.cells #[.string nm', .int .i64 k', .int .i64 g'] 68)).alloc (.cells #[.int .i64 0, .int .u64 0, .string ⟨#[]⟩] 71)).on hb1
  have hF := (((fb_new2 w (.cells #[.int .i64 vk, .int .u64 n, .string t] 71) nm k g).alloc (.cells #[.string nm', .int .i64 k', .int .i64 g'] 68)).alloc (.cells #[.int .i64 0, .int .u64 0, .string ⟨#[]⟩] 71)).on hb1
  have hT := ((fb_new3 w (.cells #[.int .i64 vk, .int .u64 n, .string t] 71) (.cells #[.string nm, .int .i64 k, .int .i64 g] 68) nm' k' g').alloc (.cells #[.int .i64 0, .int .u64 0, .string ⟨#[]⟩] 71)).on hb1
  have hR := (vb_new4 w (.cells #[.int .i64 vk, .int .u64 n, .string t] 71) (.cells #[.string nm, .int .i64 k, .int .i64 g] 68) (.cells #[.string nm', .int .i64 k', .int .i64 g'] 68) 0 0 ⟨#[]⟩).on hb1
  have hbw : Below w.heap.size w w1 := Bt (Ba (Ba (Ba (B1 _ _) _) _) _) hb1
  clear hb1
  obtain ⟨x0, x1, x2⟩ := hF.cells
  obtain ⟨y0, y1, y2⟩ := hT.cells
  go_wp2_with fail
  go_at_call 117
  refine (rcasts_any _ _ _ _ _ _ _).mono ?_
  rintro e w2 ⟨rfl, hb2⟩
  rw [hc]
  clear x0 x1 x2 y0 y1 y2
  have hV := hV.on hb2
  have hF := hF.on hb2
  have hT := hT.on hb2
  have hR := hR.on hb2
  have hbw := Bt hbw hb2
  clear hb2
  have l3 : w.heap.size + 1 + 1 + 1 < w2.heap.size := hR.lt
  have l0 : w.heap.size < w2.heap.size := by omega
  have l1 : w.heap.size + 1 < w2.heap.size := by omega
  have l2 : w.heap.size + 1 + 1 < w2.heap.size := by omega
  obtain ⟨v0, v1, v2⟩ := hV.cells
  obtain ⟨x0, x1, x2⟩ := hF.cells
  obtain ⟨y0, y1, y2⟩ := hT.cells
  obtain ⟨r0, r1, r2⟩ := hR.cells
  have g0 := hR.frozen 0
  have g1 := hR.frozen 1
  have g2 := hR.frozen 2
  go_wp2_with fail
  refine ret_VBe (by rfl) (by rfl) ((((hR.setKind _).setBits _).setText _).alloc _) (by rfl) (by rfl) ⟨by rw [castR_ok hr hc, hN, hTt]; rfl, ?_⟩
  exact (((hbw.setCell (by simp; omega) _).setCell (by simp; omega) _).setCell (by simp; omega) _).alloc (by simp; omega) _
set_option maxHeartbeats 2000000 in
theorem rcast_T5 (vk n : Int) (t nm nm' : ByteArray) (k g k' g' : Int) (w : World) (hn : U64 n) (hr : rightF vk n t.size k g = true) (hc : castsF k g k' g' = true) (hl : k' = 10 ∧ 8 < k) :
    Calls Tryz.prog 97 #[.agg #[.int .i64 vk, .int .u64 n, .string t], .agg #[.string nm, .int .i64 k, .int .i64 g], .agg #[.string nm', .int .i64 k', .int .i64 g']] w fun e w' => e = .returned (castR vk n t k g k' g') ∧ Below w.heap.size w w' := by
  have bt12 : (k' == 12) = false := by simp; omega
  have bt10 : (k' == 10) = true := by simp; omega
  have bf4 : decide (k ≤ 4) = false := by simp; omega
  have bf5 : decide (5 ≤ k) = true := by simp; omega
  have bf8 : decide (k ≤ 8) = false := by simp; omega
  have bt8 : (k' == 8) = false := by simp; omega
  have hN : castN n k k' = n := by
    unfold castN
    rw [if_pos (by omega), if_neg (by omega), if_neg (by omega)]
  have hTt : castT t k' g' = ⟨#[]⟩ := by rw [castT, if_neg (by omega)]
  clear hl
  go_enter Tryz.func97, Tryz.ntmps97
  go_wp2_with fail
  go_at_call 116
  refine (rright_any _ _ _ _ _ _ _ hn).mono ?_
  rintro e w1 ⟨rfl, hb1⟩
  rw [hr]
  have hV := ((((vb_new w vk n t).alloc (.cells #[.string nm, .int .i64 k, .int .i64 g] 68)).alloc (.cells #[.string nm', .int .i64 k', .int .i64 g'] 68)).alloc (.cells #[.int .i64 0, .int .u64 0, .string ⟨#[]⟩] 71)).on hb1
  have hF := (((fb_new2 w (.cells #[.int .i64 vk, .int .u64 n, .string t] 71) nm k g).alloc (.cells #[.string nm', .int .i64 k', .int .i64 g'] 68)).alloc (.cells #[.int .i64 0, .int .u64 0, .string ⟨#[]⟩] 71)).on hb1
  have hT := ((fb_new3 w (.cells #[.int .i64 vk, .int .u64 n, .string t] 71) (.cells #[.string nm, .int .i64 k, .int .i64 g] 68) nm' k' g').alloc (.cells #[.int .i64 0, .int .u64 0, .string ⟨#[]⟩] 71)).on hb1
  have hR := (vb_new4 w (.cells #[.int .i64 vk, .int .u64 n, .string t] 71) (.cells #[.string nm, .int .i64 k, .int .i64 g] 68) (.cells #[.string nm', .int .i64 k', .int .i64 g'] 68) 0 0 ⟨#[]⟩).on hb1
  have hbw : Below w.heap.size w w1 := Bt (Ba (Ba (Ba (B1 _ _) _) _) _) hb1
  clear hb1
  obtain ⟨x0, x1, x2⟩ := hF.cells
  obtain ⟨y0, y1, y2⟩ := hT.cells
  go_wp2_with fail
  go_at_call 117
  refine (rcasts_any _ _ _ _ _ _ _).mono ?_
  rintro e w2 ⟨rfl, hb2⟩
  rw [hc]
  clear x0 x1 x2 y0 y1 y2
  have hV := hV.on hb2
  have hF := hF.on hb2
  have hT := hT.on hb2
  have hR := hR.on hb2
  have hbw := Bt hbw hb2
  clear hb2
  have l3 : w.heap.size + 1 + 1 + 1 < w2.heap.size := hR.lt
  have l0 : w.heap.size < w2.heap.size := by omega
  have l1 : w.heap.size + 1 < w2.heap.size := by omega
  have l2 : w.heap.size + 1 + 1 < w2.heap.size := by omega
  obtain ⟨v0, v1, v2⟩ := hV.cells
  obtain ⟨x0, x1, x2⟩ := hF.cells
  obtain ⟨y0, y1, y2⟩ := hT.cells
  obtain ⟨r0, r1, r2⟩ := hR.cells
  have g0 := hR.frozen 0
  have g1 := hR.frozen 1
  have g2 := hR.frozen 2
  go_wp2_with fail
  refine ret_VBe (by rfl) (by rfl) ((((hR.setKind _).setBits _).setText _).alloc _) (by rfl) (by rfl) ⟨by rw [castR_ok hr hc, hN, hTt]; rfl, ?_⟩
  exact (((hbw.setCell (by simp; omega) _).setCell (by simp; omega) _).setCell (by simp; omega) _).alloc (by simp; omega) _
set_option maxHeartbeats 2000000 in
theorem rcast_T2 (vk n : Int) (t nm nm' : ByteArray) (k g k' g' : Int) (w : World) (hn : U64 n) (hr : rightF vk n t.size k g = true) (hc : castsF k g k' g' = true) (hl : k' = 10 ∧ k ≤ 4) :
    Calls Tryz.prog 97 #[.agg #[.int .i64 vk, .int .u64 n, .string t], .agg #[.string nm, .int .i64 k, .int .i64 g], .agg #[.string nm', .int .i64 k', .int .i64 g']] w fun e w' => e = .returned (castR vk n t k g k' g') ∧ Below w.heap.size w w' := by
  have bt12 : (k' == 12) = false := by simp; omega
  have bt10 : (k' == 10) = true := by simp; omega
  have bf4 : decide (k ≤ 4) = true := by simp; omega
  have bf5 : decide (5 ≤ k) = false := by simp; omega
  have bt8 : (k' == 8) = false := by simp; omega
  have hN : castN n k k' = ((floatW n.toNat false : Nat) : Int) := by
    unfold castN
    rw [if_pos (by omega), if_pos (by omega)]
  have hTt : castT t k' g' = ⟨#[]⟩ := by rw [castT, if_neg (by omega)]
  clear hl
  go_enter Tryz.func97, Tryz.ntmps97
  go_wp2_with fail
  go_at_call 116
  refine (rright_any _ _ _ _ _ _ _ hn).mono ?_
  rintro e w1 ⟨rfl, hb1⟩
  rw [hr]
  have hV := ((((vb_new w vk n t).alloc (.cells #[.string nm, .int .i64 k, .int .i64 g] 68)).alloc (.cells #[.string nm', .int .i64 k', .int .i64 g'] 68)).alloc (.cells #[.int .i64 0, .int .u64 0, .string ⟨#[]⟩] 71)).on hb1
  have hF := (((fb_new2 w (.cells #[.int .i64 vk, .int .u64 n, .string t] 71) nm k g).alloc (.cells #[.string nm', .int .i64 k', .int .i64 g'] 68)).alloc (.cells #[.int .i64 0, .int .u64 0, .string ⟨#[]⟩] 71)).on hb1
  have hT := ((fb_new3 w (.cells #[.int .i64 vk, .int .u64 n, .string t] 71) (.cells #[.string nm, .int .i64 k, .int .i64 g] 68) nm' k' g').alloc (.cells #[.int .i64 0, .int .u64 0, .string ⟨#[]⟩] 71)).on hb1
  have hR := (vb_new4 w (.cells #[.int .i64 vk, .int .u64 n, .string t] 71) (.cells #[.string nm, .int .i64 k, .int .i64 g] 68) (.cells #[.string nm', .int .i64 k', .int .i64 g'] 68) 0 0 ⟨#[]⟩).on hb1
  have hbw : Below w.heap.size w w1 := Bt (Ba (Ba (Ba (B1 _ _) _) _) _) hb1
  clear hb1
  obtain ⟨x0, x1, x2⟩ := hF.cells
  obtain ⟨y0, y1, y2⟩ := hT.cells
  go_wp2_with fail
  go_at_call 117
  refine (rcasts_any _ _ _ _ _ _ _).mono ?_
  rintro e w2 ⟨rfl, hb2⟩
  rw [hc]
  clear x0 x1 x2 y0 y1 y2
  have hV := hV.on hb2
  have hF := hF.on hb2
  have hT := hT.on hb2
  have hR := hR.on hb2
  have hbw := Bt hbw hb2
  clear hb2
  have l3 : w.heap.size + 1 + 1 + 1 < w2.heap.size := hR.lt
  have l0 : w.heap.size < w2.heap.size := by omega
  have l1 : w.heap.size + 1 < w2.heap.size := by omega
  have l2 : w.heap.size + 1 + 1 < w2.heap.size := by omega
  obtain ⟨v0, v1, v2⟩ := hV.cells
  obtain ⟨x0, x1, x2⟩ := hF.cells
  obtain ⟨y0, y1, y2⟩ := hT.cells
  obtain ⟨r0, r1, r2⟩ := hR.cells
  have g0 := hR.frozen 0
  have g1 := hR.frozen 1
  have g2 := hR.frozen 2
  go_wp2_with fail
  go_at_call 134
  refine (rfloat_pos _ _ hn).mono ?_
  rintro e w' ⟨rfl, rfl⟩
  go_wp2_with fail
  refine ret_VBe (by rfl) (by rfl) ((((hR.setKind _).setBits _).setText _).alloc _) (by rfl) (by rfl) ⟨by rw [castR_ok hr hc, hN, hTt]; rfl, ?_⟩
  exact (((hbw.setCell (by simp; omega) _).setCell (by simp; omega) _).setCell (by simp; omega) _).alloc (by simp; omega) _
set_option maxHeartbeats 2000000 in
theorem rcast_T3 (vk n : Int) (t nm nm' : ByteArray) (k g k' g' : Int) (w : World) (hn : U64 n) (hr : rightF vk n t.size k g = true) (hc : castsF k g k' g' = true) (hl : k' = 10 ∧ 5 ≤ k ∧ k ≤ 8 ∧ n < 9223372036854775808) :
    Calls Tryz.prog 97 #[.agg #[.int .i64 vk, .int .u64 n, .string t], .agg #[.string nm, .int .i64 k, .int .i64 g], .agg #[.string nm', .int .i64 k', .int .i64 g']] w fun e w' => e = .returned (castR vk n t k g k' g') ∧ Below w.heap.size w w' := by
  have bt12 : (k' == 12) = false := by simp; omega
  have bt10 : (k' == 10) = true := by simp; omega
  have bf4 : decide (k ≤ 4) = false := by simp; omega
  have bf5 : decide (5 ≤ k) = true := by simp; omega
  have bf8 : decide (k ≤ 8) = true := by simp; omega
  have bt8 : (k' == 8) = false := by simp; omega
  have hN : castN n k k' = ((floatW n.toNat false : Nat) : Int) := by
    unfold castN
    rw [if_pos (by omega), if_neg (by omega), if_pos (by omega), if_neg (by omega)]
  have hTt : castT t k' g' = ⟨#[]⟩ := by rw [castT, if_neg (by omega)]
  have bs : decide (9223372036854775808 ≤ n) = false := by simp; omega
  clear hl
  go_enter Tryz.func97, Tryz.ntmps97
  go_wp2_with fail
  go_at_call 116
  refine (rright_any _ _ _ _ _ _ _ hn).mono ?_
  rintro e w1 ⟨rfl, hb1⟩
  rw [hr]
  have hV := ((((vb_new w vk n t).alloc (.cells #[.string nm, .int .i64 k, .int .i64 g] 68)).alloc (.cells #[.string nm', .int .i64 k', .int .i64 g'] 68)).alloc (.cells #[.int .i64 0, .int .u64 0, .string ⟨#[]⟩] 71)).on hb1
  have hF := (((fb_new2 w (.cells #[.int .i64 vk, .int .u64 n, .string t] 71) nm k g).alloc (.cells #[.string nm', .int .i64 k', .int .i64 g'] 68)).alloc (.cells #[.int .i64 0, .int .u64 0, .string ⟨#[]⟩] 71)).on hb1
  have hT := ((fb_new3 w (.cells #[.int .i64 vk, .int .u64 n, .string t] 71) (.cells #[.string nm, .int .i64 k, .int .i64 g] 68) nm' k' g').alloc (.cells #[.int .i64 0, .int .u64 0, .string ⟨#[]⟩] 71)).on hb1
  have hR := (vb_new4 w (.cells #[.int .i64 vk, .int .u64 n, .string t] 71) (.cells #[.string nm, .int .i64 k, .int .i64 g] 68) (.cells #[.string nm', .int .i64 k', .int .i64 g'] 68) 0 0 ⟨#[]⟩).on hb1
  have hbw : Below w.heap.size w w1 := Bt (Ba (Ba (Ba (B1 _ _) _) _) _) hb1
  clear hb1
  obtain ⟨x0, x1, x2⟩ := hF.cells
  obtain ⟨y0, y1, y2⟩ := hT.cells
  go_wp2_with fail
  go_at_call 117
  refine (rcasts_any _ _ _ _ _ _ _).mono ?_
  rintro e w2 ⟨rfl, hb2⟩
  rw [hc]
  clear x0 x1 x2 y0 y1 y2
  have hV := hV.on hb2
  have hF := hF.on hb2
  have hT := hT.on hb2
  have hR := hR.on hb2
  have hbw := Bt hbw hb2
  clear hb2
  have l3 : w.heap.size + 1 + 1 + 1 < w2.heap.size := hR.lt
  have l0 : w.heap.size < w2.heap.size := by omega
  have l1 : w.heap.size + 1 < w2.heap.size := by omega
  have l2 : w.heap.size + 1 + 1 < w2.heap.size := by omega
  obtain ⟨v0, v1, v2⟩ := hV.cells
  obtain ⟨x0, x1, x2⟩ := hF.cells
  obtain ⟨y0, y1, y2⟩ := hT.cells
  obtain ⟨r0, r1, r2⟩ := hR.cells
  have g0 := hR.frozen 0
  have g1 := hR.frozen 1
  have g2 := hR.frozen 2
  go_wp2_with fail
  go_at_call 134
  refine (rfloat_pos _ _ hn).mono ?_
  rintro e w' ⟨rfl, rfl⟩
  go_wp2_with fail
  refine ret_VBe (by rfl) (by rfl) ((((hR.setKind _).setBits _).setText _).alloc _) (by rfl) (by rfl) ⟨by rw [castR_ok hr hc, hN, hTt]; rfl, ?_⟩
  exact (((hbw.setCell (by simp; omega) _).setCell (by simp; omega) _).setCell (by simp; omega) _).alloc (by simp; omega) _
set_option maxHeartbeats 2000000 in
theorem rcast_T4 (vk n : Int) (t nm nm' : ByteArray) (k g k' g' : Int) (w : World) (hn : U64 n) (hr : rightF vk n t.size k g = true) (hc : castsF k g k' g' = true) (hl : k' = 10 ∧ 5 ≤ k ∧ k ≤ 8 ∧ 9223372036854775808 ≤ n) :
    Calls Tryz.prog 97 #[.agg #[.int .i64 vk, .int .u64 n, .string t], .agg #[.string nm, .int .i64 k, .int .i64 g], .agg #[.string nm', .int .i64 k', .int .i64 g']] w fun e w' => e = .returned (castR vk n t k g k' g') ∧ Below w.heap.size w w' := by
  have bt12 : (k' == 12) = false := by simp; omega
  have bt10 : (k' == 10) = true := by simp; omega
  have bf4 : decide (k ≤ 4) = false := by simp; omega
  have bf5 : decide (5 ≤ k) = true := by simp; omega
  have bf8 : decide (k ≤ 8) = true := by simp; omega
  have bt8 : (k' == 8) = false := by simp; omega
  have hN : castN n k k' = ((floatW (18446744073709551616 - n).toNat true : Nat) : Int) := by
    unfold castN
    rw [if_pos (by omega), if_neg (by omega), if_pos (by omega), if_pos (by omega)]
  have hTt : castT t k' g' = ⟨#[]⟩ := by rw [castT, if_neg (by omega)]
  have bs : decide (9223372036854775808 ≤ n) = true := by simp; omega
  have hn2 := hn.2
  rw [pw8] at hn2
  have hm1 : IntKind.u64.wrap (-n) = 18446744073709551616 - n := by rw [IntKind.wrap_u64]; omega
  have hm2 : U64 (18446744073709551616 - n) := ⟨by omega, by rw [pw8]; omega⟩
  have hm3 : 18446744073709551616 - n ≠ 0 := by omega
  clear hl
  go_enter Tryz.func97, Tryz.ntmps97
  go_wp2_with fail
  go_at_call 116
  refine (rright_any _ _ _ _ _ _ _ hn).mono ?_
  rintro e w1 ⟨rfl, hb1⟩
  rw [hr]
  have hV := ((((vb_new w vk n t).alloc (.cells #[.string nm, .int .i64 k, .int .i64 g] 68)).alloc (.cells #[.string nm', .int .i64 k', .int .i64 g'] 68)).alloc (.cells #[.int .i64 0, .int .u64 0, .string ⟨#[]⟩] 71)).on hb1
  have hF := (((fb_new2 w (.cells #[.int .i64 vk, .int .u64 n, .string t] 71) nm k g).alloc (.cells #[.string nm', .int .i64 k', .int .i64 g'] 68)).alloc (.cells #[.int .i64 0, .int .u64 0, .string ⟨#[]⟩] 71)).on hb1
  have hT := ((fb_new3 w (.cells #[.int .i64 vk, .int .u64 n, .string t] 71) (.cells #[.string nm, .int .i64 k, .int .i64 g] 68) nm' k' g').alloc (.cells #[.int .i64 0, .int .u64 0, .string ⟨#[]⟩] 71)).on hb1
  have hR := (vb_new4 w (.cells #[.int .i64 vk, .int .u64 n, .string t] 71) (.cells #[.string nm, .int .i64 k, .int .i64 g] 68) (.cells #[.string nm', .int .i64 k', .int .i64 g'] 68) 0 0 ⟨#[]⟩).on hb1
  have hbw : Below w.heap.size w w1 := Bt (Ba (Ba (Ba (B1 _ _) _) _) _) hb1
  clear hb1
  obtain ⟨x0, x1, x2⟩ := hF.cells
  obtain ⟨y0, y1, y2⟩ := hT.cells
  go_wp2_with fail
  go_at_call 117
  refine (rcasts_any _ _ _ _ _ _ _).mono ?_
  rintro e w2 ⟨rfl, hb2⟩
  rw [hc]
  clear x0 x1 x2 y0 y1 y2
  have hV := hV.on hb2
  have hF := hF.on hb2
  have hT := hT.on hb2
  have hR := hR.on hb2
  have hbw := Bt hbw hb2
  clear hb2
  have l3 : w.heap.size + 1 + 1 + 1 < w2.heap.size := hR.lt
  have l0 : w.heap.size < w2.heap.size := by omega
  have l1 : w.heap.size + 1 < w2.heap.size := by omega
  have l2 : w.heap.size + 1 + 1 < w2.heap.size := by omega
  obtain ⟨v0, v1, v2⟩ := hV.cells
  obtain ⟨x0, x1, x2⟩ := hF.cells
  obtain ⟨y0, y1, y2⟩ := hT.cells
  obtain ⟨r0, r1, r2⟩ := hR.cells
  have g0 := hR.frozen 0
  have g1 := hR.frozen 1
  have g2 := hR.frozen 2
  go_wp2_with fail
  go_at_call 134
  refine (rfloat_pos _ _ hn).mono ?_
  rintro e w' ⟨rfl, rfl⟩
  go_wp2_with fail
  go_at_call 134
  try rw [hm1]
  refine (rfloat_any _ _ _ hm2 hm3).mono ?_
  rintro e w' ⟨rfl, rfl⟩
  go_wp2_with fail
  refine ret_VBe (by rfl) (by rfl) ((((hR.setKind _).setBits _).setText _).alloc _) (by rfl) (by rfl) ⟨by rw [castR_ok hr hc, hN, hTt]; rfl, ?_⟩
  exact (((hbw.setCell (by simp; omega) _).setCell (by simp; omega) _).setCell (by simp; omega) _).alloc (by simp; omega) _
set_option maxHeartbeats 2000000 in
theorem rcast_T6 (vk n : Int) (t nm nm' : ByteArray) (k g k' g' : Int) (w : World) (hn : U64 n) (hr : rightF vk n t.size k g = true) (hc : castsF k g k' g' = true) (hl : k' = 8 ∧ k = 10) :
    Calls Tryz.prog 97 #[.agg #[.int .i64 vk, .int .u64 n, .string t], .agg #[.string nm, .int .i64 k, .int .i64 g], .agg #[.string nm', .int .i64 k', .int .i64 g']] w fun e w' => e = .returned (castR vk n t k g k' g') ∧ Below w.heap.size w w' := by
  have bt12 : (k' == 12) = false := by simp; omega
  have bt10 : (k' == 10) = false := by simp; omega
  have bt8 : (k' == 8) = true := by simp; omega
  have bf10 : (k == 10) = true := by simp; omega
  have hN : castN n k k' = IntKind.u64.wrap (wholeN n.toNat) := by
    unfold castN
    rw [if_neg (by omega), if_pos (by omega)]
  have hTt : castT t k' g' = ⟨#[]⟩ := by rw [castT, if_neg (by omega)]
  clear hl
  go_enter Tryz.func97, Tryz.ntmps97
  go_wp2_with fail
  go_at_call 116
  refine (rright_any _ _ _ _ _ _ _ hn).mono ?_
  rintro e w1 ⟨rfl, hb1⟩
  rw [hr]
  have hV := ((((vb_new w vk n t).alloc (.cells #[.string nm, .int .i64 k, .int .i64 g] 68)).alloc (.cells #[.string nm', .int .i64 k', .int .i64 g'] 68)).alloc (.cells #[.int .i64 0, .int .u64 0, .string ⟨#[]⟩] 71)).on hb1
  have hF := (((fb_new2 w (.cells #[.int .i64 vk, .int .u64 n, .string t] 71) nm k g).alloc (.cells #[.string nm', .int .i64 k', .int .i64 g'] 68)).alloc (.cells #[.int .i64 0, .int .u64 0, .string ⟨#[]⟩] 71)).on hb1
  have hT := ((fb_new3 w (.cells #[.int .i64 vk, .int .u64 n, .string t] 71) (.cells #[.string nm, .int .i64 k, .int .i64 g] 68) nm' k' g').alloc (.cells #[.int .i64 0, .int .u64 0, .string ⟨#[]⟩] 71)).on hb1
  have hR := (vb_new4 w (.cells #[.int .i64 vk, .int .u64 n, .string t] 71) (.cells #[.string nm, .int .i64 k, .int .i64 g] 68) (.cells #[.string nm', .int .i64 k', .int .i64 g'] 68) 0 0 ⟨#[]⟩).on hb1
  have hbw : Below w.heap.size w w1 := Bt (Ba (Ba (Ba (B1 _ _) _) _) _) hb1
  clear hb1
  obtain ⟨x0, x1, x2⟩ := hF.cells
  obtain ⟨y0, y1, y2⟩ := hT.cells
  go_wp2_with fail
  go_at_call 117
  refine (rcasts_any _ _ _ _ _ _ _).mono ?_
  rintro e w2 ⟨rfl, hb2⟩
  rw [hc]
  clear x0 x1 x2 y0 y1 y2
  have hV := hV.on hb2
  have hF := hF.on hb2
  have hT := hT.on hb2
  have hR := hR.on hb2
  have hbw := Bt hbw hb2
  clear hb2
  have l3 : w.heap.size + 1 + 1 + 1 < w2.heap.size := hR.lt
  have l0 : w.heap.size < w2.heap.size := by omega
  have l1 : w.heap.size + 1 < w2.heap.size := by omega
  have l2 : w.heap.size + 1 + 1 < w2.heap.size := by omega
  obtain ⟨v0, v1, v2⟩ := hV.cells
  obtain ⟨x0, x1, x2⟩ := hF.cells
  obtain ⟨y0, y1, y2⟩ := hT.cells
  obtain ⟨r0, r1, r2⟩ := hR.cells
  have g0 := hR.frozen 0
  have g1 := hR.frozen 1
  have g2 := hR.frozen 2
  go_wp2_with fail
  go_at_call 135
  refine (rwhole_any _ _ hn).mono ?_
  rintro e w' ⟨rfl, rfl⟩
  go_wp2_with fail
  refine ret_VBe (by rfl) (by rfl) ((((hR.setKind _).setBits _).setText _).alloc _) (by rfl) (by rfl) ⟨by rw [castR_ok hr hc, hN, hTt]; rfl, ?_⟩
  exact (((hbw.setCell (by simp; omega) _).setCell (by simp; omega) _).setCell (by simp; omega) _).alloc (by simp; omega) _
theorem right_size {vk n : Int} {m : Nat} {k g : Int} (h : rightF vk n m k g = true) : m ≤ 64 := by
  unfold rightF at h
  rw [Bool.and_eq_true, Bool.and_eq_true] at h
  obtain ⟨⟨h1, h2⟩, h3⟩ := h
  by_cases h12 : k = 12
  · rw [if_pos h12] at h3; subst h12
    have := may12 h1
    simp at h3; omega
  · rw [if_neg h12, Bool.and_eq_true] at h3
    have : m = 0 := by simpa using h3.1
    omega
theorem casts_may {k g k' g' : Int} (h : castsF k g k' g' = true) : mayF k g = true ∧ mayF k' g' = true := by
  unfold castsF at h
  rw [Bool.and_eq_true, Bool.and_eq_true] at h
  exact h.1
set_option maxHeartbeats 2000000 in
theorem rcast_T1 (vk n : Int) (t nm nm' : ByteArray) (k g k' g' : Int) (w : World) (hn : U64 n) (hr : rightF vk n t.size k g = true) (hc : castsF k g k' g' = true) (hl : k' = 12) :
    Calls Tryz.prog 97 #[.agg #[.int .i64 vk, .int .u64 n, .string t], .agg #[.string nm, .int .i64 k, .int .i64 g], .agg #[.string nm', .int .i64 k', .int .i64 g']] w fun e w' => e = .returned (castR vk n t k g k' g') ∧ Below w.heap.size w w' := by
  subst hl
  have hmay := (casts_may hc).2
  have hg' := may12 hmay
  have hts := right_size hr
  obtain ⟨G, rfl⟩ := Int.eq_ofNat_of_zero_le (show 0 ≤ g' by omega)
  have hN : castN n k 12 = n := by unfold castN; rw [if_neg (by omega), if_neg (by omega)]
  have hTt : castT t 12 (G : Int) = (t ++ zs G).extract 0 G := by simp [castT]
  have hZ : zeroT 12 (G : Int) = zs G := by simp [zeroT, hmay]
  have hZk : zeroK 12 (G : Int) = 12 := by simp [zeroK, hmay]
  have hcat : (t ++ zs G).size = t.size + G := by rw [ByteArray.size_append, zs_size]
  have hle : (G : Int) ≤ (t.size : Int) + (G : Int) := by omega
  have hzz := zs_size G
  have hfd := run_textV 12 0 (zs G)
  have hsl : ¬ 9223372036854775807 < t.size + G := by omega
  go_enter Tryz.func97, Tryz.ntmps97
  go_wp2_with fail
  go_at_call 116
  refine (rright_any _ _ _ _ _ _ _ hn).mono ?_
  rintro e w1 ⟨rfl, hb1⟩
  rw [hr]
  have hV := ((((vb_new w vk n t).alloc (.cells #[.string nm, .int .i64 k, .int .i64 g] 68)).alloc (.cells #[.string nm', .int .i64 12, .int .i64 (G : Int)] 68)).alloc (.cells #[.int .i64 0, .int .u64 0, .string ⟨#[]⟩] 71)).on hb1
  have hF := (((fb_new2 w (.cells #[.int .i64 vk, .int .u64 n, .string t] 71) nm k g).alloc (.cells #[.string nm', .int .i64 12, .int .i64 (G : Int)] 68)).alloc (.cells #[.int .i64 0, .int .u64 0, .string ⟨#[]⟩] 71)).on hb1
  have hT := ((fb_new3 w (.cells #[.int .i64 vk, .int .u64 n, .string t] 71) (.cells #[.string nm, .int .i64 k, .int .i64 g] 68) nm' 12 (G : Int)).alloc (.cells #[.int .i64 0, .int .u64 0, .string ⟨#[]⟩] 71)).on hb1
  have hR := (vb_new4 w (.cells #[.int .i64 vk, .int .u64 n, .string t] 71) (.cells #[.string nm, .int .i64 k, .int .i64 g] 68) (.cells #[.string nm', .int .i64 12, .int .i64 (G : Int)] 68) 0 0 ⟨#[]⟩).on hb1
  have hbw : Below w.heap.size w w1 := Bt (Ba (Ba (Ba (B1 _ _) _) _) _) hb1
  clear hb1
  obtain ⟨x0, x1, x2⟩ := hF.cells
  obtain ⟨y0, y1, y2⟩ := hT.cells
  go_wp2_with fail
  go_at_call 117
  refine (rcasts_any _ _ _ _ _ _ _).mono ?_
  rintro e w2 ⟨rfl, hb2⟩
  rw [hc]
  clear x0 x1 x2 y0 y1 y2
  have hV := hV.on hb2
  have hF := hF.on hb2
  have hT := hT.on hb2
  have hR := hR.on hb2
  have hbw := Bt hbw hb2
  clear hb2
  have l3 : w.heap.size + 1 + 1 + 1 < w2.heap.size := hR.lt
  have l0 : w.heap.size < w2.heap.size := by omega
  have l1 : w.heap.size + 1 < w2.heap.size := by omega
  have l2 : w.heap.size + 1 + 1 < w2.heap.size := by omega
  obtain ⟨v0, v1, v2⟩ := hV.cells
  obtain ⟨x0, x1, x2⟩ := hF.cells
  obtain ⟨y0, y1, y2⟩ := hT.cells
  obtain ⟨r0, r1, r2⟩ := hR.cells
  have g0 := hR.frozen 0
  have g1 := hR.frozen 1
  have g2 := hR.frozen 2
  go_wp2_with fail
  have hO2 := vb_new w2 12 n ⟨#[]⟩
  have hb3 := Ba hbw (.cells #[.int .i64 12, .int .u64 n, .string ⟨#[]⟩] 71)
  have hV2 := hV.alloc (.cells #[.int .i64 12, .int .u64 n, .string ⟨#[]⟩] 71)
  have hF2 := hF.alloc (.cells #[.int .i64 12, .int .u64 n, .string ⟨#[]⟩] 71)
  have hT2 := hT.alloc (.cells #[.int .i64 12, .int .u64 n, .string ⟨#[]⟩] 71)
  have hR2 := hR.alloc (.cells #[.int .i64 12, .int .u64 n, .string ⟨#[]⟩] 71)
  clear v0 v1 v2 x0 x1 x2 y0 y1 y2 r0 r1 r2 g0 g1 g2 hV hF hT hR
  refine reg_begin (by kernel_rfl) (fun w0r hx0r hHeld => ?_)
  have hV0 := hV2.on hx0r
  have hT0 := hT2.on hx0r
  have q0 : ∀ w', Ext w0r w' → w'.cell? ⟨w.heap.size + 1 + 1, 0, none⟩ = some (.string nm') := fun w' h => (hT0.on h).cells.1
  have q1 : ∀ w', Ext w0r w' → w'.cell? ⟨w.heap.size + 1 + 1, 1, none⟩ = some (.int .i64 12) := fun w' h => (hT0.on h).cells.2.1
  have q2 : ∀ w', Ext w0r w' → w'.cell? ⟨w.heap.size + 1 + 1, 2, none⟩ = some (.int .i64 (G : Int)) := fun w' h => (hT0.on h).cells.2.2
  have p1 : ∀ w', Ext w0r w' → w'.cell? ⟨w.heap.size, 2, none⟩ = some (.string t) := fun w' h => (hV0.on h).cells.2.2
  refine reg_take 0 (v := ?vb0) at0 (by kernel_rfl) (by kernel_rfl) (by kernel_rfl) (by rfl) ?hyb0 hHeld ?restb0
  case hyb0 => (intro w' hSw; go_simp; try with_reducible rfl)
  try simp only [Act.put, List.setIfInBounds_toArray, List.set_cons_zero, List.set_cons_succ]
  refine reg_take 1 (v := ?vb1) (atS at0) (by kernel_rfl) (by kernel_rfl) (by kernel_rfl) (by rfl) ?hyb1 hHeld ?restb1
  case hyb1 => (intro w' hSw; go_simp; try with_reducible rfl)
  try simp only [Act.put, List.setIfInBounds_toArray, List.set_cons_zero, List.set_cons_succ]
  refine reg_take 2 (v := ?vb2) (atS (atS at0)) (by kernel_rfl) (by kernel_rfl) (by kernel_rfl) (by rfl) ?hyb2 hHeld ?restb2
  case hyb2 => (intro w' hSw; go_simp; try with_reducible rfl)
  try simp only [Act.put, List.setIfInBounds_toArray, List.set_cons_zero, List.set_cons_succ]
  refine wpAnyH_ready (rs := [3]) (by kernel_rfl) (by simp) ?_
  refine AllReadyH.cons (atS (atS (atS at0))) (fun K hK => ?_) AllReadyH.nil
  go_simp
  go_at_call 133
  refine (rzero_any _ _ _ _).mono ?_
  rintro e w4 ⟨rfl, hb4⟩
  rw [hZ, hZk]
  go_wp2_with fail
  refine hK.out _ _ hb4 (fun hHeld => ?_)
  clear hK K
  try simp only [Act.put, List.setIfInBounds_toArray, List.set_cons_zero, List.set_cons_succ]
  refine reg_on hb4 (fun hHeld => ?_)
  refine reg_take 4 (v := ?vb4) (atS (atS (atS (atS at0)))) (by kernel_rfl) (by kernel_rfl) (by kernel_rfl) (by rfl) ?hyb4 hHeld ?restb4
  case hyb4 => (intro w' hSw; go_simp; try with_reducible rfl)
  try simp only [Act.put, List.setIfInBounds_toArray, List.set_cons_zero, List.set_cons_succ]
  refine reg_take 5 (v := ?vb5) (atS5 at0) (by kernel_rfl) (by kernel_rfl) (by kernel_rfl) (by rfl) ?hyb5 hHeld ?restb5
  case hyb5 => (intro w' hSw; go_simp; try with_reducible rfl)
  try simp only [Act.put, List.setIfInBounds_toArray, List.set_cons_zero, List.set_cons_succ]
  refine reg_take 6 (v := ?vb6) (atS5 (atS at0)) (by kernel_rfl) (by kernel_rfl) (by kernel_rfl) (by rfl) ?hyb6 hHeld ?restb6
  case hyb6 => (intro w' hSw; go_simp; try with_reducible rfl)
  try simp only [Act.put, List.setIfInBounds_toArray, List.set_cons_zero, List.set_cons_succ]
  refine wpAnyH_done (by kernel_rfl) ?_ _
  refine NoPanic.normal ?_
  clear q0 q1 q2 p1
  have hV := (hV2.on hx0r).on hb4
  have hF := (hF2.on hx0r).on hb4
  have hT := (hT2.on hx0r).on hb4
  have hR := (hR2.on hx0r).on hb4
  have hO := (hO2.on hx0r).on hb4
  have hbz := Bt (Bt hb3 hx0r) hb4
  clear hV0 hT0 hV2 hF2 hT2 hR2 hO2 hx0r hb4 hb3 hbw
  obtain ⟨q, hq⟩ : ∃ q, q = w2.heap.size := ⟨_, rfl⟩
  rw [← hq] at hO ⊢
  have n0 : w.heap.size ≠ q := by omega
  have n1 : w.heap.size + 1 ≠ q := by omega
  have n2 : w.heap.size + 1 + 1 ≠ q := by omega
  have n3 : w.heap.size + 1 + 1 + 1 ≠ q := by omega
  have hqs : w.heap.size ≤ q := by omega
  clear hq l0 l1 l2 l3
  obtain ⟨v0, v1, v2⟩ := hV.cells
  obtain ⟨x0, x1, x2⟩ := hF.cells
  obtain ⟨y0, y1, y2⟩ := hT.cells
  obtain ⟨r0, r1, r2⟩ := hR.cells
  obtain ⟨o0, o1, o2⟩ := hO.cells
  have e2 := hO.frozen 2
  have y1' := (hT.other n2 2 (.string ((t ++ zs G).extract 0 G))).cells.2.1
  have x1' := (hF.other n1 2 (.string ((t ++ zs G).extract 0 G))).cells.2.1
  obtain ⟨o0', o1', o2'⟩ := (hO.setText ((t ++ zs G).extract 0 G)).cells
  have hR' := hR.other n3 2 (.string ((t ++ zs G).extract 0 G))
  obtain ⟨r0', r1', r2'⟩ := hR'.cells
  have g0' := hR'.frozen 0
  have g1' := hR'.frozen 1
  have g2' := hR'.frozen 2
  have hbz' := hbz.setCell (p := ⟨q, 2, none⟩) hqs (.string ((t ++ zs G).extract 0 G))
  go_wp2_with fail
  refine ret_VBe (by rfl) (by rfl) (((hR'.setKind _).setBits _).setText _) (by rfl) (by rfl) ⟨by rw [castR_ok hr hc, hN, hTt]; rfl, ?_⟩
  exact ((hbz'.setCell (by simp; omega) _).setCell (by simp; omega) _).setCell (by simp; omega) _
set_option maxHeartbeats 2000000 in
theorem rcast_any (vk n : Int) (t nm nm' : ByteArray) (k g k' g' : Int) (w : World) (hn : U64 n) :
    Calls Tryz.prog 97 #[.agg #[.int .i64 vk, .int .u64 n, .string t], .agg #[.string nm, .int .i64 k, .int .i64 g], .agg #[.string nm', .int .i64 k', .int .i64 g']] w fun e w' => e = .returned (castR vk n t k g k' g') ∧ Below w.heap.size w w' := by
  by_cases hr : rightF vk n t.size k g = true
  · by_cases hc : castsF k g k' g' = true
    · by_cases c12 : k' = 12
      · exact rcast_T1 vk n t nm nm' k g k' g' w hn hr hc c12
      by_cases c10 : k' = 10
      · by_cases c4 : k ≤ 4
        · exact rcast_T2 vk n t nm nm' k g k' g' w hn hr hc ⟨c10, c4⟩
        by_cases c8 : k ≤ 8
        · by_cases cn : 9223372036854775808 ≤ n
          · exact rcast_T4 vk n t nm nm' k g k' g' w hn hr hc ⟨c10, by omega, c8, cn⟩
          · exact rcast_T3 vk n t nm nm' k g k' g' w hn hr hc ⟨c10, by omega, c8, by omega⟩
        · exact rcast_T5 vk n t nm nm' k g k' g' w hn hr hc ⟨c10, by omega⟩
      by_cases c8 : k' = 8
      · by_cases k10 : k = 10
        · exact rcast_T6 vk n t nm nm' k g k' g' w hn hr hc ⟨c8, k10⟩
        · exact rcast_T7 vk n t nm nm' k g k' g' w hn hr hc ⟨c8, k10⟩
      · exact rcast_T8 vk n t nm nm' k g k' g' w hn hr hc ⟨c8, c10, c12⟩
    · exact rcast_51 vk n t nm nm' k g k' g' w hn hr (by simpa using hc)
  · exact rcast_50 vk n t nm nm' k g k' g' w hn (by simpa using hr)
end Go.Proofs.YtaegencmnmjgbaaGreat
