/-
  Contracts of the document's answers for values: May, Long, Right, Casts.
-/
import Derived.Test.YtaegencmnmjgbaaGreatM2
import Derived.Test.YtaegencmnmjgbaaGreatM3

namespace Go.Proofs.YtaegencmnmjgbaaGreat
open Go.RowKit
set_option linter.unusedVariables false
set_option linter.unusedSimpArgs false
set_option maxHeartbeats 1000000 in
theorem rsize_any (k : Int) (w : World) :
    Calls Tryz.prog 114 #[.int .i64 k] w fun e w' => e = .returned (.int .i64 (sizeOfKind k)) ∧ w = w' := by
  by_cases h : k = 1 ∨ k = 2 ∨ k = 3 ∨ k = 4 ∨ k = 5 ∨ k = 6 ∨ k = 7 ∨ k = 8 ∨ k = 9 ∨ k = 10 ∨ k = 11
  · rcases h with rfl | rfl | rfl | rfl | rfl | rfl | rfl | rfl | rfl | rfl | rfl
    all_goals
      go_enter Tryz.func114, Tryz.ntmps114
      go_wp2
      go_ret
      exact ⟨rfl, rfl⟩
  · have hz : sizeOfKind k = 0 := by unfold sizeOfKind; repeat (rw [if_neg (by omega)])
    have b1 : (k == 1) = false := by simp; omega
    have b2 : (k == 2) = false := by simp; omega
    have b3 : (k == 3) = false := by simp; omega
    have b4 : (k == 4) = false := by simp; omega
    have b5 : (k == 5) = false := by simp; omega
    have b6 : (k == 6) = false := by simp; omega
    have b7 : (k == 7) = false := by simp; omega
    have b8 : (k == 8) = false := by simp; omega
    have b9 : (k == 9) = false := by simp; omega
    have b10 : (k == 10) = false := by simp; omega
    have b11 : (k == 11) = false := by simp; omega
    rw [hz]
    clear h hz
    go_enter Tryz.func114, Tryz.ntmps114
    go_wp2
    all_goals
      go_ret
      try (rename_i hx; simp at hx; omega)
      exact ⟨rfl, rfl⟩
set_option maxHeartbeats 1000000 in
theorem rmay_any (nm : ByteArray) (k g : Int) (w : World) :
    Calls Tryz.prog 113 #[.agg #[.string nm, .int .i64 k, .int .i64 g]] w fun e w' => e = .returned (.bool (mayF k g)) ∧ Below w.heap.size w w' := by
  by_cases h12 : k = 12
  · subst h12
    rw [mayF12]
    by_cases h1 : 0 < g
    · have b1 : decide (0 < g) = true := by simpa using h1
      go_enter Tryz.func113, Tryz.ntmps113
      go_wp2
      go_ret
      exact ⟨by simp [b1], B1 _ _⟩
    · have b1 : decide (0 < g) = false := by simpa using h1
      go_enter Tryz.func113, Tryz.ntmps113
      go_wp2
      go_ret
      exact ⟨by simp [b1], B1 _ _⟩
  · rw [mayF_ne h12]
    have b0 : (k == 12) = false := by simpa using h12
    by_cases h1 : 0 < k
    · have b1 : decide (0 < k) = true := by simpa using h1
      by_cases h2 : k < 12
      · have b2 : decide (k < 12) = true := by simpa using h2
        go_enter Tryz.func113, Tryz.ntmps113
        go_wp2
        go_ret
        exact ⟨by simp [b1, b2]; rfl, B1 _ _⟩
      · have b2 : decide (k < 12) = false := by simpa using h2
        go_enter Tryz.func113, Tryz.ntmps113
        go_wp2
        go_ret
        exact ⟨by simp [b1, b2], B1 _ _⟩
    · have b1 : decide (0 < k) = false := by simpa using h1
      go_enter Tryz.func113, Tryz.ntmps113
      go_wp2
      go_ret
      exact ⟨by simp [b1], B1 _ _⟩
def FB (w : World) (b : Nat) (nm : ByteArray) (k g : Int) : Prop := w.heap[b]? = some (.cells #[.string nm, .int .i64 k, .int .i64 g] 68 (0, 0))
def VB (w : World) (b : Nat) (k n : Int) (t : ByteArray) : Prop := w.heap[b]? = some (.cells #[.int .i64 k, .int .u64 n, .string t] 71 (0, 0))
section
variable {w w' : World} {b B : Nat} {nm t : ByteArray} {k g n : Int}
theorem fb_new (w : World) (nm : ByteArray) (k g : Int) : FB (w.alloc (.cells #[.string nm, .int .i64 k, .int .i64 g] 68)) w.heap.size nm k g := heap_alloc_new w _
theorem vb_new (w : World) (k n : Int) (t : ByteArray) : VB (w.alloc (.cells #[.int .i64 k, .int .u64 n, .string t] 71)) w.heap.size k n t := heap_alloc_new w _
theorem fb_new2 (w : World) (o : Obj) (nm : ByteArray) (k g : Int) : FB ((w.alloc o).alloc (.cells #[.string nm, .int .i64 k, .int .i64 g] 68)) (w.heap.size + 1) nm k g := by
  have h := fb_new (w.alloc o) nm k g
  rwa [show (w.alloc o).heap.size = w.heap.size + 1 from World.size_alloc _ _] at h
theorem fb_new3 (w : World) (o o' : Obj) (nm : ByteArray) (k g : Int) : FB (((w.alloc o).alloc o').alloc (.cells #[.string nm, .int .i64 k, .int .i64 g] 68)) (w.heap.size + 1 + 1) nm k g := by
  have h := fb_new2 (w.alloc o) o' nm k g
  rwa [show (w.alloc o).heap.size = w.heap.size + 1 from World.size_alloc _ _] at h
theorem FB.lt (h : FB w b nm k g) : b < w.heap.size := row_lt h
theorem VB.lt (h : VB w b k n t) : b < w.heap.size := row_lt h
theorem FB.below (h : FB w b nm k g) (hb : Below B w w') (hlt : b < B) : FB w' b nm k g := (hb.block b hlt).trans h
theorem VB.below (h : VB w b k n t) (hb : Below B w w') (hlt : b < B) : VB w' b k n t := (hb.block b hlt).trans h
theorem FB.on (h : FB w b nm k g) (hb : Below w.heap.size w w') : FB w' b nm k g := h.below hb h.lt
theorem VB.on (h : VB w b k n t) (hb : Below w.heap.size w w') : VB w' b k n t := h.below hb h.lt
theorem FB.alloc (h : FB w b nm k g) (o : Obj) : FB (w.alloc o) b nm k g := h.on (B1 w o)
theorem VB.alloc (h : VB w b k n t) (o : Obj) : VB (w.alloc o) b k n t := h.on (B1 w o)
theorem FB.cells (h : FB w b nm k g) : w.cell? ⟨b, 0, none⟩ = some (.string nm) ∧ w.cell? ⟨b, 1, none⟩ = some (.int .i64 k) ∧ w.cell? ⟨b, 2, none⟩ = some (.int .i64 g) := ⟨row_cell h 0, row_cell h 1, row_cell h 2⟩
theorem VB.cells (h : VB w b k n t) : w.cell? ⟨b, 0, none⟩ = some (.int .i64 k) ∧ w.cell? ⟨b, 1, none⟩ = some (.int .u64 n) ∧ w.cell? ⟨b, 2, none⟩ = some (.string t) := ⟨row_cell h 0, row_cell h 1, row_cell h 2⟩
end
set_option maxHeartbeats 1000000 in
theorem rlong_any (nm : ByteArray) (k g : Int) (w : World) :
    Calls Tryz.prog 76 #[.agg #[.string nm, .int .i64 k, .int .i64 g]] w fun e w' => e = .returned (.int .i64 (longF k g)) ∧ Below w.heap.size w w' := by
  by_cases hm : mayF k g = true
  · by_cases h12 : k = 12
    · subst h12
      have hl : longF 12 g = g := by simp [longF, hm]
      rw [hl]
      go_enter Tryz.func76, Tryz.ntmps76
      go_wp2_with fail
      go_at_call 113
      refine (rmay_any _ _ _ _).mono ?_
      rintro e w1 ⟨rfl, hb1⟩
      rw [hm]
      obtain ⟨c0, c1, c2⟩ := ((fb_new w nm 12 g).on hb1).cells
      go_wp2_with fail
      go_ret
      exact ⟨rfl, Bt (B1 _ _) hb1⟩
    · have hl : longF k g = sizeOfKind k := by simp [longF, hm, h12]
      have b0 : (k == 12) = false := by simpa using h12
      rw [hl]
      go_enter Tryz.func76, Tryz.ntmps76
      go_wp2_with fail
      go_at_call 113
      refine (rmay_any _ _ _ _).mono ?_
      rintro e w1 ⟨rfl, hb1⟩
      rw [hm]
      obtain ⟨c0, c1, c2⟩ := ((fb_new w nm k g).on hb1).cells
      go_wp2_with fail
      go_at_call 114
      refine (rsize_any _ _).mono ?_
      rintro e w2 ⟨rfl, rfl⟩
      go_wp2_with fail
      go_ret
      exact ⟨rfl, Bt (B1 _ _) hb1⟩
  · have hm' : mayF k g = false := by simpa using hm
    have hl : longF k g = 0 := by simp [longF, hm']
    rw [hl]
    go_enter Tryz.func76, Tryz.ntmps76
    go_wp2_with fail
    go_at_call 113
    refine (rmay_any _ _ _ _).mono ?_
    rintro e w1 ⟨rfl, hb1⟩
    rw [hm']
    go_wp2_with fail
    go_ret
    exact ⟨rfl, Bt (B1 _ _) hb1⟩
theorem rightF_no1 {vk n : Int} {m : Nat} {k g : Int} (h : mayF k g = false) : rightF vk n m k g = false := by simp [rightF, h]
theorem rightF_no2 {vk n : Int} {m : Nat} {k g : Int} (h : vk ≠ k) : rightF vk n m k g = false := by simp [rightF, h]
theorem rightF_12 {n : Int} {m : Nat} {g : Int} (h : mayF 12 g = true) : rightF 12 n m 12 g = (decide (n = 0) && decide ((m : Int) = g)) := by simp [rightF, h]
theorem rightF_no3 {n : Int} {m : Nat} {k g : Int} (h : k ≠ 12) (hm : m ≠ 0) : rightF k n m k g = false := by simp [rightF, h, hm]
theorem rightF_9 {n : Int} {g : Int} (h : mayF 9 g = true) : rightF 9 n 0 9 g = decide (n < 2) := by simp [rightF, h]
theorem rightF_hi {n : Int} {k g : Int} (h : mayF k g = true) (h1 : k ≠ 12) (h2 : 9 < k) : rightF k n 0 k g = true := by
  have : k ≠ 9 := by omega
  simp [rightF, h, h1, h2, this]
theorem rightF_lo {n : Int} {k g : Int} (h : mayF k g = true) (h2 : k < 9) : rightF k n 0 k g = fits n (longF k g) (decide (4 < k)) := by
  have : k ≠ 9 := by omega
  have h1 : k ≠ 12 := by omega
  have h3 : ¬ 9 < k := by omega
  simp [rightF, h, h1, h3, this]
theorem str_none {t : ByteArray} (h : t.size = 0) : t.toList = [] := by
  rw [ByteArray.toList_eq]; exact List.eq_nil_of_length_eq_zero (by simpa using h)
theorem str_some {t : ByteArray} (h : t.size ≠ 0) : t.toList.isEmpty = false := by
  rw [ByteArray.toList_eq]
  cases hl : t.data.toList with
  | nil => exact absurd (by have : t.data.toList.length = 0 := by rw [hl]; rfl
                            simpa using this) h
  | cons _ _ => rfl
set_option maxHeartbeats 2000000 in
theorem rright_any (vk n : Int) (t nm : ByteArray) (k g : Int) (w : World) (hn : U64 n) :
    Calls Tryz.prog 116 #[.agg #[.int .i64 vk, .int .u64 n, .string t], .agg #[.string nm, .int .i64 k, .int .i64 g]] w fun e w' => e = .returned (.bool (rightF vk n t.size k g)) ∧ Below w.heap.size w w' := by
  by_cases hm : mayF k g = true
  · by_cases hk : vk = k
    · subst hk
      by_cases h12 : vk = 12
      · subst h12
        rw [rightF_12 hm]
        by_cases h0 : n = 0
        · subst h0
          go_enter Tryz.func116, Tryz.ntmps116
          go_wp2_with fail
          go_at_call 113
          refine (rmay_any _ _ _ _).mono ?_
          rintro e w1 ⟨rfl, hb1⟩
          rw [hm]
          obtain ⟨c0, c1, c2⟩ := ((fb_new2 w _ nm 12 g).on hb1).cells
          obtain ⟨d0, d1, d2⟩ := (((vb_new w 12 0 t).alloc _).on hb1).cells
          go_wp2_with fail
          go_ret
          exact ⟨ret_bool (by simp; rfl), Bt (Ba (B1 _ _) _) hb1⟩
        · have b0 : (n == 0) = false := by simpa using h0
          go_enter Tryz.func116, Tryz.ntmps116
          go_wp2_with fail
          go_at_call 113
          refine (rmay_any _ _ _ _).mono ?_
          rintro e w1 ⟨rfl, hb1⟩
          rw [hm]
          obtain ⟨c0, c1, c2⟩ := ((fb_new2 w _ nm 12 g).on hb1).cells
          obtain ⟨d0, d1, d2⟩ := (((vb_new w 12 n t).alloc _).on hb1).cells
          go_wp2_with fail
          go_ret
          exact ⟨ret_bool (by simp [h0]), Bt (Ba (B1 _ _) _) hb1⟩
      · have b12 : (vk == 12) = false := by simpa using h12
        by_cases ht : t.size = 0
        · have htl := str_none ht
          rw [ht]
          by_cases h9 : vk = 9
          · subst h9
            rw [rightF_9 hm]
            go_enter Tryz.func116, Tryz.ntmps116
            go_wp2_with fail
            go_at_call 113
            refine (rmay_any _ _ _ _).mono ?_
            rintro e w1 ⟨rfl, hb1⟩
            rw [hm]
            obtain ⟨c0, c1, c2⟩ := ((fb_new2 w _ nm 9 g).on hb1).cells
            obtain ⟨d0, d1, d2⟩ := (((vb_new w 9 n t).alloc _).on hb1).cells
            go_wp2_with fail
            go_ret
            exact ⟨rfl, Bt (Ba (B1 _ _) _) hb1⟩
          · have b9 : (vk == 9) = false := by simpa using h9
            by_cases hhi : 9 < vk
            · rw [rightF_hi hm h12 hhi]
              have bhi : decide (9 < vk) = true := by simpa using hhi
              go_enter Tryz.func116, Tryz.ntmps116
              go_wp2_with fail
              go_at_call 113
              refine (rmay_any _ _ _ _).mono ?_
              rintro e w1 ⟨rfl, hb1⟩
              rw [hm]
              obtain ⟨c0, c1, c2⟩ := ((fb_new2 w _ nm vk g).on hb1).cells
              obtain ⟨d0, d1, d2⟩ := (((vb_new w vk n t).alloc _).on hb1).cells
              go_wp2_with fail
              refine reg_begin (by kernel_rfl) (fun w0r hx0r hHeld => ?_)
              have q1 : ∀ w', Ext w0r w' → w'.cell? ⟨w.heap.size + 1, 1, none⟩ = some (.int .i64 vk) := fun w' h => ((((fb_new2 w _ nm vk g).on hb1).on hx0r).on h).cells.2.1
              refine reg_take 0 (v := ?vb0) at0 (by kernel_rfl) (by kernel_rfl) (by kernel_rfl) (by rfl) ?hyb0 hHeld ?restb0
              case hyb0 => (intro w' hSw; go_simp; try with_reducible rfl)
              try simp only [Act.put, List.setIfInBounds_toArray, List.set_cons_zero, List.set_cons_succ]
              refine reg_take 1 (v := ?vb1) (atS at0) (by kernel_rfl) (by kernel_rfl) (by kernel_rfl) (by rfl) ?hyb1 hHeld ?restb1
              case hyb1 => (intro w' hSw; go_simp; try with_reducible rfl)
              try simp only [Act.put, List.setIfInBounds_toArray, List.set_cons_zero, List.set_cons_succ]
              refine reg_take 2 (v := ?vb2) (atS (atS at0)) (by kernel_rfl) (by kernel_rfl) (by kernel_rfl) (by rfl) ?hyb2 hHeld ?restb2
              case hyb2 => (intro w' hSw; go_simp; try with_reducible rfl)
              try simp only [Act.put, List.setIfInBounds_toArray, List.set_cons_zero, List.set_cons_succ]
              refine reg_take 3 (v := ?vb3) (atS (atS (atS at0))) (by kernel_rfl) (by kernel_rfl) (by kernel_rfl) (by rfl) ?hyb3 hHeld ?restb3
              case hyb3 => (intro w' hSw; go_simp; try with_reducible rfl)
              try simp only [Act.put, List.setIfInBounds_toArray, List.set_cons_zero, List.set_cons_succ]
              refine reg_skip 4 (atS (atS (atS (atS at0)))) (by kernel_rfl) (by kernel_rfl) (by kernel_rfl) (by rfl) hHeld ?_
              try simp only [Act.put, List.setIfInBounds_toArray, List.set_cons_zero, List.set_cons_succ]
              refine reg_skip 5 (atS5 at0) (by kernel_rfl) (by kernel_rfl) (by kernel_rfl) (by rfl) hHeld ?_
              try simp only [Act.put, List.setIfInBounds_toArray, List.set_cons_zero, List.set_cons_succ]
              refine reg_skip 6 (atS5 (atS at0)) (by kernel_rfl) (by kernel_rfl) (by kernel_rfl) (by rfl) hHeld ?_
              try simp only [Act.put, List.setIfInBounds_toArray, List.set_cons_zero, List.set_cons_succ]
              refine reg_skip 7 (atS5 (atS (atS at0))) (by kernel_rfl) (by kernel_rfl) (by kernel_rfl) (by rfl) hHeld ?_
              try simp only [Act.put, List.setIfInBounds_toArray, List.set_cons_zero, List.set_cons_succ]
              refine reg_skip 8 (atS5 (atS (atS (atS at0)))) (by kernel_rfl) (by kernel_rfl) (by kernel_rfl) (by rfl) hHeld ?_
              try simp only [Act.put, List.setIfInBounds_toArray, List.set_cons_zero, List.set_cons_succ]
              refine reg_skip 9 (atS5 (atS (atS (atS (atS at0))))) (by kernel_rfl) (by kernel_rfl) (by kernel_rfl) (by rfl) hHeld ?_
              try simp only [Act.put, List.setIfInBounds_toArray, List.set_cons_zero, List.set_cons_succ]
              refine reg_skip 10 (atS5 (atS5 at0)) (by kernel_rfl) (by kernel_rfl) (by kernel_rfl) (by rfl) hHeld ?_
              try simp only [Act.put, List.setIfInBounds_toArray, List.set_cons_zero, List.set_cons_succ]
              refine reg_skip 11 (atS5 (atS5 (atS at0))) (by kernel_rfl) (by kernel_rfl) (by kernel_rfl) (by rfl) hHeld ?_
              try simp only [Act.put, List.setIfInBounds_toArray, List.set_cons_zero, List.set_cons_succ]
              refine reg_take 12 (v := ?vb12) (atS5 (atS5 (atS (atS at0)))) (by kernel_rfl) (by kernel_rfl) (by kernel_rfl) (by rfl) ?hyb12 hHeld ?restb12
              case hyb12 => (intro w' hSw; go_simp; try with_reducible rfl)
              try simp only [Act.put, List.setIfInBounds_toArray, List.set_cons_zero, List.set_cons_succ]
              refine reg_take 13 (v := ?vb13) (atS5 (atS5 (atS (atS (atS at0))))) (by kernel_rfl) (by kernel_rfl) (by kernel_rfl) (by rfl) ?hyb13 hHeld ?restb13
              case hyb13 => (intro w' hSw; go_simp; try with_reducible rfl)
              try simp only [Act.put, List.setIfInBounds_toArray, List.set_cons_zero, List.set_cons_succ]
              refine wpAnyH_done (by kernel_rfl) ?_ _
              refine NoPanic.normal ?_
              go_wp2_with fail
              go_ret
              exact ⟨rfl, Bt (Bt (Ba (B1 _ _) _) hb1) hx0r⟩
            · rw [rightF_lo hm (by omega)]
              have bhi : decide (9 < vk) = false := by simpa using hhi
              go_enter Tryz.func116, Tryz.ntmps116
              go_wp2_with fail
              go_at_call 113
              refine (rmay_any _ _ _ _).mono ?_
              rintro e w1 ⟨rfl, hb1⟩
              rw [hm]
              obtain ⟨c0, c1, c2⟩ := ((fb_new2 w _ nm vk g).on hb1).cells
              obtain ⟨d0, d1, d2⟩ := (((vb_new w vk n t).alloc _).on hb1).cells
              go_wp2_with fail
              refine reg_begin (by kernel_rfl) (fun w0r hx0r hHeld => ?_)
              have hF0 : FB w0r (w.heap.size + 1) nm vk g := ((fb_new2 w _ nm vk g).on hb1).on hx0r
              have hV0 : VB w0r w.heap.size vk n t := (((vb_new w vk n t).alloc _).on hb1).on hx0r
              have q0 : ∀ w', Ext w0r w' → w'.cell? ⟨w.heap.size + 1, 0, none⟩ = some (.string nm) := fun w' h => (hF0.on h).cells.1
              have q1 : ∀ w', Ext w0r w' → w'.cell? ⟨w.heap.size + 1, 1, none⟩ = some (.int .i64 vk) := fun w' h => (hF0.on h).cells.2.1
              have q2 : ∀ w', Ext w0r w' → w'.cell? ⟨w.heap.size + 1, 2, none⟩ = some (.int .i64 g) := fun w' h => (hF0.on h).cells.2.2
              have p1 : ∀ w', Ext w0r w' → w'.cell? ⟨w.heap.size, 1, none⟩ = some (.int .u64 n) := fun w' h => (hV0.on h).cells.2.1
              refine reg_take 0 (v := ?vc0) at0 (by kernel_rfl) (by kernel_rfl) (by kernel_rfl) (by rfl) ?hyc0 hHeld ?restc0
              case hyc0 => (intro w' hSw; go_simp; try with_reducible rfl)
              try simp only [Act.put, List.setIfInBounds_toArray, List.set_cons_zero, List.set_cons_succ]
              refine reg_take 1 (v := ?vc1) (atS at0) (by kernel_rfl) (by kernel_rfl) (by kernel_rfl) (by rfl) ?hyc1 hHeld ?restc1
              case hyc1 => (intro w' hSw; go_simp; try with_reducible rfl)
              try simp only [Act.put, List.setIfInBounds_toArray, List.set_cons_zero, List.set_cons_succ]
              refine reg_take 2 (v := ?vc2) (atS (atS at0)) (by kernel_rfl) (by kernel_rfl) (by kernel_rfl) (by rfl) ?hyc2 hHeld ?restc2
              case hyc2 => (intro w' hSw; go_simp; try with_reducible rfl)
              try simp only [Act.put, List.setIfInBounds_toArray, List.set_cons_zero, List.set_cons_succ]
              refine reg_take 3 (v := ?vc3) (atS (atS (atS at0))) (by kernel_rfl) (by kernel_rfl) (by kernel_rfl) (by rfl) ?hyc3 hHeld ?restc3
              case hyc3 => (intro w' hSw; go_simp; try with_reducible rfl)
              try simp only [Act.put, List.setIfInBounds_toArray, List.set_cons_zero, List.set_cons_succ]
              refine reg_take 4 (v := ?vc4) (atS (atS (atS (atS at0)))) (by kernel_rfl) (by kernel_rfl) (by kernel_rfl) (by rfl) ?hyc4 hHeld ?restc4
              case hyc4 => (intro w' hSw; go_simp; try with_reducible rfl)
              try simp only [Act.put, List.setIfInBounds_toArray, List.set_cons_zero, List.set_cons_succ]
              refine reg_take 5 (v := ?vc5) (atS5 at0) (by kernel_rfl) (by kernel_rfl) (by kernel_rfl) (by rfl) ?hyc5 hHeld ?restc5
              case hyc5 => (intro w' hSw; go_simp; try with_reducible rfl)
              try simp only [Act.put, List.setIfInBounds_toArray, List.set_cons_zero, List.set_cons_succ]
              refine reg_take 6 (v := ?vc6) (atS5 (atS at0)) (by kernel_rfl) (by kernel_rfl) (by kernel_rfl) (by rfl) ?hyc6 hHeld ?restc6
              case hyc6 => (intro w' hSw; go_simp; try with_reducible rfl)
              try simp only [Act.put, List.setIfInBounds_toArray, List.set_cons_zero, List.set_cons_succ]
              refine reg_take 8 (v := ?vc8) (atS5 (atS (atS (atS at0)))) (by kernel_rfl) (by kernel_rfl) (by kernel_rfl) (by rfl) ?hyc8 hHeld ?restc8
              case hyc8 => (intro w' hSw; go_simp; try with_reducible rfl)
              try simp only [Act.put, List.setIfInBounds_toArray, List.set_cons_zero, List.set_cons_succ]
              refine reg_take 9 (v := ?vc9) (atS5 (atS (atS (atS (atS at0))))) (by kernel_rfl) (by kernel_rfl) (by kernel_rfl) (by rfl) ?hyc9 hHeld ?restc9
              case hyc9 => (intro w' hSw; go_simp; try with_reducible rfl)
              try simp only [Act.put, List.setIfInBounds_toArray, List.set_cons_zero, List.set_cons_succ]
              refine reg_take 10 (v := ?vc10) (atS5 (atS5 at0)) (by kernel_rfl) (by kernel_rfl) (by kernel_rfl) (by rfl) ?hyc10 hHeld ?restc10
              case hyc10 => (intro w' hSw; go_simp; try with_reducible rfl)
              try simp only [Act.put, List.setIfInBounds_toArray, List.set_cons_zero, List.set_cons_succ]
              refine wpAnyH_ready (rs := [7]) (by kernel_rfl) (by simp) ?_
              refine AllReadyH.cons (atS5 (atS (atS at0))) (fun K hK => ?_) AllReadyH.nil
              go_simp
              go_at_call 76
              refine (rlong_any _ _ _ _).mono ?_
              rintro e w2 ⟨rfl, hb2⟩
              go_wp2_with fail
              refine hK.out _ _ hb2 (fun hHeld => ?_)
              clear hK K
              try simp only [Act.put, List.setIfInBounds_toArray, List.set_cons_zero, List.set_cons_succ]
              refine reg_on hb2 (fun hHeld => ?_)
              have q3 : ∀ w', Ext w2 w' → w'.cell? ⟨w.heap.size + 1, 1, none⟩ = some (.int .i64 vk) := fun w' h => q1 w' (Ext.trans hb2 h)
              refine wpAnyH_ready (rs := [11]) (by kernel_rfl) (by simp) ?_
              refine AllReadyH.cons (atS5 (atS5 (atS at0))) (fun K hK => ?_) AllReadyH.nil
              go_simp
              go_at_call 146
              refine (rfits_any _ _ _ _ hn).mono ?_
              rintro e w3 ⟨rfl, rfl⟩
              go_wp2_with fail
              refine hK.out _ _ (Ext.refl _) (fun hHeld => ?_)
              clear hK K
              try simp only [Act.put, List.setIfInBounds_toArray, List.set_cons_zero, List.set_cons_succ]
              refine reg_take 12 (v := ?vc12) (atS5 (atS5 (atS (atS at0)))) (by kernel_rfl) (by kernel_rfl) (by kernel_rfl) (by rfl) ?hyc12 hHeld ?restc12
              case hyc12 => (intro w' hSw; go_simp; try with_reducible rfl)
              try simp only [Act.put, List.setIfInBounds_toArray, List.set_cons_zero, List.set_cons_succ]
              refine reg_take 13 (v := ?vc13) (atS5 (atS5 (atS (atS (atS at0))))) (by kernel_rfl) (by kernel_rfl) (by kernel_rfl) (by rfl) ?hyc13 hHeld ?restc13
              case hyc13 => (intro w' hSw; go_simp; try with_reducible rfl)
              try simp only [Act.put, List.setIfInBounds_toArray, List.set_cons_zero, List.set_cons_succ]
              refine wpAnyH_done (by kernel_rfl) ?_ _
              refine NoPanic.normal ?_
              go_wp2_with fail
              go_ret
              exact ⟨rfl, Bt (Bt (Bt (Ba (B1 _ _) _) hb1) hx0r) hb2⟩
        · rw [rightF_no3 h12 ht]
          have htl := str_some ht
          go_enter Tryz.func116, Tryz.ntmps116
          go_wp2_with fail
          go_at_call 113
          refine (rmay_any _ _ _ _).mono ?_
          rintro e w1 ⟨rfl, hb1⟩
          rw [hm]
          obtain ⟨c0, c1, c2⟩ := ((fb_new2 w _ nm vk g).on hb1).cells
          obtain ⟨d0, d1, d2⟩ := (((vb_new w vk n t).alloc _).on hb1).cells
          go_wp2_with fail
          go_ret
          exact ⟨rfl, Bt (Ba (B1 _ _) _) hb1⟩
    · rw [rightF_no2 hk]
      have bk : (vk == k) = false := by simpa using hk
      go_enter Tryz.func116, Tryz.ntmps116
      go_wp2_with fail
      go_at_call 113
      refine (rmay_any _ _ _ _).mono ?_
      rintro e w1 ⟨rfl, hb1⟩
      rw [hm]
      obtain ⟨c0, c1, c2⟩ := ((fb_new2 w _ nm k g).on hb1).cells
      obtain ⟨d0, d1, d2⟩ := (((vb_new w vk n t).alloc _).on hb1).cells
      go_wp2_with fail
      go_ret
      exact ⟨rfl, Bt (Ba (B1 _ _) _) hb1⟩
  · have hm : mayF k g = false := by simpa using hm
    rw [rightF_no1 hm]
    go_enter Tryz.func116, Tryz.ntmps116
    go_wp2_with fail
    go_at_call 113
    refine (rmay_any _ _ _ _).mono ?_
    rintro e w1 ⟨rfl, hb1⟩
    rw [hm]
    obtain ⟨c0, c1, c2⟩ := ((fb_new2 w _ nm k g).on hb1).cells
    obtain ⟨d0, d1, d2⟩ := (((vb_new w vk n t).alloc _).on hb1).cells
    go_wp2_with fail
    go_ret
    exact ⟨rfl, Bt (Ba (B1 _ _) _) hb1⟩
end Go.Proofs.YtaegencmnmjgbaaGreat
