/-
  Contracts of kind: among, Long, rightBits, Right.
-/
import Derived.Test.YtacakogncjhlfaaKindA
namespace Go.Proofs.Ytacakogncjhlfaa
open Go.RowKit
set_option linter.unusedVariables false
set_option linter.unusedSimpArgs false

/-- Is x from a to b? -/
def amB (a b x : Int) : Bool := decide (a ≤ x) && decide (x ≤ b)
theorem among_any (a b : Int) (w : World) :
    Calls Try.prog 32 #[.int .i64 a, .int .i64 b] w fun e w' => e = .returned (.func (.func 53) #[] #[.pointer (some ⟨w.heap.size, 0, none⟩), .pointer (some ⟨w.heap.size + 1, 0, none⟩)]) ∧ w' = (w.alloc (.cells #[.int .i64 a] 3)).alloc (.cells #[.int .i64 b] 3) := by
  go_enter Try.func32, Try.ntmps32
  go_wp2
  go_ret
  exact ⟨rfl, rfl⟩
theorem among1_any (x a b : Int) (p q : Nat) (w : World) (h0 : w.cell? ⟨p, 0, none⟩ = some (.int .i64 a)) (h1 : w.cell? ⟨q, 0, none⟩ = some (.int .i64 b)) :
    Calls Try.prog 53 #[.int .i64 x, .pointer (some ⟨p, 0, none⟩), .pointer (some ⟨q, 0, none⟩)] w fun e w' => e = .returned (.bool (amB a b x)) ∧ w = w' := by
  by_cases h : a ≤ x
  · have b1 : decide (a ≤ x) = true := by simpa using h
    go_enter Try.func53, Try.ntmps53
    go_wp2
    go_ret
    exact ⟨ret_bool (by simp [amB, h]), rfl⟩
  · have b1 : decide (a ≤ x) = false := by simpa using h
    go_enter Try.func53, Try.ntmps53
    go_wp2
    go_ret
    exact ⟨ret_bool (by simp [amB]; omega), rfl⟩

/-- The two cells of such a question. -/
def Am (w : World) (p : Nat) (a b : Int) : Prop := w.heap[p]? = some (.cells #[.int .i64 a] 3 (0, 0)) ∧ w.heap[p + 1]? = some (.cells #[.int .i64 b] 3 (0, 0))
theorem Am.on {w w' : World} {p : Nat} {a b : Int} (h : Am w p a b) (hb : Below w.heap.size w w') : Am w' p a b :=
  ⟨(hb.block _ (row_lt h.1)).trans h.1, (hb.block _ (row_lt h.2)).trans h.2⟩
theorem Am.cells {w : World} {p : Nat} {a b : Int} (h : Am w p a b) : w.cell? ⟨p, 0, none⟩ = some (.int .i64 a) ∧ w.cell? ⟨p + 1, 0, none⟩ = some (.int .i64 b) := ⟨row_cell h.1 0, row_cell h.2 0⟩
theorem among_new (a b : Int) (w : World) :
    Calls Try.prog 32 #[.int .i64 a, .int .i64 b] w fun e w' => ∃ p, e = .returned (.func (.func 53) #[] #[.pointer (some ⟨p, 0, none⟩), .pointer (some ⟨p + 1, 0, none⟩)]) ∧ Am w' p a b ∧ Below w.heap.size w w' := by
  refine (among_any a b w).mono ?_
  rintro e w' ⟨rfl, rfl⟩
  refine ⟨w.heap.size, rfl, ⟨?_, ?_⟩, Ba (B1 _ _) _⟩
  · rw [(B1 (w.alloc (.cells #[.int .i64 a] 3)) (.cells #[.int .i64 b] 3)).block _ (by simp)]; exact heap_alloc_new w _
  · have := heap_alloc_new (w.alloc (.cells #[.int .i64 a] 3)) (.cells #[.int .i64 b] 3)
    rwa [World.size_alloc] at this
theorem among_ask (x : Int) {a b : Int} {p : Nat} {w : World} (h : Am w p a b) :
    Calls Try.prog 53 #[.int .i64 x, .pointer (some ⟨p, 0, none⟩), .pointer (some ⟨p + 1, 0, none⟩)] w fun e w' => e = .returned (.bool (amB a b x)) ∧ w = w' := among1_any x a b p (p + 1) w h.cells.1 h.cells.2

theorem longF_g {k g : Int} (h : k ≠ 12) (hg : g ≠ 0) : longF k g = 0 := by
  have : mayF k g = false := by simp [mayF, h, hg]
  simp [longF, this]
theorem longF_0 {k : Int} : longF k 0 = sizeOfKind k := by
  by_cases h : k = 12
  · subst h; decide
  · by_cases h1 : 0 < k ∧ k < 12
    · have : mayF k 0 = true := by simp [mayF, h, h1]
      simp [longF, this, h]
    · have e1 : mayF k 0 = false := by
        simp only [mayF, if_neg h]; simp; omega
      have e2 : sizeOfKind k = 0 := by unfold sizeOfKind; repeat (rw [if_neg (by omega)])
      simp [longF, e1, e2]
theorem longF_12 {g : Int} (h : 0 < g) (h2 : g ≤ 64) : longF 12 g = g := by simp [longF, mayF, h, h2]
theorem longF_12n {g : Int} (h : ¬ (0 < g ∧ g ≤ 64)) : longF 12 g = 0 := by
  have : mayF 12 g = false := by simp [mayF]; omega
  simp [longF, this]

set_option maxHeartbeats 1000000 in
theorem klong_any (nm : ByteArray) (k g : Int) (w : World) :
    Calls Try.prog 18 #[.agg #[.string nm, .int .i64 k, .int .i64 g]] w fun e w' => e = .returned (.int .i64 (longF k g)) ∧ Below w.heap.size w w' := by
  by_cases h12 : k = 12
  · subst h12
    by_cases h0 : 0 < g
    · have b0 : decide (0 < g) = true := by simpa using h0
      by_cases h1 : g ≤ 64
      · have b1 : decide (g ≤ 64) = true := by simpa using h1
        rw [longF_12 h0 h1]
        go_enter Try.func18, Try.ntmps18
        go_wp2_with fail
        go_ret
        exact ⟨rfl, B1 _ _⟩
      · have b1 : decide (g ≤ 64) = false := by simpa using h1
        have b2 : (g != 0) = true := by simp; omega
        rw [longF_12n (by omega)]
        go_enter Try.func18, Try.ntmps18
        go_wp2_with fail
        go_ret
        exact ⟨rfl, B1 _ _⟩
    · have b0 : decide (0 < g) = false := by simpa using h0
      rw [longF_12n (by omega)]
      by_cases hg : g = 0
      · subst hg
        go_enter Try.func18, Try.ntmps18
        go_wp2_with fail
        go_at_call 39
        refine (size_any _ _).mono ?_
        rintro e w1 ⟨rfl, rfl⟩
        go_wp2_with fail
        go_ret
        exact ⟨rfl, B1 _ _⟩
      · have b2 : (g != 0) = true := by simpa using hg
        go_enter Try.func18, Try.ntmps18
        go_wp2_with fail
        go_ret
        exact ⟨rfl, B1 _ _⟩
  · have b12 : (k == 12) = false := by simpa using h12
    by_cases hg : g = 0
    · subst hg
      rw [longF_0]
      go_enter Try.func18, Try.ntmps18
      go_wp2_with fail
      go_at_call 39
      refine (size_any _ _).mono ?_
      rintro e w1 ⟨rfl, rfl⟩
      go_wp2_with fail
      go_ret
      exact ⟨rfl, B1 _ _⟩
    · have b2 : (g != 0) = true := by simpa using hg
      rw [longF_g h12 hg]
      go_enter Try.func18, Try.ntmps18
      go_wp2_with fail
      go_ret
      exact ⟨rfl, B1 _ _⟩

/-- What rightBits answers. -/
def rbB (n k : Int) : Bool := if k = 9 then decide (n ≤ 1) else fits n (sizeOfKind k) (amB 5 8 k)
set_option maxHeartbeats 1000000 in
theorem rightBits_any (n k : Int) (w : World) (hn : U64 n) :
    Calls Try.prog 36 #[.int .u64 n, .int .i64 k] w fun e w' => e = .returned (.bool (rbB n k)) ∧ Below w.heap.size w w' := by
  by_cases h9 : k = 9
  · subst h9
    go_enter Try.func36, Try.ntmps36
    go_wp2_with fail
    go_ret
    exact ⟨ret_bool (by simp [rbB]), B0 _⟩
  · have b9 : (k == 9) = false := by simpa using h9
    go_enter Try.func36, Try.ntmps36
    go_wp2_with fail
    go_at_call 32
    refine (among_any _ _ _).mono ?_
    rintro e w1 ⟨rfl, rfl⟩
    go_wp2_with fail
    go_at_call 39
    refine (size_any _ _).mono ?_
    rintro e w1 ⟨rfl, rfl⟩
    go_wp2_with fail
    go_at_call 53
    refine (among1_any _ 5 8 _ _ _ (by simp) (by simp)).mono ?_
    rintro e w1 ⟨rfl, rfl⟩
    go_wp2_with fail
    go_at_call 47
    refine (fits_any _ _ _ _ hn).mono ?_
    rintro e w1 ⟨rfl, hb⟩
    go_wp2_with fail
    go_ret
    exact ⟨ret_bool (by simp [rbB, h9]), Bt (Ba (B1 _ _) _) hb⟩

theorem long_zero {k g : Int} (h : mayF k g = false) : longF k g = 0 := by simp [longF, h]
theorem long_may {k g : Int} (h : mayF k g = true) : longF k g ≠ 0 := by
  by_cases h12 : k = 12
  · subst h12; have := may12 h; simp [longF, h]; omega
  · have hk := (may_cases h h12).2
    rw [show longF k g = sizeOfKind k by simp [longF, h, h12]]
    rcases hk with rfl | rfl | rfl | rfl | rfl | rfl | rfl | rfl | rfl | rfl | rfl <;> decide
theorem rbB_right {n k g : Int} (hn : U64 n) (h : mayF k g = true) (h12 : k ≠ 12) : rightF k n 0 k g = rbB n k := by
  obtain ⟨rfl, hk⟩ := may_cases h h12
  have h8 := sgn8 n hn
  have hlt := hn.2
  rcases hk with rfl | rfl | rfl | rfl | rfl | rfl | rfl | rfl | rfl | rfl | rfl
  all_goals first
    | (rw [rightF_lo h (by decide), longF_0]; rfl)
    | (rw [rightF_9 h, Bool.eq_iff_iff]; simp [rbB]; omega)
    | (rw [rightF_hi h (by decide) (by decide)]; simp [rbB, fits, show sizeOfKind 10 = 8 by decide, show sizeOfKind 11 = 8 by decide, show isW 8 = true by decide, show amB 5 8 10 = false by decide, show amB 5 8 11 = false by decide]; exact hlt)

set_option maxHeartbeats 2000000 in
theorem kright_any (vk n : Int) (t nm : ByteArray) (k g : Int) (w : World) (hn : U64 n) :
    Calls Try.prog 16 #[.agg #[.int .i64 vk, .int .u64 n, .string t], .agg #[.string nm, .int .i64 k, .int .i64 g]] w fun e w' => e = .returned (.bool (rightF vk n t.size k g)) ∧ Below w.heap.size w w' := by
  by_cases hm : mayF k g = true
  · have hl0 := long_may hm
    obtain ⟨L, hL⟩ : ∃ L, L = longF k g := ⟨_, rfl⟩
    have bl : (L == 0) = false := by rw [hL]; simpa using hl0
    by_cases hk : vk = k
    · subst hk
      by_cases h12 : vk = 12
      · subst h12
        have hLg : L = g := by rw [hL]; simp [longF, hm]
        rw [rightF_12 hm]
        by_cases h0 : n = 0
        · subst h0
          go_enter Try.func16, Try.ntmps16
          go_wp2_with fail
          go_at_call 18
          refine (klong_any _ _ _ _).mono ?_
          rintro e w1 ⟨rfl, hb1⟩
          rw [← hL, hLg]
          rw [hLg] at bl
          clear hL hLg hl0
          obtain ⟨c0, c1, c2⟩ := ((fb_new2 w _ nm 12 g).on hb1).cells
          obtain ⟨d0, d1, d2⟩ := (((vb_new w 12 0 t).alloc _).on hb1).cells
          go_wp2_with fail
          go_ret
          exact ⟨ret_bool (by simp; rfl), Bt (Ba (B1 _ _) _) hb1⟩
        · have b0 : (n == 0) = false := by simpa using h0
          go_enter Try.func16, Try.ntmps16
          go_wp2_with fail
          go_at_call 18
          refine (klong_any _ _ _ _).mono ?_
          rintro e w1 ⟨rfl, hb1⟩
          rw [← hL, hLg]
          rw [hLg] at bl
          clear hL hLg hl0
          obtain ⟨c0, c1, c2⟩ := ((fb_new2 w _ nm 12 g).on hb1).cells
          obtain ⟨d0, d1, d2⟩ := (((vb_new w 12 n t).alloc _).on hb1).cells
          go_wp2_with fail
          go_ret
          exact ⟨ret_bool (by simp [h0]), Bt (Ba (B1 _ _) _) hb1⟩
      · have b12 : (vk == 12) = false := by simpa using h12
        by_cases ht : t.size = 0
        · have htl := str_none ht
          rw [ht, rbB_right hn hm h12]
          go_enter Try.func16, Try.ntmps16
          go_wp2_with fail
          go_at_call 18
          refine (klong_any _ _ _ _).mono ?_
          rintro e w1 ⟨rfl, hb1⟩
          rw [← hL]
          clear hL hl0
          obtain ⟨c0, c1, c2⟩ := ((fb_new2 w _ nm vk g).on hb1).cells
          obtain ⟨d0, d1, d2⟩ := (((vb_new w vk n t).alloc _).on hb1).cells
          go_wp2_with fail
          go_at_call 36
          refine (rightBits_any _ _ _ hn).mono ?_
          rintro e w2 ⟨rfl, hb2⟩
          go_wp2_with fail
          go_ret
          exact ⟨rfl, Bt (Bt (Ba (B1 _ _) _) hb1) hb2⟩
        · rw [rightF_no3 h12 ht]
          have htl := str_some ht
          go_enter Try.func16, Try.ntmps16
          go_wp2_with fail
          go_at_call 18
          refine (klong_any _ _ _ _).mono ?_
          rintro e w1 ⟨rfl, hb1⟩
          rw [← hL]
          clear hL hl0
          obtain ⟨c0, c1, c2⟩ := ((fb_new2 w _ nm vk g).on hb1).cells
          obtain ⟨d0, d1, d2⟩ := (((vb_new w vk n t).alloc _).on hb1).cells
          go_wp2_with fail
          go_ret
          exact ⟨rfl, Bt (Ba (B1 _ _) _) hb1⟩
    · rw [rightF_no2 hk]
      have bk : (vk != k) = true := by simpa using hk
      go_enter Try.func16, Try.ntmps16
      go_wp2_with fail
      go_at_call 18
      refine (klong_any _ _ _ _).mono ?_
      rintro e w1 ⟨rfl, hb1⟩
      rw [← hL]
      clear hL hl0
      obtain ⟨c0, c1, c2⟩ := ((fb_new2 w _ nm k g).on hb1).cells
      obtain ⟨d0, d1, d2⟩ := (((vb_new w vk n t).alloc _).on hb1).cells
      go_wp2_with fail
      go_ret
      exact ⟨rfl, Bt (Ba (B1 _ _) _) hb1⟩
  · have hm : mayF k g = false := by simpa using hm
    rw [rightF_no1 hm]
    go_enter Try.func16, Try.ntmps16
    go_wp2_with fail
    go_at_call 18
    refine (klong_any _ _ _ _).mono ?_
    rintro e w1 ⟨rfl, hb1⟩
    rw [long_zero hm]
    go_wp2_with fail
    go_ret
    exact ⟨rfl, Bt (Ba (B1 _ _) _) hb1⟩
end Go.Proofs.Ytacakogncjhlfaa
