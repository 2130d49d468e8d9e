/-
  Contracts of kind: among, Long, rightBits, Right.
  The program's Find, Right, step, up of layer 6.
-/
import Derived.Test.YtggfcbncjkpkgaaM4
import Derived.Test.YtggfcbncjkpkgaaM7

namespace Go.Proofs.Ytggfcbncjkpkgaa
open Go.RowKit
set_option linter.unusedVariables false
set_option linter.unusedSimpArgs false

/-- Is x from a to b? -/
def amB (a b x : Int) : Bool := decide (a ≤ x) && decide (x ≤ b)
theorem among_any (a b : Int) (w : World) :
    Calls Try.prog 54 #[.int .i64 a, .int .i64 b] w fun e w' => e = .returned (.func (.func 64) #[] #[.pointer (some ⟨w.heap.size, 0, none⟩), .pointer (some ⟨w.heap.size + 1, 0, none⟩)]) ∧ w' = (w.alloc (.cells #[.int .i64 a] 3)).alloc (.cells #[.int .i64 b] 3) := by
  go_enter Try.func54, Try.ntmps54
  go_wp2
  go_ret
  exact ⟨rfl, rfl⟩
theorem among1_any (x a b : Int) (p q : Nat) (w : World) (h0 : w.cell? ⟨p, 0, none⟩ = some (.int .i64 a)) (h1 : w.cell? ⟨q, 0, none⟩ = some (.int .i64 b)) :
    Calls Try.prog 64 #[.int .i64 x, .pointer (some ⟨p, 0, none⟩), .pointer (some ⟨q, 0, none⟩)] w fun e w' => e = .returned (.bool (amB a b x)) ∧ w = w' := by
  by_cases h : a ≤ x
  · have b1 : decide (a ≤ x) = true := by simpa using h
    go_enter Try.func64, Try.ntmps64
    go_wp2
    go_ret
    exact ⟨ret_bool (by simp [amB, h]), rfl⟩
  · have b1 : decide (a ≤ x) = false := by simpa using h
    go_enter Try.func64, Try.ntmps64
    go_wp2
    go_ret
    exact ⟨ret_bool (by simp [amB]; omega), rfl⟩

/-- The two cells of such a question. -/
def Am (w : World) (p : Nat) (a b : Int) : Prop := w.heap[p]? = some (.cells #[.int .i64 a] 3 (0, 0)) ∧ w.heap[p + 1]? = some (.cells #[.int .i64 b] 3 (0, 0))
theorem Am.on {w w' : World} {p : Nat} {a b : Int} (h : Am w p a b) (hb : Below w.heap.size w w') : Am w' p a b :=
  ⟨(hb.block _ (row_lt h.1)).trans h.1, (hb.block _ (row_lt h.2)).trans h.2⟩
theorem Am.cells {w : World} {p : Nat} {a b : Int} (h : Am w p a b) : w.cell? ⟨p, 0, none⟩ = some (.int .i64 a) ∧ w.cell? ⟨p + 1, 0, none⟩ = some (.int .i64 b) := ⟨row_cell h.1 0, row_cell h.2 0⟩
theorem among_new (a b : Int) (w : World) :
    Calls Try.prog 54 #[.int .i64 a, .int .i64 b] w fun e w' => ∃ p, e = .returned (.func (.func 64) #[] #[.pointer (some ⟨p, 0, none⟩), .pointer (some ⟨p + 1, 0, none⟩)]) ∧ Am w' p a b ∧ Below w.heap.size w w' := by
  refine (among_any a b w).mono ?_
  rintro e w' ⟨rfl, rfl⟩
  refine ⟨w.heap.size, rfl, ⟨?_, ?_⟩, Ba (B1 _ _) _⟩
  · rw [(B1 (w.alloc (.cells #[.int .i64 a] 3)) (.cells #[.int .i64 b] 3)).block _ (by simp)]; exact heap_alloc_new w _
  · have := heap_alloc_new (w.alloc (.cells #[.int .i64 a] 3)) (.cells #[.int .i64 b] 3)
    rwa [World.size_alloc] at this
theorem among_ask (x : Int) {a b : Int} {p : Nat} {w : World} (h : Am w p a b) :
    Calls Try.prog 64 #[.int .i64 x, .pointer (some ⟨p, 0, none⟩), .pointer (some ⟨p + 1, 0, none⟩)] w fun e w' => e = .returned (.bool (amB a b x)) ∧ w = w' := among1_any x a b p (p + 1) w h.cells.1 h.cells.2

theorem longF_g {k g : Int} (h : k ≠ 12) (hg : g ≠ 0) : longF k g = 0 := by
  have : mayF k g = false := by simp [mayF, h, hg]
  simp [longF, this]
theorem longF_0 {k : Int} : longF k 0 = sizeOfKind k := by
  by_cases h : k = 12
  · subst h; decide
  · by_cases h1 : 0 < k ∧ k < 12
    · have : mayF k 0 = true := by simp [mayF, h, h1]
      simp [longF, this, h]
    · have e1 : mayF k 0 = false := by
        simp only [mayF, if_neg h]; simp; omega
      have e2 : sizeOfKind k = 0 := by unfold sizeOfKind; repeat (rw [if_neg (by omega)])
      simp [longF, e1, e2]
theorem longF_12 {g : Int} (h : 0 < g) (h2 : g ≤ 64) : longF 12 g = g := by simp [longF, mayF, h, h2]
theorem longF_12n {g : Int} (h : ¬ (0 < g ∧ g ≤ 64)) : longF 12 g = 0 := by
  have : mayF 12 g = false := by simp [mayF]; omega
  simp [longF, this]

set_option maxHeartbeats 1000000 in
theorem klong_any (nm : ByteArray) (k g : Int) (w : World) :
    Calls Try.prog 37 #[.agg #[.string nm, .int .i64 k, .int .i64 g]] w fun e w' => e = .returned (.int .i64 (longF k g)) ∧ Below w.heap.size w w' := by
  by_cases h12 : k = 12
  · subst h12
    by_cases h0 : 0 < g
    · have b0 : decide (0 < g) = true := by simpa using h0
      by_cases h1 : g ≤ 64
      · have b1 : decide (g ≤ 64) = true := by simpa using h1
        rw [longF_12 h0 h1]
        go_enter Try.func37, Try.ntmps37
        go_wp2_with fail
        go_ret
        exact ⟨rfl, B1 _ _⟩
      · have b1 : decide (g ≤ 64) = false := by simpa using h1
        have b2 : (g != 0) = true := by simp; omega
        rw [longF_12n (by omega)]
        go_enter Try.func37, Try.ntmps37
        go_wp2_with fail
        go_ret
        exact ⟨rfl, B1 _ _⟩
    · have b0 : decide (0 < g) = false := by simpa using h0
      rw [longF_12n (by omega)]
      by_cases hg : g = 0
      · subst hg
        go_enter Try.func37, Try.ntmps37
        go_wp2_with fail
        go_at_call 53
        refine (size_any _ _).mono ?_
        rintro e w1 ⟨rfl, rfl⟩
        go_wp2_with fail
        go_ret
        exact ⟨rfl, B1 _ _⟩
      · have b2 : (g != 0) = true := by simpa using hg
        go_enter Try.func37, Try.ntmps37
        go_wp2_with fail
        go_ret
        exact ⟨rfl, B1 _ _⟩
  · have b12 : (k == 12) = false := by simpa using h12
    by_cases hg : g = 0
    · subst hg
      rw [longF_0]
      go_enter Try.func37, Try.ntmps37
      go_wp2_with fail
      go_at_call 53
      refine (size_any _ _).mono ?_
      rintro e w1 ⟨rfl, rfl⟩
      go_wp2_with fail
      go_ret
      exact ⟨rfl, B1 _ _⟩
    · have b2 : (g != 0) = true := by simpa using hg
      rw [longF_g h12 hg]
      go_enter Try.func37, Try.ntmps37
      go_wp2_with fail
      go_ret
      exact ⟨rfl, B1 _ _⟩

/-- What rightBits answers. -/
def rbB (n k : Int) : Bool := if k = 9 then decide (n ≤ 1) else fits n (sizeOfKind k) (amB 5 8 k)
set_option maxHeartbeats 1000000 in
theorem rightBits_any (n k : Int) (w : World) (hn : U64 n) :
    Calls Try.prog 66 #[.int .u64 n, .int .i64 k] w fun e w' => e = .returned (.bool (rbB n k)) ∧ Below w.heap.size w w' := by
  by_cases h9 : k = 9
  · subst h9
    go_enter Try.func66, Try.ntmps66
    go_wp2_with fail
    go_ret
    exact ⟨ret_bool (by simp [rbB]), B0 _⟩
  · have b9 : (k == 9) = false := by simpa using h9
    go_enter Try.func66, Try.ntmps66
    go_wp2_with fail
    go_at_call 54
    refine (among_any _ _ _).mono ?_
    rintro e w1 ⟨rfl, rfl⟩
    go_wp2_with fail
    go_at_call 53
    refine (size_any _ _).mono ?_
    rintro e w1 ⟨rfl, rfl⟩
    go_wp2_with fail
    go_at_call 64
    refine (among1_any _ 5 8 _ _ _ (by simp) (by simp)).mono ?_
    rintro e w1 ⟨rfl, rfl⟩
    go_wp2_with fail
    go_at_call 67
    refine (fits_any _ _ _ _ hn).mono ?_
    rintro e w1 ⟨rfl, hb⟩
    go_wp2_with fail
    go_ret
    exact ⟨ret_bool (by simp [rbB, h9]), Bt (Ba (B1 _ _) _) hb⟩

theorem long_zero {k g : Int} (h : mayF k g = false) : longF k g = 0 := by simp [longF, h]
theorem long_may {k g : Int} (h : mayF k g = true) : longF k g ≠ 0 := by
  by_cases h12 : k = 12
  · subst h12; have := may12 h; simp [longF, h]; omega
  · have hk := (may_cases h h12).2
    rw [show longF k g = sizeOfKind k by simp [longF, h, h12]]
    rcases hk with rfl | rfl | rfl | rfl | rfl | rfl | rfl | rfl | rfl | rfl | rfl <;> decide
theorem rbB_right {n k g : Int} (hn : U64 n) (h : mayF k g = true) (h12 : k ≠ 12) : rightF k n 0 k g = rbB n k := by
  obtain ⟨rfl, hk⟩ := may_cases h h12
  have h8 := sgn8 n hn
  have hlt := hn.2
  rcases hk with rfl | rfl | rfl | rfl | rfl | rfl | rfl | rfl | rfl | rfl | rfl
  all_goals first
    | (rw [rightF_lo h (by decide), longF_0]; rfl)
    | (rw [rightF_9 h, Bool.eq_iff_iff]; simp [rbB]; omega)
    | (rw [rightF_hi h (by decide) (by decide)]; simp [rbB, fits, show sizeOfKind 10 = 8 by decide, show sizeOfKind 11 = 8 by decide, show isW 8 = true by decide, show amB 5 8 10 = false by decide, show amB 5 8 11 = false by decide]; exact hlt)

set_option maxHeartbeats 2000000 in
theorem kright_any (vk n : Int) (t nm : ByteArray) (k g : Int) (w : World) (hn : U64 n) :
    Calls Try.prog 56 #[.agg #[.int .i64 vk, .int .u64 n, .string t], .agg #[.string nm, .int .i64 k, .int .i64 g]] w fun e w' => e = .returned (.bool (rightF vk n t.size k g)) ∧ Below w.heap.size w w' := by
  by_cases hm : mayF k g = true
  · have hl0 := long_may hm
    obtain ⟨L, hL⟩ : ∃ L, L = longF k g := ⟨_, rfl⟩
    have bl : (L == 0) = false := by rw [hL]; simpa using hl0
    by_cases hk : vk = k
    · subst hk
      by_cases h12 : vk = 12
      · subst h12
        have hLg : L = g := by rw [hL]; simp [longF, hm]
        rw [rightF_12 hm]
        by_cases h0 : n = 0
        · subst h0
          go_enter Try.func56, Try.ntmps56
          go_wp2_with fail
          go_at_call 37
          refine (klong_any _ _ _ _).mono ?_
          rintro e w1 ⟨rfl, hb1⟩
          rw [← hL, hLg]
          rw [hLg] at bl
          clear hL hLg hl0
          obtain ⟨c0, c1, c2⟩ := ((fb_new2 w _ nm 12 g).on hb1).cells
          obtain ⟨d0, d1, d2⟩ := (((vb_new w 12 0 t).alloc _).on hb1).cells
          go_wp2_with fail
          go_ret
          exact ⟨ret_bool (by simp; rfl), Bt (Ba (B1 _ _) _) hb1⟩
        · have b0 : (n == 0) = false := by simpa using h0
          go_enter Try.func56, Try.ntmps56
          go_wp2_with fail
          go_at_call 37
          refine (klong_any _ _ _ _).mono ?_
          rintro e w1 ⟨rfl, hb1⟩
          rw [← hL, hLg]
          rw [hLg] at bl
          clear hL hLg hl0
          obtain ⟨c0, c1, c2⟩ := ((fb_new2 w _ nm 12 g).on hb1).cells
          obtain ⟨d0, d1, d2⟩ := (((vb_new w 12 n t).alloc _).on hb1).cells
          go_wp2_with fail
          go_ret
          exact ⟨ret_bool (by simp [h0]), Bt (Ba (B1 _ _) _) hb1⟩
      · have b12 : (vk == 12) = false := by simpa using h12
        by_cases ht : t.size = 0
        · have htl := str_none ht
          rw [ht, rbB_right hn hm h12]
          go_enter Try.func56, Try.ntmps56
          go_wp2_with fail
          go_at_call 37
          refine (klong_any _ _ _ _).mono ?_
          rintro e w1 ⟨rfl, hb1⟩
          rw [← hL]
          clear hL hl0
          obtain ⟨c0, c1, c2⟩ := ((fb_new2 w _ nm vk g).on hb1).cells
          obtain ⟨d0, d1, d2⟩ := (((vb_new w vk n t).alloc _).on hb1).cells
          go_wp2_with fail
          go_at_call 66
          refine (rightBits_any _ _ _ hn).mono ?_
          rintro e w2 ⟨rfl, hb2⟩
          go_wp2_with fail
          go_ret
          exact ⟨rfl, Bt (Bt (Ba (B1 _ _) _) hb1) hb2⟩
        · rw [rightF_no3 h12 ht]
          have htl := str_some ht
          go_enter Try.func56, Try.ntmps56
          go_wp2_with fail
          go_at_call 37
          refine (klong_any _ _ _ _).mono ?_
          rintro e w1 ⟨rfl, hb1⟩
          rw [← hL]
          clear hL hl0
          obtain ⟨c0, c1, c2⟩ := ((fb_new2 w _ nm vk g).on hb1).cells
          obtain ⟨d0, d1, d2⟩ := (((vb_new w vk n t).alloc _).on hb1).cells
          go_wp2_with fail
          go_ret
          exact ⟨rfl, Bt (Ba (B1 _ _) _) hb1⟩
    · rw [rightF_no2 hk]
      have bk : (vk != k) = true := by simpa using hk
      go_enter Try.func56, Try.ntmps56
      go_wp2_with fail
      go_at_call 37
      refine (klong_any _ _ _ _).mono ?_
      rintro e w1 ⟨rfl, hb1⟩
      rw [← hL]
      clear hL hl0
      obtain ⟨c0, c1, c2⟩ := ((fb_new2 w _ nm k g).on hb1).cells
      obtain ⟨d0, d1, d2⟩ := (((vb_new w vk n t).alloc _).on hb1).cells
      go_wp2_with fail
      go_ret
      exact ⟨rfl, Bt (Ba (B1 _ _) _) hb1⟩
  · have hm : mayF k g = false := by simpa using hm
    rw [rightF_no1 hm]
    go_enter Try.func56, Try.ntmps56
    go_wp2_with fail
    go_at_call 37
    refine (klong_any _ _ _ _).mono ?_
    rintro e w1 ⟨rfl, hb1⟩
    rw [long_zero hm]
    go_wp2_with fail
    go_ret
    exact ⟨rfl, Bt (Ba (B1 _ _) _) hb1⟩
end Go.Proofs.Ytggfcbncjkpkgaa

namespace Go.Proofs.Ytggfcbncjkpkgaa
open Go.RowKit
set_option linter.unusedVariables false

set_option maxHeartbeats 2000000 in
theorem p6find_any {w : World} {A : Option Addr} {n c : Nat} {l : List Fd} (h : RdF w w.heap.size A n c l) (nm : List UInt8) :
    Calls Try.prog 21 #[.slice A n c, .string (bs nm)] w fun e w' => e = .returned (.int .i64 (findI l nm)) ∧ Below w.heap.size w w' := by
  have HL := hid h.1
  have hnm : (n : Int) ≤ 9223372036854775807 := by have := Nat.le_trans h.2.1 h.2.2.1; unfold maxLen at this; omega
  have H := hid h; clear h
  go_enter Try.func21, Try.ntmps21
  go_wp2_with fail
  go_loopw [9] (fun i wr => ∃ j : Nat, j ≤ n ∧ i = .int .i64 j ∧ Hid (∀ m, m < j → ∀ f, l[m]? = some f → f.nm ≠ nm) ∧ Hid (Below w.heap.size w wr)) (fun i _ => n - (intOf i).toNat)
  case atStart => exact ⟨0, by omega, rfl, hid (fun m hm => absurd hm (by omega)), B0 w⟩
  case round =>
    obtain ⟨j, hj, rfl, HN, HB⟩ := hrel
    by_cases hlt : j < n
    · have hjl : j < l.length := by have := HL.out; omega
      obtain ⟨f, hf⟩ : ∃ f, l[j]? = some f := ⟨_, List.getElem?_eq_getElem hjl⟩
      obtain ⟨_, hk64, hg64, hnl, b, off, rfl, hc⟩ := H.out.at hf
      obtain ⟨c0, cc1, cc2⟩ := hc wr HB.out
      have HF := hid hf
      have HB2 : Hid (∀ o : Obj, Below w.heap.size w (wr.alloc o)) := fun o => Ba HB.out o
      have hji : (j : Int) < n := by omega
      have hj0 : (0 : Int) ≤ j := by omega
      clear hc hjl hf hk64 hg64 hnl
      by_cases he : f.nm = nm
      · have t1 : (f.nm == nm) = true := by simpa using he
        have t2 : decide (f.nm = nm) = true := by simpa using he
        have HE : Hid (findI l nm = (j : Int)) := findI_some (findN_some HF.out he HN.out)
        clear he
        go_wp2_with fail
        go_ret
        exact ⟨by rw [HE.out]; rfl, HB2.out _⟩
      · have t1 : (f.nm == nm) = false := by rw [beq_eq_false_iff_ne]; exact he
        have t2 : decide (f.nm = nm) = false := by simpa using he
        have HE := hid he
        clear he
        go_wp2_with fail
        go_roundw
        case rel => exact ⟨j + 1, by omega, by simp, hid (fun m hm f' hf' => by
          by_cases e : m = j
          · subst e; rw [HF.out] at hf'; cases hf'; exact HE.out
          · exact HN.out m (by omega) f' hf'), HB2.out _⟩
        case measure => simp [intOf]; omega
    · obtain rfl : j = n := by omega
      have HE : Hid (findI l nm = -1) := findI_none (findN_no fun f hf => by
        obtain ⟨i, hi⟩ := List.mem_iff_getElem?.1 hf
        refine HN.out i ?_ f hi
        have := HL.out
        by_cases c : i < l.length
        · omega
        · rw [List.getElem?_eq_none (by omega)] at hi; cases hi)
      go_wp2_with fail
      go_ret
      exact ⟨by rw [HE.out]; rfl, HB.out⟩

/-- The first multiple of s that is no less than n. -/
def upI (n s : Int) : Int := (n + s - 1) / s * s
theorem up_any (n s : Int) (w : World) (h0 : 0 ≤ n) (h1 : n ≤ 100000) (h2 : 1 ≤ s) (h3 : s ≤ 64) :
    Calls Try.prog 38 #[.int .i64 n, .int .i64 s] w fun e w' => e = .returned (.int .i64 (upI n s)) ∧ w = w' := by
  have q1 : IntKind.i64.wrap (n + s) = n + s := by rw [IntKind.wrap_i64]; omega
  have q2 : IntKind.i64.wrap (n + s - 1) = n + s - 1 := by rw [IntKind.wrap_i64]; omega
  have q3 : (n + s - 1).tdiv s = (n + s - 1) / s := Int.tdiv_eq_ediv_of_nonneg (by omega)
  obtain ⟨d, hd⟩ : ∃ d, d = (n + s - 1) / s := ⟨_, rfl⟩
  have hd0 : 0 ≤ d := by rw [hd]; exact Int.ediv_nonneg (by omega) (by omega)
  have hd1 : d ≤ 100064 := by rw [hd]; exact Int.le_trans (Int.ediv_le_self _ (by omega)) (by omega)
  have hm : d * s ≤ n + s - 1 := by rw [hd]; exact Int.ediv_mul_le _ (by omega)
  have hm0 : 0 ≤ d * s := Int.mul_nonneg hd0 (by omega)
  rw [← hd] at q3
  have q4 : IntKind.i64.wrap d = d := by rw [IntKind.wrap_i64]; omega
  have q5 : IntKind.i64.wrap (d * s) = d * s := by rw [IntKind.wrap_i64]; omega
  have s0 : (s == 0) = false := by rw [beq_eq_false_iff_ne]; omega
  have s1 : s ≠ 0 := by omega
  have HE : Hid (upI n s = d * s) := by show _ = _; unfold upI; rw [← hd]
  clear hd hm hm0
  go_enter Try.func38, Try.ntmps38
  go_wp2_with fail
  go_ret
  exact ⟨by rw [HE.out]; rfl, rfl⟩

/-- The number of which a field's place is a multiple. -/
def stepF (f : Fd) : Int := if f.k = 12 then 1 else f.long
theorem step_any (f : Fd) (w : World) :
    Calls Try.prog 52 #[.agg #[.string (bs f.nm), .int .i64 f.k, .int .i64 f.g]] w fun e w' => e = .returned (.int .i64 (stepF f)) ∧ Below w.heap.size w w' := by
  by_cases h12 : f.k = 12
  · have t1 : (f.k == 12) = true := by rw [h12]; rfl
    have HE : Hid (stepF f = 1) := by show _ = _; unfold stepF; rw [if_pos h12]
    clear h12
    go_enter Try.func52, Try.ntmps52
    go_wp2_with fail
    go_ret
    exact ⟨by rw [HE.out]; rfl, B1 _ _⟩
  · have t1 : (f.k == 12) = false := by simpa using h12
    have HE : Hid (stepF f = longF f.k f.g) := by show _ = _; unfold stepF; rw [if_neg h12]; rfl
    clear h12
    go_enter Try.func52, Try.ntmps52
    go_wp2_with fail
    refine (klong_any (bs f.nm) f.k f.g _).mono ?_
    rintro e w1 ⟨rfl, hb1⟩
    go_wp2_with fail
    go_ret
    exact ⟨by rw [HE.out]; rfl, Bt (B1 _ _) hb1⟩
theorem step_bd {f : Fd} (h : f.may = true) : 1 ≤ stepF f ∧ stepF f ≤ 64 := by
  unfold stepF
  by_cases c : f.k = 12
  · rw [if_pos c]; omega
  · rw [if_neg c]; exact long_pos h
theorem up_place (a : Int) (f : Fd) : upI a (stepF f) = placeF a f := by
  unfold upI stepF placeF
  by_cases c : f.k = 12
  · rw [if_pos c, if_pos c]; omega
  · rw [if_neg c, if_neg c]
theorem up_up8 (n : Int) : upI n 8 = up8 n := by unfold upI up8; congr 2; omega

set_option maxHeartbeats 4000000 in
theorem p6right_any {w : World} {A : Option Addr} {n c : Nat} {l : List Fd} (h : RdF w w.heap.size A n c l) (hs : short l) :
    Calls Try.prog 15 #[.slice A n c] w fun e w' => e = .returned (.bool (rightL l)) ∧ Below w.heap.size w w' := by
  have HL := hid h.1
  have H := hid h; have HS := hid hs; clear h hs
  by_cases h16 : 16 < n
  · have d0 : decide ((16 : Int) < (n : Int)) = true := decide_eq_true (by omega)
    have HE : Hid (rightL l = false) := by
      show _ = _
      cases hr : rightL l with
      | false => rfl
      | true => have := right_len hr; have := HL.out; omega
    clear h16
    go_enter Try.func15, Try.ntmps15
    go_wp2_with fail
    go_ret
    exact ⟨by rw [HE.out]; rfl, B0 _⟩
  have d0 : decide ((16 : Int) < (n : Int)) = false := decide_eq_false (by omega)
  have hn16 : n ≤ 16 := by omega
  clear h16
  go_enter Try.func15, Try.ntmps15
  go_wp2_with fail
  go_loopw [10] (fun i wr => ∃ j : Nat, j ≤ n ∧ i = .int .i64 j ∧ Hid (∀ m, m < j → ∀ f, l[m]? = some f → nameB f.nm = true ∧ f.may = true ∧ findN l f.nm = some m) ∧ Hid (Below w.heap.size w wr)) (fun i _ => n - (intOf i).toNat)
  case atStart => exact ⟨0, by omega, rfl, hid (fun m hm => absurd hm (by omega)), B0 w⟩
  case round =>
    obtain ⟨j, hj, rfl, HA, HB⟩ := hrel
    by_cases hlt : j < n
    · have hjl : j < l.length := by have := HL.out; omega
      obtain ⟨f, hf⟩ : ∃ f, l[j]? = some f := ⟨_, List.getElem?_eq_getElem hjl⟩
      obtain ⟨_, hk64, hg64, hnl, b, off, rfl, hc⟩ := H.out.at hf
      have HF := hid hf
      have hsf : f.nm.length ≤ 100000 := HS.out f (List.mem_of_getElem? hf)
      have HSF := hid hsf
      obtain ⟨c0, c1, c2⟩ := hc wr HB.out
      have hji : (j : Int) < n := by omega
      have hj0 : (0 : Int) ≤ j := by omega
      obtain ⟨wv, hwv⟩ : ∃ wv, wv = wr.alloc (.cells #[.string (bs f.nm), .int .i64 f.k, .int .i64 f.g] 40) := ⟨_, rfl⟩
      obtain ⟨q, hq⟩ : ∃ q, q = wr.heap.size := ⟨_, rfl⟩
      have HWV := hid hwv; have HQ := hid hq
      have HFB : Hid (FB wv q (bs f.nm) f.k f.g) := by rw [hwv, hq]; exact fb_new wr _ _ _
      have HBV : Hid (Below w.heap.size w wv) := by rw [hwv]; exact Ba HB.out _
      obtain ⟨nb, hnb⟩ : ∃ nb, nb = nameB f.nm := ⟨_, rfl⟩
      have HNB := hid hnb
      clear hc hjl hf hsf hnb hk64 hg64 hnl hwv hq
      go_wp2_with fail
      rw [← HWV.out, ← HQ.out]
      refine (p6name_any f.nm HSF.out).mono ?_
      rintro e w1 ⟨rfl, hb1⟩
      rw [← HNB.out]
      have HB1 := hid (Bt HBV.out hb1)
      have HF1 := hid (HFB.out.on hb1)
      obtain ⟨v0, v1, v2⟩ := HF1.out.cells
      clear hb1 c0 c1 c2
      cases nb with
      | false =>
        have HE : Hid (rightL l = false) := right_no HF.out (by rw [← HNB.out]; simp)
        go_wp2_with fail
        go_ret
        exact ⟨by rw [HE.out]; rfl, HB1.out⟩
      | true =>
        go_wp2_with fail
        refine (klong_any (bs f.nm) f.k f.g w1).mono ?_
        rintro e w2 ⟨rfl, hb2⟩
        have HB2 := hid (Bt HB1.out hb2)
        have HF2 := hid (HF1.out.on hb2)
        obtain ⟨v0, v1, v2⟩ := HF2.out.cells
        clear hb2
        obtain ⟨L, hL⟩ : ∃ L, L = longF f.k f.g := ⟨_, rfl⟩
        rw [← hL]
        by_cases hm : f.may = true
        · have hl0 : L ≠ 0 := by rw [hL]; exact long_may hm
          have t0 : (L == 0) = false := by rw [beq_eq_false_iff_ne]; exact hl0
          obtain ⟨r, hr, hrj⟩ := findN_le HF.out
          have HR := hid hr; have HM := hid hm
          clear hr hm hl0 hL
          go_wp2_with fail
          refine (p6find_any (H.out.on HB2.out) f.nm).mono ?_
          rintro e w3 ⟨rfl, hb3⟩
          rw [findI_some HR.out]
          have HB3 := hid (Bt HB2.out hb3)
          clear hb3 v0 v1 v2
          by_cases hqq : r = j
          · subst hqq
            have t1 : ((r : Int) != (r : Int)) = false := by simp
            go_wp2_with fail
            go_roundw
            case rel => exact ⟨r + 1, by omega, by simp, hid (fun m hm f' hf' => by
              by_cases e : m = r
              · subst e; rw [HF.out] at hf'; cases hf'; exact ⟨HNB.out.symm, HM.out, HR.out⟩
              · exact HA.out m (by omega) f' hf'), HB3⟩
            case measure => simp [intOf]; omega
          · have t1 : ((r : Int) != (j : Int)) = true := by rw [bne_iff_ne]; omega
            have HE : Hid (rightL l = false) := right_no HF.out (by rw [HR.out]; intro h; have := h.2.2; cases this; exact hqq rfl)
            clear hqq
            go_wp2_with fail
            go_ret
            exact ⟨by rw [HE.out]; rfl, HB3.out⟩
        · have hl0 : L = 0 := by rw [hL]; exact long_zero (Bool.eq_false_iff.2 hm)
          have HE : Hid (rightL l = false) := right_no HF.out (by intro h; exact hm h.2.1)
          subst hl0
          clear hm hL
          go_wp2_with fail
          go_ret
          exact ⟨by rw [HE.out]; rfl, HB2.out⟩
    · obtain rfl : j = n := by omega
      have HE : Hid (rightL l = true) := by
        show _ = _
        rw [rightL_iff]
        refine ⟨by have := HL.out; omega, fun i f hi => ?_⟩
        refine HA.out i ?_ f hi
        have := HL.out
        by_cases cc : i < l.length
        · omega
        · rw [List.getElem?_eq_none (by omega)] at hi; cases hi
      go_wp2_with fail
      go_ret
      exact ⟨by rw [HE.out]; rfl, HB.out⟩
end Go.Proofs.Ytggfcbncjkpkgaa
