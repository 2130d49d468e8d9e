/-
  Contracts of crc: Sum, Seal, Open.
-/
import Derived.Test.YtpmljbcgaeodjaaCrcA
import Derived.Test.YtpmljbcgaeodjaaWordG
namespace Go.Proofs.Ytpmljbcgaeodjaa
open Go.RowKit
set_option linter.unusedVariables false

/-- All bytes of the first k parts. -/
def flat (ps : List (Value × List UInt8)) (k : Nat) : List UInt8 := ((ps.take k).map (·.2)).flatten
theorem flat_succ {ps : List (Value × List UInt8)} {k : Nat} (h : k < ps.length) : flat ps (k + 1) = flat ps k ++ ps[k].2 := by
  unfold flat; rw [List.take_succ_eq_append_getElem h, List.map_append, List.flatten_append, List.map_singleton, List.flatten_singleton]

set_option maxHeartbeats 1000000 in
theorem sum_any (g k c : Nat) (ps : List (Value × List UInt8)) (w : World) (hk : ps.length = k) (hkc : k ≤ c) (hcm : k ≤ 1000) (hg : g < w.heap.size) (hcells : ∀ i (h : i < ps.length), w.cell? ⟨g, i, none⟩ = some ps[i].1)
    (hrd : ∀ i (h : i < ps.length), ∃ A n cap, ps[i].1 = .slice A n cap ∧ Rd w w.heap.size A n cap ps[i].2) :
    Calls Try.prog 51 #[.slice (some ⟨g, 0, none⟩) k c] w fun e w' => e = .returned (.int .i64 (crcB 0#16 (flat ps k)).toNat) ∧ Below w.heap.size w w' := by
  have HK := hid hk; have HC := hid hcells; have HR := hid hrd
  clear hk hcells hrd
  have H0 : Hid (lowB 0 = 0#16) := show _ = _ by decide
  go_enter Try.func51, Try.ntmps51
  go_wp2_with fail
  refine (register_any 0 _).mono ?_
  rintro e w1 ⟨rfl, rfl⟩
  rw [H0.out]
  go_wp2_with fail
  go_loopw [4, 10] (fun s i wr => ∃ j : Nat, j ≤ k ∧ i = .int .i64 j ∧ s = .int .i64 (crcB 0#16 (flat ps j)).toNat ∧ Hid (Rg wr w.heap.size (crcB 0#16 (flat ps j))) ∧ Below w.heap.size w wr) (fun _ i _ => k - (intOf i).toNat)
  case atStart => exact ⟨0, by omega, rfl, by simp [flat, crcB], show Rg _ _ _ from rg_new w 0#16, B1 _ _⟩
  case round =>
    obtain ⟨j, hj, rfl, rfl, hr, hb⟩ := hrel
    by_cases hlt : j < k
    · have hjl : j < ps.length := by have := HK.out; omega
      obtain ⟨A, n, cap, hv, hrd⟩ := HR.out j hjl
      have hcell : wr.cell? ⟨g, j, none⟩ = some (.slice A n cap) := (hb.cell (p := ⟨g, j, none⟩) hg).trans ((HC.out j hjl).trans (by rw [hv]))
      have HF : Hid (crcB 0#16 (flat ps (j + 1)) = crcB (crcB 0#16 (flat ps j)) ps[j].2) := show _ = _ by rw [flat_succ hjl, crcB_append]
      have HD := hid hrd
      obtain ⟨l, hl⟩ : ∃ l, l = ps[j].2 := ⟨_, rfl⟩
      rw [← hl] at HF HD
      obtain ⟨x, hx⟩ : ∃ x, x = crcB 0#16 (flat ps j) := ⟨_, rfl⟩
      rw [← hx] at HF hr ⊢
      clear hv hrd hjl hl hx
      go_wp2_with fail
      refine (move_any A n cap w.heap.size l x _ (HD.out.below hb) hr.out).mono ?_
      rintro e w2 ⟨rfl, hr2, hb2⟩
      have HR2 := hid hr2; clear hr2
      rw [← HF.out] at HR2 ⊢
      go_wp2_with fail
      exact ⟨⟨j + 1, by omega, by go_num, rfl, HR2, hb.trans hb2⟩, by simp [intOf]; omega⟩
    · obtain rfl : j = k := by omega
      go_wp2_with fail
      go_ret
      exact ⟨rfl, hb⟩

theorem sum1 {A : Option Addr} {n cap : Nat} {l : List UInt8} {w : World} {g : Nat} (hg : g = w.heap.size) (h : Rd w w.heap.size A n cap l) :
    Calls Try.prog 51 #[.slice (some ⟨g, 0, none⟩) 1 1] (w.alloc (.cells #[.slice A n cap] 35)) fun e w' => e = .returned (.int .i64 (crcB 0#16 l).toNat) ∧ Below w.heap.size w w' := by
  subst hg
  refine (sum_any w.heap.size 1 1 [(.slice A n cap, l)] _ rfl (Nat.le_refl _) (by omega) (by simp) ?_ ?_).mono ?_
  · intro i hi
    rw [row_cell (heap_alloc_new w _)]
    have : i = 0 := by simp at hi; omega
    subst this; rfl
  · intro i hi
    have : i = 0 := by simp at hi; omega
    subst this
    exact ⟨A, n, cap, rfl, h.on (B1 w _)⟩
  · rintro e w' ⟨rfl, hb⟩
    refine ⟨by simp [flat], Bt (B1 w _) hb⟩
theorem sum2 {A A2 : Option Addr} {n cap n2 cap2 : Nat} {l l2 : List UInt8} {w : World} {g : Nat} (hg : g = w.heap.size) (h : Rd w w.heap.size A n cap l) (h2 : Rd w w.heap.size A2 n2 cap2 l2) :
    Calls Try.prog 51 #[.slice (some ⟨g, 0, none⟩) 2 2] (w.alloc (.cells #[.slice A n cap, .slice A2 n2 cap2] 35)) fun e w' => e = .returned (.int .i64 (crcB 0#16 (l ++ l2)).toNat) ∧ Below w.heap.size w w' := by
  subst hg
  refine (sum_any w.heap.size 2 2 [(.slice A n cap, l), (.slice A2 n2 cap2, l2)] _ rfl (Nat.le_refl _) (by omega) (by simp) ?_ ?_).mono ?_
  · intro i hi
    rw [row_cell (heap_alloc_new w _)]
    have : i = 0 ∨ i = 1 := by simp at hi; omega
    rcases this with rfl | rfl <;> rfl
  · intro i hi
    have : i = 0 ∨ i = 1 := by simp at hi; omega
    rcases this with rfl | rfl
    · exact ⟨A, n, cap, rfl, h.on (B1 w _)⟩
    · exact ⟨A2, n2, cap2, rfl, h2.on (B1 w _)⟩
  · rintro e w' ⟨rfl, hb⟩
    refine ⟨by simp [flat], Bt (B1 w _) hb⟩
theorem sum3 {A A2 A3 : Option Addr} {n cap n2 cap2 n3 cap3 : Nat} {l l2 l3 : List UInt8} {w : World} {g : Nat} (hg : g = w.heap.size) (h : Rd w w.heap.size A n cap l) (h2 : Rd w w.heap.size A2 n2 cap2 l2) (h3 : Rd w w.heap.size A3 n3 cap3 l3) :
    Calls Try.prog 51 #[.slice (some ⟨g, 0, none⟩) 3 3] (w.alloc (.cells #[.slice A n cap, .slice A2 n2 cap2, .slice A3 n3 cap3] 35)) fun e w' => e = .returned (.int .i64 (crcB 0#16 (l ++ (l2 ++ l3))).toNat) ∧ Below w.heap.size w w' := by
  subst hg
  refine (sum_any w.heap.size 3 3 [(.slice A n cap, l), (.slice A2 n2 cap2, l2), (.slice A3 n3 cap3, l3)] _ rfl (Nat.le_refl _) (by omega) (by simp) ?_ ?_).mono ?_
  · intro i hi
    rw [row_cell (heap_alloc_new w _)]
    have : i = 0 ∨ i = 1 ∨ i = 2 := by simp at hi; omega
    rcases this with rfl | rfl | rfl <;> rfl
  · intro i hi
    have : i = 0 ∨ i = 1 ∨ i = 2 := by simp at hi; omega
    rcases this with rfl | rfl | rfl
    · exact ⟨A, n, cap, rfl, h.on (B1 w _)⟩
    · exact ⟨A2, n2, cap2, rfl, h2.on (B1 w _)⟩
    · exact ⟨A3, n3, cap3, rfl, h3.on (B1 w _)⟩
  · rintro e w' ⟨rfl, hb⟩
    refine ⟨by simp [flat], Bt (B1 w _) hb⟩

/-- The sum as two bytes. -/
def sumL (l : List UInt8) : List UInt8 := le (crcB 0#16 l).toNat 2
theorem sumL_length (l : List UInt8) : (sumL l).length = 2 := le_length _ _
theorem sum_fits (x : BitVec 16) : fits (x.toNat : Int) 2 false = true := by
  have := x.isLt
  simp [fits, show isW 2 = true from rfl, pw2]; omega
theorem sum_U64 (x : BitVec 16) : U64 (x.toNat : Int) := by
  have := x.isLt
  unfold U64; rw [pw8]; omega

/-- Whether the last two bytes are the sum of those ahead. -/
def openB (l : List UInt8) : Bool := decide (2 ≤ l.length) && decide (l = l.take (l.length - 2) ++ sumL (l.take (l.length - 2)))
/-- What Open answers. -/
def openL (l : List UInt8) : List UInt8 := if openB l then l.take (l.length - 2) else []

theorem num_inj : ∀ {a b : List UInt8}, a.length = b.length → num a = num b → a = b
  | [], [], _, _ => rfl
  | c :: a, d :: b, h, e => by
    have h1 := c.toNat_lt; have h2 := d.toNat_lt
    simp only [num] at e
    have e1 : c.toNat = d.toNat := by omega
    have e2 : num a = num b := by omega
    rw [UInt8.toNat_inj.1 e1, num_inj (by simpa using h) e2]
  | [], _ :: _, h, _ => by simp at h
  | _ :: _, [], h, _ => by simp at h
theorem emod_pwk (m : Int) (h0 : 0 ≤ m) (k : Nat) : m % pw (k + 1 : Nat) = m % pw k + pw k * (m / pw k % 256) := by
  rw [pw_succ]
  obtain ⟨m, rfl⟩ := Int.eq_ofNat_of_zero_le h0
  obtain ⟨q, hq⟩ := Int.eq_ofNat_of_zero_le (Int.le_of_lt (pw_pos k))
  rw [hq]
  have h := Nat.mod_mul (x := m) (a := q) (b := 256)
  have h2 := congrArg (fun z : Nat => (z : Int)) h
  simp only [Int.natCast_add, Int.natCast_mul, Int.natCast_emod, Int.natCast_ediv] at h2
  exact h2
theorem num_lek (nn : Int) (h0 : 0 ≤ nn) (k : Nat) : num (le nn k) = nn % pw k := by
  induction k with
  | zero => simp [le, num, pw]
  | succ k ih =>
    have h1 : 0 ≤ nn / pw k % 256 := Int.emod_nonneg _ (by decide)
    have h2 : nn / pw k % 256 < 256 := Int.emod_lt_of_pos _ (by decide)
    have e : (byteAt nn k).toNat = (nn / pw k % 256).toNat := by unfold byteAt; rw [UInt8.toNat_ofNat']; omega
    rw [le, num_append, ih, le_length]
    simp only [num, e]
    rw [Int.toNat_of_nonneg h1, Int.mul_zero, Int.add_zero, emod_pwk nn h0 k]
theorem num_sumL (l : List UInt8) : num (sumL l) = (crcB 0#16 l).toNat := by
  have := (crcB 0#16 l).isLt
  unfold sumL
  rw [num_lek _ (by omega), show ((2 : Nat) : Int) = 2 from rfl, pw2]; omega
theorem openB_iff {l : List UInt8} {m : Nat} (h : l.length = m + 2) : openB l = decide (num (l.drop m) = (crcB 0#16 (l.take m)).toNat) := by
  unfold openB
  rw [Bool.eq_iff_iff]
  have e : l.length - 2 = m := by omega
  simp only [e, Bool.and_eq_true, decide_eq_true_eq]
  rw [← num_sumL]
  constructor
  · rintro ⟨_, h2⟩
    have h3 : l.drop m = (l.take m ++ sumL (l.take m)).drop m := congrArg (List.drop m) h2
    have h4 : (l.take m).length = m := by simp; omega
    rw [List.drop_left' h4] at h3
    rw [h3]
  · intro h2
    have h3 := num_inj (by simp [sumL_length]; omega) h2
    refine ⟨by omega, ?_⟩
    rw [← h3, List.take_append_drop]
theorem openB_short {l : List UInt8} (h : l.length < 2) : openB l = false := by
  unfold openB; simp; omega
theorem open_sealed (l : List UInt8) : openB (l ++ sumL l) = true := by
  rw [openB_iff (m := l.length) (by simp [sumL_length])]
  simp [num_sumL]
theorem openL_sealed (l : List UInt8) : openL (l ++ sumL l) = l := by
  unfold openL; rw [open_sealed]; simp [sumL_length]

end Go.Proofs.Ytpmljbcgaeodjaa
