/-
  wal: what is made and read there, and the contracts of its small functions: numberBytes, headOf, regionOf, Room, Seq, write, flush and their steps, setsOf, slices.Values, slices.Chunk.
-/
import Derived.Test.YteggkojlpgkhbaaGreatM6
import Derived.Test.YteggkojlpgkhbaaGreatM4
namespace Go.Proofs.YteggkojlpgkhbaaGreat
open Go.RowKit Go.Maps
set_option linter.unusedVariables false

/-- A set, as a value. -/
def setV (x : Int × Int) : Value := .agg #[.int .i64 x.1, .int .u64 x.2]
/-- A region, as a value, and the cells of its box. -/
def regC (d : Nat) (at_ words : Int) : Array Value := #[.pointer (some ⟨d, 0, none⟩), .int .i64 at_, .int .i64 words]

theorem Own.less {w : World} {base base' : Nat} {v : Value} {l : List UInt8} (h : Own w base v l) (hb : base' ≤ base) : Own w base' v l := by
  obtain ⟨h1, h2⟩ := h
  refine ⟨h1, ?_⟩
  rcases h2 with h3 | ⟨g, c, cur, hv, hbase, h4⟩
  · exact .inl h3
  · exact .inr ⟨g, c, cur, hv, Nat.le_trans hb hbase, h4⟩

theorem fits8 (n : Int) (h : U64 n) : fits n 8 false = true := by
  have := h.2
  simp [fits, show isW 8 = true from rfl]; exact this

theorem nb_any (n : Int) (hn : U64 n) (w : World) :
    Calls Tryz.prog 37 #[.int .u64 n] w fun e w' => ∃ v, e = .returned v ∧ Own w' w.heap.size v (le n 8) ∧ Below w.heap.size w w' := by
  go_enter Tryz.func37, Tryz.ntmps37
  go_wp2_with fail
  refine (put_true none 0 0 [] 8 n _ (Rd.nil _ _) (by omega) hn (fits8 n hn) (by omega)).mono ?_
  rintro e w1 ⟨v, rfl, ho, hb⟩
  have HO := hid ho; clear ho
  go_wp2_with fail
  go_ret
  exact ⟨v, rfl, by simpa using HO.out, hb⟩

/-- A record's head. -/
def headL (c s : Int) (body : List UInt8) : List UInt8 := (le c 2 ++ le s 4) ++ sumL ((le c 2 ++ le s 4) ++ body)
theorem headL_length (c s : Int) (body : List UInt8) : (headL c s body).length = 8 := by simp [headL, le_length, sumL_length]

theorem u64_conv {n : Int} (h0 : 0 ≤ n) (h1 : n < 9223372036854775808) : IntKind.u64.wrap n = n := by
  rw [IntKind.wrap_u64]; omega

set_option maxHeartbeats 1000000 in
theorem head_any (c s : Int) (hc0 : 0 ≤ c) (hc : c ≤ 65535) (hs0 : 0 ≤ s) (hs : s ≤ 4294967295) {A : Option Addr} {n cap : Nat} {body : List UInt8} {w : World} (h : Rd w w.heap.size A n cap body) :
    Calls Tryz.prog 34 #[.int .i64 c, .int .i64 s, .slice A n cap] w fun e w' => ∃ v, e = .returned v ∧ Own w' w.heap.size v (headL c s body) ∧ Below w.heap.size w w' := by
  have H := hid h; clear h
  have e1 := u64_conv hc0 (by omega)
  have e2 := u64_conv hs0 (by omega)
  have f1 : fits c 2 false = true := by simp [fits, show isW 2 = true from rfl, pw2]; omega
  have f2 : fits s 4 false = true := by simp [fits, show isW 4 = true from rfl, pw4]; omega
  have u1 : U64 c := by unfold U64; rw [pw8]; omega
  have u2 : U64 s := by unfold U64; rw [pw8]; omega
  have F1 := hid f1; have F2 := hid f2; have U1 := hid u1; have U2 := hid u2
  clear f1 f2 u1 u2 hc hs hc0 hs0
  go_enter Tryz.func34, Tryz.ntmps34
  go_wp2_with fail
  refine (put_true none 0 0 [] 2 c _ (Rd.nil _ _) (by omega) U1.out F1.out (by omega)).mono ?_
  rintro e w1 ⟨v1, rfl, ho1, hb1⟩
  obtain ⟨A1, c1, rfl, hr1⟩ := ho1.rd
  have HR1 := hid hr1; clear ho1 hr1
  go_wp2_with fail
  refine (put_true A1 _ c1 _ 4 s _ HR1.out (by simp [le_length]) U2.out F2.out (by omega)).mono ?_
  rintro e w2 ⟨v2, rfl, ho2, hb2⟩
  obtain ⟨A2, c2, rfl, hr2⟩ := ho2.rd
  have HR2 := hid hr2; clear ho2 hr2
  go_wp2_with fail
  refine (sum2 rfl HR2.out (H.out.on (Bt hb1 hb2))).mono ?_
  rintro e w3 ⟨rfl, hb3⟩
  have hx := (crcB 0#16 ([] ++ le c 2 ++ le s 4 ++ body)).isLt
  have e3 := u64_conv (n := ((crcB 0#16 ([] ++ le c 2 ++ le s 4 ++ body)).toNat : Int)) (by omega) (by omega)
  go_wp2_with fail
  refine (put_true A2 _ c2 _ 2 _ _ (HR2.out.on hb3) (by simp [le_length]) (sum_U64 _) (sum_fits _) (by omega)).mono ?_
  rintro e w4 ⟨v4, rfl, ho4, hb4⟩
  have HO := hid ho4; clear ho4
  go_wp2_with fail
  go_ret
  refine ⟨v4, rfl, ?_, Bt (Bt (Bt hb1 hb2) hb3) hb4⟩
  have := HO.out.less (Nat.le_trans (Nat.le_trans hb1.size hb2.size) hb3.size)
  simpa [headL, sumL] using this

/-! ### Regions -/
def rgE (n at_ words : Int) : Int := if words < 1 then 1 else if at_ < 0 ∨ n - at_ < words then 30 else 0
theorem rgE_ok {n a l : Int} (h : rgE n a l = 0) : 0 ≤ a ∧ 1 ≤ l ∧ a + l ≤ n := by
  unfold rgE at h; split at h
  · omega
  · split at h <;> omega

section
variable {w : World} {B d g cap lb fb : Nat} {S : List UInt8} {L : Int → Option (List UInt8)} {F : Int → Bool}
set_option maxHeartbeats 1000000 in
theorem rg_ok (h : Dev w B d g cap lb fb S L F) (at_ words : Int) (he : rgE ((S.length : Int) / 8) at_ words = 0) :
    Calls Tryz.prog 25 #[.pointer (some ⟨d, 0, none⟩), .int .i64 at_, .int .i64 words] w fun e w' => e = .returned (.tuple #[.agg (regC d at_ words), .int .i64 0]) ∧ Below w.heap.size w w' := by
  have hl := len_any h
  have hlen := h.len.2
  obtain ⟨h0, h1, h2⟩ := rgE_ok he
  obtain ⟨N, hN⟩ : ∃ N : Int, N = S.length := ⟨_, rfl⟩
  rw [← hN] at hl h2
  have hN1 : N ≤ 65536 := by omega
  have hN0 : 0 ≤ N := by omega
  have HL := hid (fun o => len_any (h.alloc o))
  rw [← hN] at HL
  clear h hl hlen he hN
  have q1 : N.tdiv 8 = N / 8 := by rw [Int.tdiv_eq_ediv_of_nonneg hN0]
  have d1 : decide (words < 1) = false := by simp; omega
  have d2 : decide (at_ < 0) = false := by simp; omega
  have q2 : IntKind.i64.wrap (N / 8 - at_) = N / 8 - at_ := by rw [IntKind.wrap_i64]; omega
  have d3 : decide (N / 8 - at_ < words) = false := by simp; omega
  go_enter Tryz.func25, Tryz.ntmps25
  go_wp2_with fail
  refine (HL.out _).mono ?_
  rintro e w1 ⟨rfl, rfl⟩
  go_wp2_with fail
  refine bodyPost_ret (v := .tuple #[.agg (regC d at_ words), .int .i64 0]) ?_ rfl ⟨rfl, B1 w _⟩
  simp [results, Tryz.f25, go_sem, regC]

set_option maxHeartbeats 1000000 in
theorem rg_bad (h : Dev w B d g cap lb fb S L F) (at_ words : Int) (ha : I64 at_) (hw : I64 words) (he : rgE ((S.length : Int) / 8) at_ words ≠ 0) :
    Calls Tryz.prog 25 #[.pointer (some ⟨d, 0, none⟩), .int .i64 at_, .int .i64 words] w fun e w' => e = .returned (.tuple #[.agg #[.pointer none, .int .i64 0, .int .i64 0], .int .i64 (rgE ((S.length : Int) / 8) at_ words)]) ∧ Below w.heap.size w w' := by
  have hlen := h.len.2
  obtain ⟨N, hN⟩ : ∃ N : Int, N = S.length := ⟨_, rfl⟩
  have hN1 : N ≤ 65536 := by omega
  have hN0 : 0 ≤ N := by omega
  have HL := hid (fun o => len_any (h.alloc o))
  rw [← hN] at HL he ⊢
  clear h hlen hN
  have q1 : N.tdiv 8 = N / 8 := by rw [Int.tdiv_eq_ediv_of_nonneg hN0]
  have ha' := i64_iff.1 ha; have hw' := i64_iff.1 hw
  clear ha hw
  unfold rgE at he ⊢
  by_cases c1 : words < 1
  · rw [if_pos c1]
    have d1 : decide (words < 1) = true := by simp; omega
    clear he
    go_enter Tryz.func25, Tryz.ntmps25
    go_wp2_with fail
    refine bodyPost_ret (v := .tuple #[.agg #[.pointer none, .int .i64 0, .int .i64 0], .int .i64 1]) ?_ rfl ⟨rfl, B1 w _⟩
    simp [results, Tryz.f25, go_sem]
  · rw [if_neg c1] at he ⊢
    have c2 : at_ < 0 ∨ N / 8 - at_ < words := by
      by_cases c : at_ < 0 ∨ N / 8 - at_ < words
      · exact c
      · rw [if_neg c] at he; omega
    rw [if_pos c2]
    clear he
    have d1 : decide (words < 1) = false := by simp; omega
    by_cases c3 : at_ < 0
    · have d2 : decide (at_ < 0) = true := by simp; omega
      go_enter Tryz.func25, Tryz.ntmps25
      go_wp2_with fail
      refine bodyPost_ret (v := .tuple #[.agg #[.pointer none, .int .i64 0, .int .i64 0], .int .i64 30]) ?_ rfl ⟨rfl, B1 w _⟩
      simp [results, Tryz.f25, go_sem]
    · have c4 : N / 8 - at_ < words := by omega
      have d2 : decide (at_ < 0) = false := by simp; omega
      have q2 : IntKind.i64.wrap (N / 8 - at_) = N / 8 - at_ := by rw [IntKind.wrap_i64]; omega
      have d3 : decide (N / 8 - at_ < words) = true := by simp; omega
      clear c2
      go_enter Tryz.func25, Tryz.ntmps25
      go_wp2_with fail
      refine (HL.out _).mono ?_
      rintro e w1 ⟨rfl, rfl⟩
      go_wp2_with fail
      refine bodyPost_ret (v := .tuple #[.agg #[.pointer none, .int .i64 0, .int .i64 0], .int .i64 30]) ?_ rfl ⟨rfl, B1 w _⟩
      simp [results, Tryz.f25, go_sem]
end

/-! ### Steps: makers, and what they do -/
section
variable {w : World}
theorem write_make (d : Nat) (x y at_ : Int) (A : Option Addr) (n c : Nat) :
    Calls Tryz.prog 70 #[.agg (regC d x y), .int .i64 at_, .slice A n c] w fun e w' => e = .returned (.func (.func 85) #[] #[.pointer (some ⟨w.heap.size, 0, none⟩), .pointer (some ⟨w.heap.size + 1, 0, none⟩), .pointer (some ⟨w.heap.size + 2, 0, none⟩)]) ∧
      w' = ((w.alloc (.cells (regC d x y) 73)).alloc (.cells #[.int .i64 at_] 3)).alloc (.cells #[.slice A n c] 22) := by
  unfold regC
  go_enter Tryz.func70, Tryz.ntmps70
  go_wp2
  go_ret
  exact ⟨rfl, rfl⟩
theorem flush_make (d : Nat) (x y at_ m : Int) :
    Calls Tryz.prog 71 #[.agg (regC d x y), .int .i64 at_, .int .i64 m] w fun e w' => e = .returned (.func (.func 86) #[] #[.pointer (some ⟨w.heap.size, 0, none⟩), .pointer (some ⟨w.heap.size + 1, 0, none⟩), .pointer (some ⟨w.heap.size + 2, 0, none⟩)]) ∧
      w' = ((w.alloc (.cells (regC d x y) 73)).alloc (.cells #[.int .i64 at_] 3)).alloc (.cells #[.int .i64 m] 3) := by
  unfold regC
  go_enter Tryz.func71, Tryz.ntmps71
  go_wp2
  go_ret
  exact ⟨rfl, rfl⟩
theorem setsOf_make (A : Option Addr) (n c : Nat) :
    Calls Tryz.prog 57 #[.slice A n c] w fun e w' => e = .returned (.func (.func 77) #[] #[.pointer (some ⟨w.heap.size, 0, none⟩)]) ∧ w' = w.alloc (.cells #[.slice A n c] 22) := by
  go_enter Tryz.func57, Tryz.ntmps57
  go_wp2
  go_ret
  exact ⟨rfl, rfl⟩
theorem values_make (A : Option Addr) (n c : Nat) :
    Calls Tryz.prog 31 #[.slice A n c] w fun e w' => e = .returned (.func (.func 65) #[] #[.pointer (some ⟨w.heap.size, 0, none⟩)]) ∧ w' = w.alloc (.cells #[.slice A n c] 46) := by
  go_enter Tryz.func31, Tryz.ntmps31
  go_wp2
  go_ret
  exact ⟨rfl, rfl⟩
theorem chunk_make (A : Option Addr) (n c : Nat) (m : Int) (hm : 1 ≤ m) :
    Calls Tryz.prog 69 #[.slice A n c, .int .i64 m] w fun e w' => e = .returned (.func (.func 84) #[] #[.pointer (some ⟨w.heap.size, 0, none⟩), .pointer (some ⟨w.heap.size + 1, 0, none⟩)]) ∧ w' = (w.alloc (.cells #[.slice A n c] 22)).alloc (.cells #[.int .i64 m] 3) := by
  have d1 : decide (m < 1) = false := by simp; omega
  go_enter Tryz.func69, Tryz.ntmps69
  go_wp2
  go_ret
  exact ⟨rfl, rfl⟩
end

/-- What a step does: a word is written; words are flushed; a fence. -/
inductive Stp where
  | wr (at_ : Int) (l : List UInt8)
  | fl (at_ n : Int)
  | fe

/-- v is the value of a step; all that it has captured lies from lo on. -/
def StepV (w : World) (lo d : Nat) (v : Value) : Stp → Prop
  | .wr at_ l => ∃ r a b q off c x y, v = .func (.func 85) #[] #[.pointer (some ⟨r, 0, none⟩), .pointer (some ⟨a, 0, none⟩), .pointer (some ⟨b, 0, none⟩)] ∧ lo ≤ r ∧ lo ≤ a ∧ lo ≤ b ∧ lo ≤ q ∧
      w.heap[r]? = some (.cells (regC d x y) 73 (0, 0)) ∧ w.heap[a]? = some (.cells #[.int .i64 at_] 3 (0, 0)) ∧ w.heap[b]? = some (.cells #[.slice (some ⟨q, off, none⟩) 8 c] 22 (0, 0)) ∧
      l.length = 8 ∧ 8 ≤ c ∧ c ≤ maxLen ∧ ∃ cs, w.heap[q]? = some (.cells cs 5 (0, 0)) ∧ ∀ i (h : i < l.length), cs[off + i]? = some (bv l[i])
  | .fl at_ n => ∃ r a b x y, v = .func (.func 86) #[] #[.pointer (some ⟨r, 0, none⟩), .pointer (some ⟨a, 0, none⟩), .pointer (some ⟨b, 0, none⟩)] ∧ lo ≤ r ∧ lo ≤ a ∧ lo ≤ b ∧
      w.heap[r]? = some (.cells (regC d x y) 73 (0, 0)) ∧ w.heap[a]? = some (.cells #[.int .i64 at_] 3 (0, 0)) ∧ w.heap[b]? = some (.cells #[.int .i64 n] 3 (0, 0))
  | .fe => v = .func (.func 53) #[.pointer (some ⟨d, 0, none⟩)] #[]

/-- The blocks of which steps speak lie as they lay. -/
def KeepT (lo : Nat) (w w' : World) : Prop :=
  ∀ k cs t, w.heap[k]? = some (.cells cs t (0, 0)) → lo ≤ k → t = 73 ∨ t = 3 ∨ t = 22 ∨ t = 5 → w'.heap[k]? = some (.cells cs t (0, 0))
theorem StepV.keep {w w' : World} {lo d : Nat} {v : Value} {s : Stp} (h : StepV w lo d v s) (hk : KeepT lo w w') : StepV w' lo d v s := by
  cases s with
  | wr at_ l =>
    obtain ⟨r, a, b, q, off, c, x, y, hv, h1, h2, h3, h4, h5, h6, h7, h8, h9, h9', cs, h10, h11⟩ := h
    exact ⟨r, a, b, q, off, c, x, y, hv, h1, h2, h3, h4, hk _ _ _ h5 h1 (by simp), hk _ _ _ h6 h2 (by simp), hk _ _ _ h7 h3 (by simp), h8, h9, h9', cs, hk _ _ _ h10 h4 (by simp), h11⟩
  | fl at_ n =>
    obtain ⟨r, a, b, x, y, hv, h1, h2, h3, h5, h6, h7⟩ := h
    exact ⟨r, a, b, x, y, hv, h1, h2, h3, hk _ _ _ h5 h1 (by simp), hk _ _ _ h6 h2 (by simp), hk _ _ _ h7 h3 (by simp)⟩
  | fe => exact h
theorem KeepT.below {lo : Nat} {w w' : World} (h : Below w.heap.size w w') : KeepT lo w w' := fun k cs t hk _ _ => (h.block k (row_lt hk)).trans hk
theorem KeepT.trans {lo : Nat} {a b c : World} (h : KeepT lo a b) (k : KeepT lo b c) : KeepT lo a c := fun i cs t hi hl ht => k i cs t (h i cs t hi hl ht) hl ht
theorem KeepT.refl (lo : Nat) (w : World) : KeepT lo w w := fun _ _ _ h _ _ => h
theorem KeepT.fr {lo g lb fb : Nat} {w w' : World} (h : Fr g lb fb w w') (h1 : g < lo) (h2 : lb < lo) (h3 : fb < lo) : KeepT lo w w' :=
  fun k cs t hk hl _ => (h.block k (row_lt hk) (by omega) (by omega) (by omega)).trans hk

/-- A device's state. -/
structure DS where
  S : List UInt8
  L : Int → Option (List UInt8)
  F : Int → Bool
def DevS (w : World) (B d g cap lb fb : Nat) (D : DS) : Prop := Dev w B d g cap lb fb D.S D.L D.F
def Stp.on (D : DS) : Stp → DS
  | .wr at_ l => ⟨setL D.S (at_ * 8).toNat l, wrL D.S D.L at_ (at_ + 1), wrF D.F at_ (at_ + 1)⟩
  | .fl at_ n => ⟨D.S, D.L, flF D.F D.L at_ (at_ + n)⟩
  | .fe => ⟨D.S, feL D.L D.F, fun _ => false⟩
/-- A step that may be on a device of n bytes. -/
def Stp.ok (n : Nat) : Stp → Prop
  | .wr at_ l => 0 ≤ at_ ∧ at_ * 8 + 8 ≤ n ∧ l.length = 8
  | .fl at_ m => 0 ≤ at_ ∧ 1 ≤ m ∧ at_ * 8 + m * 8 ≤ n
  | .fe => True
theorem Stp.on_length {D : DS} {s : Stp} (h : s.ok D.S.length) : (s.on D).S.length = D.S.length := by
  cases s with
  | wr at_ l => obtain ⟨h1, h2, h3⟩ := h; exact setL_length _ _ _ (by omega)
  | fl at_ n => rfl
  | fe => rfl

section
variable {w : World} {B d g cap lb fb lo : Nat} {D : DS}
theorem wr_do {r a b q off c : Nat} {x y at_ : Int} {l : List UInt8} (hd : DevS w B d g cap lb fb D) (hok : (Stp.wr at_ l).ok D.S.length)
    (h5 : w.heap[r]? = some (.cells (regC d x y) 73 (0, 0))) (h6 : w.heap[a]? = some (.cells #[.int .i64 at_] 3 (0, 0))) (h7 : w.heap[b]? = some (.cells #[.slice (some ⟨q, off, none⟩) 8 c] 22 (0, 0)))
    (h9 : 8 ≤ c) (h9' : c ≤ maxLen) {cs : Array Value} (h10 : w.heap[q]? = some (.cells cs 5 (0, 0))) (h11 : ∀ i (h : i < l.length), cs[off + i]? = some (bv l[i])) :
    Calls Tryz.prog 85 #[.pointer (some ⟨r, 0, none⟩), .pointer (some ⟨a, 0, none⟩), .pointer (some ⟨b, 0, none⟩)] w fun e w' => e = .returned (.tuple #[]) ∧ DevS w' B d g cap lb fb ((Stp.wr at_ l).on D) ∧ Fr g lb fb w w' := by
  obtain ⟨o1, o2, o3⟩ := hok
  have hlen := hd.len.2
  have hrd : Rd w w.heap.size (some ⟨q, off, none⟩) 8 c l := ⟨o3, h9, h9', (fun h => by cases h), fun _ => ⟨q, off, rfl, row_lt h10, fun i hi => by rw [row_cell h10]; exact h11 i hi⟩⟩
  have c1 : w.cell? ⟨r, 0, none⟩ = some (.pointer (some ⟨d, 0, none⟩)) := by rw [row_cell h5]; rfl
  have c2 : w.cell? ⟨a, 0, none⟩ = some (.int .i64 at_) := by rw [row_cell h6]; rfl
  have c3 : w.cell? ⟨b, 0, none⟩ = some (.slice (some ⟨q, off, none⟩) 8 c) := by rw [row_cell h7]; rfl
  have q1 : IntKind.i64.wrap (at_ * 8) = at_ * 8 := by rw [IntKind.wrap_i64]; omega
  have sp : spA (at_ * 8) (8 : Nat) = at_ ∧ spB (at_ * 8) (8 : Nat) = at_ + 1 := by unfold spA spB; constructor <;> (rw [if_neg (by omega)]; omega)
  have HW := hid (write_ok hd (at_ * 8) (i64_iff.2 (by omega)) hrd (by unfold hE; rw [if_neg (by omega), if_neg (by omega)]))
  rw [sp.1, sp.2] at HW
  clear hd hrd o1 o2 hlen h5 h6 h7 h10 h11 sp
  go_enter Tryz.func85, Tryz.ntmps85
  go_wp2_with fail
  refine HW.out.mono ?_
  rintro e w1 ⟨rfl, hd1, hf1⟩
  have HD := hid hd1; clear hd1
  go_wp2_with fail
  go_end0
  exact ⟨rfl, HD.out, hf1⟩
theorem fl_do {r a b : Nat} {x y at_ m : Int} (hd : DevS w B d g cap lb fb D) (hok : (Stp.fl at_ m).ok D.S.length)
    (h5 : w.heap[r]? = some (.cells (regC d x y) 73 (0, 0))) (h6 : w.heap[a]? = some (.cells #[.int .i64 at_] 3 (0, 0))) (h7 : w.heap[b]? = some (.cells #[.int .i64 m] 3 (0, 0))) :
    Calls Tryz.prog 86 #[.pointer (some ⟨r, 0, none⟩), .pointer (some ⟨a, 0, none⟩), .pointer (some ⟨b, 0, none⟩)] w fun e w' => e = .returned (.tuple #[]) ∧ DevS w' B d g cap lb fb ((Stp.fl at_ m).on D) ∧ Fr g lb fb w w' := by
  obtain ⟨o1, o2, o3⟩ := hok
  have hlen := hd.len.2
  have c1 : w.cell? ⟨r, 0, none⟩ = some (.pointer (some ⟨d, 0, none⟩)) := by rw [row_cell h5]; rfl
  have c2 : w.cell? ⟨a, 0, none⟩ = some (.int .i64 at_) := by rw [row_cell h6]; rfl
  have c3 : w.cell? ⟨b, 0, none⟩ = some (.int .i64 m) := by rw [row_cell h7]; rfl
  have q1 : IntKind.i64.wrap (at_ * 8) = at_ * 8 := by rw [IntKind.wrap_i64]; omega
  have q2 : IntKind.i64.wrap (m * 8) = m * 8 := by rw [IntKind.wrap_i64]; omega
  have sp : spA (at_ * 8) (m * 8) = at_ ∧ spB (at_ * 8) (m * 8) = at_ + m := by unfold spA spB; constructor <;> (rw [if_neg (by omega)]; omega)
  have HW := hid (flush_ok hd (at_ * 8) (m * 8) (i64_iff.2 (by omega)) (i64_iff.2 (by omega)) (by unfold hE; rw [if_neg (by omega), if_neg (by omega)]))
  rw [sp.1, sp.2] at HW
  clear hd o1 o2 o3 hlen h5 h6 h7 sp
  go_enter Tryz.func86, Tryz.ntmps86
  go_wp2_with fail
  refine HW.out.mono ?_
  rintro e w1 ⟨rfl, hd1, hf1⟩
  have HD := hid hd1; clear hd1
  go_wp2_with fail
  go_end0
  exact ⟨rfl, HD.out, hf1⟩
end
end Go.Proofs.YteggkojlpgkhbaaGreat
