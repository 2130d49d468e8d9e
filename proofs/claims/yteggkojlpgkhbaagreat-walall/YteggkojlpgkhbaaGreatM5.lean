/-
  Contracts of the functions of word that take numbers alone: widths, Sign, Fits.
  Contracts of crc: shift, the register's closure, register, More, Sum.
  The contract of word.lay: the lowest bytes of a number over those of a row.
  Contracts of the functions of word that work on bytes: holds, Put, Set, Pad; and of bytes.Clone.
  The contract of word.Get.
-/
import Derived.Test.YteggkojlpgkhbaaGreatChecked
import Derived.Test.YteggkojlpgkhbaaGreatM1
import Derived.WalkKit
import Derived.WalkSpells
import Derived.WalkLawsBesides
import Derived.Below
import Derived.Test.YteggkojlpgkhbaaGreatM4
import Derived.Laws.BitsAllLaws

namespace Go.Proofs.YteggkojlpgkhbaaGreat
open Go.RowKit
set_option linter.unusedVariables false

set_option maxHeartbeats 400000 in
theorem isWidth_any (x : Int) (b : Nat) (w : World) (h0 : w.cell? ⟨b, 0, none⟩ = some (.int .i64 1)) (h1 : w.cell? ⟨b, 1, none⟩ = some (.int .i64 2)) (h2 : w.cell? ⟨b, 2, none⟩ = some (.int .i64 4)) (h3 : w.cell? ⟨b, 3, none⟩ = some (.int .i64 8)) :
    Calls Tryz.prog 97 #[.int .i64 x, .pointer (some ⟨b, 0, none⟩)] w fun e w' => e = .returned (.bool (isW x)) ∧ w = w' := by
  have i0 : ∀ w, (Instr.index 162 (.agg #[.int .i64 1, .int .i64 2, .int .i64 4, .int .i64 8]) (.int .i64 0)).run Tryz.prog w = .ok (.int .i64 1) w := fun _ => by kernel_rfl
  have i1 : ∀ w, (Instr.index 162 (.agg #[.int .i64 1, .int .i64 2, .int .i64 4, .int .i64 8]) (.int .i64 1)).run Tryz.prog w = .ok (.int .i64 2) w := fun _ => by kernel_rfl
  have i2 : ∀ w, (Instr.index 162 (.agg #[.int .i64 1, .int .i64 2, .int .i64 4, .int .i64 8]) (.int .i64 2)).run Tryz.prog w = .ok (.int .i64 4) w := fun _ => by kernel_rfl
  have i3 : ∀ w, (Instr.index 162 (.agg #[.int .i64 1, .int .i64 2, .int .i64 4, .int .i64 8]) (.int .i64 3)).run Tryz.prog w = .ok (.int .i64 8) w := fun _ => by kernel_rfl
  go_enter Tryz.func97, Tryz.ntmps97
  go_wp2
  go_loop [7] (fun i => ∃ k : Nat, k ≤ 4 ∧ i = .int .i64 k ∧ (1 ≤ k → x ≠ 1) ∧ (2 ≤ k → x ≠ 2) ∧ (3 ≤ k → x ≠ 4) ∧ (4 ≤ k → x ≠ 8)) (fun i => 4 - (intOf i).toNat)
  case atStart => exact ⟨0, by omega, rfl, by omega, by omega, by omega, by omega⟩
  case round =>
    obtain ⟨k, hk, rfl, a1, a2, a3, a4⟩ := hrel
    have hk' : k = 0 ∨ k = 1 ∨ k = 2 ∨ k = 3 ∨ k = 4 := by omega
    rcases hk' with rfl | rfl | rfl | rfl | rfl
    · by_cases hx : x = 1
      · subst hx; go_wp2; go_ret; exact ⟨rfl, rfl⟩
      · have hb : (x == 1) = false := by simpa using hx
        go_wp2; go_round
        case rel => exact ⟨1, by omega, rfl, by omega, by omega, by omega, by omega⟩
        case measure => simp [intOf]
    · by_cases hx : x = 2
      · subst hx; go_wp2; go_ret; exact ⟨rfl, rfl⟩
      · have hb : (x == 2) = false := by simpa using hx
        go_wp2; go_round
        case rel => exact ⟨2, by omega, rfl, by omega, by omega, by omega, by omega⟩
        case measure => simp [intOf]
    · by_cases hx : x = 4
      · subst hx; go_wp2; go_ret; exact ⟨rfl, rfl⟩
      · have hb : (x == 4) = false := by simpa using hx
        go_wp2; go_round
        case rel => exact ⟨3, by omega, rfl, by omega, by omega, by omega, by omega⟩
        case measure => simp [intOf]
    · by_cases hx : x = 8
      · subst hx; go_wp2; go_ret; exact ⟨rfl, rfl⟩
      · have hb : (x == 8) = false := by simpa using hx
        go_wp2; go_round
        case rel => exact ⟨4, by omega, rfl, by omega, by omega, by omega, by omega⟩
        case measure => simp [intOf]
    · have hw : isW x = false := by simp [isW]; omega
      go_wp2; go_ret; exact ⟨rfl, rfl⟩

set_option maxHeartbeats 400000 in
theorem widths_any (w : World) :
    Calls Tryz.prog 90 #[] w fun e w' => e = .returned (.func (.func 97) #[] #[.pointer (some ⟨w.heap.size, 0, none⟩)]) ∧ w' = w.alloc (.cells #[.int .i64 1, .int .i64 2, .int .i64 4, .int .i64 8] 162) := by
  go_enter Tryz.func90, Tryz.ntmps90
  go_wp2
  go_ret
  exact ⟨rfl, rfl⟩

theorem ret_int {k : IntKind} {a b : Int} (h : a = b) : Ending.returned (.int k a) = .returned (.int k b) := by rw [h]
theorem ret_bool {a b : Bool} (h : a = b) : Ending.returned (.bool a) = .returned (.bool b) := by rw [h]

set_option maxHeartbeats 1000000 in
theorem sign_any (n x : Int) (w : World) (hn : U64 n) :
    Calls Tryz.prog 91 #[.int .u64 n, .int .i64 x] w fun e w' => e = .returned (.int .u64 (sgn n x)) ∧ Below w.heap.size w w' := by
  have h0 := hn.1
  by_cases hx : isW x = true
  · rcases isW_cases hx with rfl | rfl | rfl | rfl
    all_goals
      go_enter Tryz.func91, Tryz.ntmps91
      go_wp2_with fail
      refine (widths_any _).mono ?_
      rintro e w1 ⟨rfl, rfl⟩
      go_wp2_with fail
      refine (isWidth_any _ _ _ (by simp) (by simp) (by simp) (by simp)).mono ?_
      rintro e w1 ⟨rfl, rfl⟩
      go_wp2_with fail
      go_ret
    · exact ⟨ret_int (sgn1 n hn), B1 _ _⟩
    · exact ⟨ret_int (sgn2 n hn), B1 _ _⟩
    · exact ⟨ret_int (sgn4 n hn), B1 _ _⟩
    · exact ⟨ret_int (sgn8' n hn), B1 _ _⟩
  · have hx' : isW x = false := by simpa using hx
    go_enter Tryz.func91, Tryz.ntmps91
    go_wp2_with fail
    refine (widths_any _).mono ?_
    rintro e w1 ⟨rfl, rfl⟩
    go_wp2_with fail
    refine (isWidth_any _ _ _ (by simp) (by simp) (by simp) (by simp)).mono ?_
    rintro e w1 ⟨rfl, rfl⟩
    go_wp2_with fail
    go_ret
    exact ⟨ret_int (by simp [sgn, hx']), B1 _ _⟩

set_option maxHeartbeats 1000000 in
theorem fits_any (n x : Int) (sg : Bool) (w : World) (hn : U64 n) :
    Calls Tryz.prog 81 #[.int .u64 n, .int .i64 x, .bool sg] w fun e w' => e = .returned (.bool (fits n x sg)) ∧ Below w.heap.size w w' := by
  have h0 := hn.1
  by_cases hx : isW x = true
  · cases sg
    · rcases isW_cases hx with rfl | rfl | rfl | rfl
      all_goals
        go_enter Tryz.func81, Tryz.ntmps81
        go_wp2_with fail
        refine (widths_any _).mono ?_
        rintro e w1 ⟨rfl, rfl⟩
        go_wp2_with fail
        refine (isWidth_any _ _ _ (by simp) (by simp) (by simp) (by simp)).mono ?_
        rintro e w1 ⟨rfl, rfl⟩
        go_wp2_with fail
        go_ret
      · exact ⟨ret_bool (fit1 n hn), B1 _ _⟩
      · exact ⟨ret_bool (fit2 n hn), B1 _ _⟩
      · exact ⟨ret_bool (fit4 n hn), B1 _ _⟩
      · exact ⟨ret_bool (fit8 n hn), B1 _ _⟩
    · go_enter Tryz.func81, Tryz.ntmps81
      go_wp2_with fail
      refine (widths_any _).mono ?_
      rintro e w1 ⟨rfl, rfl⟩
      go_wp2_with fail
      refine (isWidth_any _ _ _ (by simp) (by simp) (by simp) (by simp)).mono ?_
      rintro e w1 ⟨rfl, rfl⟩
      go_wp2_with fail
      refine (sign_any n x _ hn).mono ?_
      rintro e w1 ⟨rfl, hb⟩
      go_wp2_with fail
      go_ret
      exact ⟨ret_bool (by simp [fits, hx]), Bt (B1 _ _) hb⟩
  · have hx' : isW x = false := by simpa using hx
    go_enter Tryz.func81, Tryz.ntmps81
    go_wp2_with fail
    refine (widths_any _).mono ?_
    rintro e w1 ⟨rfl, rfl⟩
    go_wp2_with fail
    refine (isWidth_any _ _ _ (by simp) (by simp) (by simp) (by simp)).mono ?_
    rintro e w1 ⟨rfl, rfl⟩
    go_wp2_with fail
    go_ret
    exact ⟨ret_bool (by simp [fits, hx']), B1 _ _⟩
end Go.Proofs.YteggkojlpgkhbaaGreat

namespace Go.Proofs.YteggkojlpgkhbaaGreat
open Go.RowKit
set_option linter.unusedVariables false

set_option maxHeartbeats 400000 in
theorem shift_any (x : BitVec 16) (w : World) :
    Calls Tryz.prog 93 #[.int .u16 x.toNat] w fun e w' => e = .returned (.int .u16 (shB x).toNat) ∧ w = w' := by
  have hx := x.isLt
  by_cases h : 32768 ≤ x.toNat
  · have HH := hid (sh_hi x h)
    have ht : ((x.toNat : Int) / 32768 == 1) = true := by simp; omega
    go_enter Tryz.func93, Tryz.ntmps93
    go_wp2
    go_ret
    exact ⟨ret_int HH.out, rfl⟩
  · have HH := hid (sh_lo x (by omega))
    have ht : ((x.toNat : Int) / 32768 == 1) = false := by simp; omega
    go_enter Tryz.func93, Tryz.ntmps93
    go_wp2
    go_ret
    exact ⟨ret_int (by rw [← HH.out]), rfl⟩

/-- A cell that holds the register. -/
def Rg (w : World) (r : Nat) (x : BitVec 16) : Prop := w.heap[r]? = some (.cells #[.int .u16 x.toNat] 156 (0, 0))
theorem Rg.cell {w : World} {r : Nat} {x : BitVec 16} (h : Rg w r x) : w.cell? ⟨r, 0, none⟩ = some (.int .u16 x.toNat) := by
  rw [row_cell h]; rfl
theorem Rg.frozen {w : World} {r : Nat} {x : BitVec 16} (h : Rg w r x) : w.frozen? ⟨r, 0, none⟩ = false := row_frozen h 0
theorem Rg.set {w : World} {r : Nat} {x : BitVec 16} (h : Rg w r x) (y : BitVec 16) : Rg (w.setCell ⟨r, 0, none⟩ (.int .u16 y.toNat)) r y := by
  unfold Rg; rw [row_set h]; rfl

set_option maxHeartbeats 1000000 in
theorem move_any (A : Option Addr) (n cap r : Nat) (l : List UInt8) (x : BitVec 16) (w : World) (h : Rd w r A n cap l) (hr : Rg w r x) :
    Calls Tryz.prog 92 #[.slice A n cap, .pointer (some ⟨r, 0, none⟩)] w fun e w' => e = .returned (.int .i64 (crcB x l).toNat) ∧ Rg w' r (crcB x l) ∧ Below r w w' := by
  have hn : n ≤ 9223372036854775807 := Nat.le_trans h.2.1 h.2.2.1
  have HL := hid h.1
  have H := hid h; clear h
  have HR := hid hr; clear hr
  go_enter Tryz.func92, Tryz.ntmps92
  go_wp2
  go_loopw [8] (fun i wr => ∃ k : Nat, k ≤ n ∧ i = .int .i64 k ∧ Hid (Rg wr r (crcB x (l.take k))) ∧ Below r w wr) (fun i _ => n - (intOf i).toNat)
  case atStart => exact ⟨0, by omega, rfl, HR.out, Below.refl _ _⟩
  case round =>
    obtain ⟨k, hk, rfl, hg, hb⟩ := hrel
    by_cases hlt : k < n
    · have hl := HL.out
      obtain ⟨b, off, hA, hbr, hc⟩ := H.out.2.2.2.2 (by omega)
      subst hA
      have hcell : wr.cell? ⟨b, off + k, none⟩ = some (.int .u8 (l[k].toNat)) := (hb.cell (p := ⟨b, off + k, none⟩) hbr).trans (hc k (by omega))
      have hcr := hg.out.cell
      have hfr := hg.out.frozen
      have HST : Hid (crcB x (l.take (k + 1)) = stB (crcB x (l.take k)) l[k]) := by
        show _ = _
        rw [List.take_succ_eq_append_getElem (by omega), crcB_snoc]
      obtain ⟨c, hcc⟩ : ∃ c, c = l[k] := ⟨_, rfl⟩
      rw [← hcc] at hcell HST
      obtain ⟨y, hy⟩ : ∃ y, y = crcB x (l.take k) := ⟨_, rfl⟩
      rw [← hy] at hg hcr HST
      have hc0 := c.toNat_lt
      have hy0 := y.isLt
      have HX := hid (xor_by y c)
      have hne : b ≠ r := by omega
      clear hl hc hcc hy
      go_wp2_with fail
      rw [HX.out]
      obtain ⟨q, HQ⟩ : ∃ q, Hid (q = y ^^^ byB c) := ⟨_, rfl⟩
      rw [← HQ.out]
      go_loopw [17] (fun i wq => ∃ j : Nat, j ≤ 8 ∧ i = .int .i64 j ∧ Hid (Rg wq r (shN j q)) ∧ Below r w wq) (fun i _ => 8 - (intOf i).toNat)
      case atStart => exact ⟨0, by omega, rfl, hg.out.set _, hb.setCell (Nat.le_refl _) _⟩
      case round =>
        obtain ⟨j, hj, rfl, hq, hbq⟩ := hrel
        by_cases hj8 : j < 8
        · have hcq := hq.out.cell
          have hfq := hq.out.frozen
          have HN : Hid (shN (j + 1) q = shB (shN j q)) := rfl
          obtain ⟨z, hz⟩ : ∃ z, z = shN j q := ⟨_, rfl⟩
          rw [← hz] at hcq hq HN
          have hz0 := z.isLt
          clear hz hcr hfr
          have hj8' : (j : Int) < 8 := by omega
          go_wp2_with fail
          refine (shift_any z _).mono ?_
          rintro e w' ⟨rfl, rfl⟩
          go_wp2_with fail
          refine ⟨⟨j + 1, by omega, by go_num, ?_, hbq.setCell (Nat.le_refl _) _⟩, by simp [intOf]; omega⟩
          rw [HN.out]; exact hq.out.set _
        · obtain rfl : j = 8 := by omega
          clear hcr hfr
          go_wp2_with fail
          refine ⟨⟨k + 1, by omega, by go_num, ?_, hbq⟩, by simp [intOf]; omega⟩
          rw [HST.out]
          show Hid (Rg _ r (shN 8 (y ^^^ byB c)))
          rw [← HQ.out]; exact hq.out
    · have hcr := hg.out.cell
      obtain rfl : k = n := by omega
      have HT : Hid (l.take k = l) := List.take_of_length_le (by have := HL.out; omega)
      rw [HT.out] at hg hcr
      have hx0 := (crcB x l).isLt
      go_wp2_with fail
      go_ret
      exact ⟨rfl, hg.out, hb⟩

set_option maxHeartbeats 400000 in
theorem register_any (n : Int) (w : World) :
    Calls Tryz.prog 83 #[.int .i64 n] w fun e w' => e = .returned (.func (.func 92) #[] #[.pointer (some ⟨w.heap.size, 0, none⟩)]) ∧ w' = w.alloc (.cells #[.int .u16 (lowB n).toNat] 156) := by
  have H := hid (lowB_wrap n)
  go_enter Tryz.func83, Tryz.ntmps83
  go_wp2
  go_ret
  rw [H.out]
  exact ⟨rfl, rfl⟩
theorem rg_new (w : World) (x : BitVec 16) : Rg (w.alloc (.cells #[.int .u16 x.toNat] 156)) w.heap.size x := heap_alloc_new w _

end Go.Proofs.YteggkojlpgkhbaaGreat

namespace Go.Proofs.YteggkojlpgkhbaaGreat
open Go.RowKit
set_option linter.unusedVariables false

set_option maxHeartbeats 400000 in
theorem lay_any (g off n cap x : Nat) (nn : Int) (cs : Array Value) (w : World) (hn : U64 nn) (hg : w.heap[g]? = some (.cells cs 5 (0, 0))) (hx : x ≤ n) (hx8 : x ≤ 8) (hoff : off + n ≤ cs.size) (hnc : n ≤ cap) :
    Calls Tryz.prog 82 #[.slice (some ⟨g, off, none⟩) n cap, .int .i64 x, .int .u64 nn] w fun e w' => e = .returned (.tuple #[]) ∧ w'.heap[g]? = some (.cells (splice cs.toList off ((le nn x).map bv)).toArray 5 (0, 0)) ∧ w.grownBy w' (some g) ∧ w'.heap.size = w.heap.size := by
  have h0 := hn.1
  go_enter Tryz.func82, Tryz.ntmps82
  go_wp2
  go_loopw [8] (fun i wr => ∃ k : Nat, k ≤ x ∧ i = .int .i64 k ∧ Hid (wr.heap[g]? = some (.cells (splice cs.toList off ((le nn k).map bv)).toArray 5 (0, 0))) ∧ w.grownBy wr (some g) ∧ Hid (wr.heap.size = w.heap.size)) (fun i _ => x - (intOf i).toNat)
  case atStart => exact ⟨0, by omega, rfl, show _ = _ by simpa [splice, le] using hg, grown_refl _ _, rfl⟩
  case round =>
    obtain ⟨k, hk, rfl, hr, hgr, hsz⟩ := hrel
    by_cases hlt : k < x
    · have hfz := row_frozen hr.out (off + k)
      have hlen : (splice cs.toList off ((le nn k).map bv)).length = cs.size := by rw [length_splice _ _ _ (by simp [le_length]; omega)]; simp
      have hc : ∃ v, wr.cell? ⟨g, off + k, none⟩ = some v := by
        rw [row_cell hr.out]
        exact ⟨_, Array.getElem?_eq_getElem (by rw [List.size_toArray, hlen]; omega)⟩
      obtain ⟨v, hc⟩ := hc
      have HS := hid hlen; clear hlen
      go_wp2
      refine ⟨⟨k + 1, by omega, by go_num, ?_, grown_set hgr _ _, (size_set _ _ _).trans hsz.out⟩, by simp [intOf]; omega⟩
      show _ = _
      rw [row_set hr.out, splice_snoc _ _ _ _ _ (by simp [le_length]) (by simp; omega)]
      simp [le, bv_byteAt, two_pw]
    · go_wp2
      obtain rfl : k = x := by omega
      go_end0
      exact ⟨rfl, hr.out, hgr, hsz.out⟩
end Go.Proofs.YteggkojlpgkhbaaGreat

namespace Go.Proofs.YteggkojlpgkhbaaGreat
open Go.RowKit
set_option linter.unusedVariables false

/-- Whether a number of that width stands in so many bytes from at on. -/
def holdsB (len : Nat) (at_ x : Int) : Bool := isW x && decide (0 ≤ at_) && decide (at_ ≤ (len : Int) - x)

set_option maxHeartbeats 1000000 in
theorem holds_any (A : Option Addr) (n cap : Nat) (at_ x : Int) (w : World) (hm : n ≤ maxLen) :
    Calls Tryz.prog 78 #[.slice A n cap, .int .i64 at_, .int .i64 x] w fun e w' => e = .returned (.bool (holdsB n at_ x)) ∧ Below w.heap.size w w' := by
  unfold maxLen at hm
  by_cases hx : isW x = true
  · have hx8 : 1 ≤ x ∧ x ≤ 8 := by rcases isW_cases hx with rfl | rfl | rfl | rfl <;> omega
    obtain ⟨h1, h8⟩ := hx8
    by_cases ha : 0 ≤ at_
    all_goals
      go_enter Tryz.func78, Tryz.ntmps78
      go_wp2_with fail
      refine (widths_any _).mono ?_
      rintro e w1 ⟨rfl, rfl⟩
      go_wp2_with fail
      refine (isWidth_any _ _ _ (by simp) (by simp) (by simp) (by simp)).mono ?_
      rintro e w1 ⟨rfl, rfl⟩
      go_wp2_with fail
      go_ret
    · exact ⟨ret_bool (by simp [holdsB, hx, ha]), B1 _ _⟩
    · exact ⟨ret_bool (by simp [holdsB, hx]; omega), B1 _ _⟩
  · have hx' : isW x = false := by simpa using hx
    go_enter Tryz.func78, Tryz.ntmps78
    go_wp2_with fail
    refine (widths_any _).mono ?_
    rintro e w1 ⟨rfl, rfl⟩
    go_wp2_with fail
    refine (isWidth_any _ _ _ (by simp) (by simp) (by simp) (by simp)).mono ?_
    rintro e w1 ⟨rfl, rfl⟩
    go_wp2_with fail
    go_ret
    exact ⟨ret_bool (by simp [holdsB, hx']), B1 _ _⟩

/-- Bytes, and as many bytes 0 behind as it takes to whole words. -/
def padL (l : List UInt8) : List UInt8 := l ++ List.replicate ((l.length + 7) / 8 * 8 - l.length) 0
theorem padL_length (l : List UInt8) : (padL l).length = (l.length + 7) / 8 * 8 := by simp [padL]; omega

set_option maxHeartbeats 1000000 in
theorem clone_any (A : Option Addr) (n cap : Nat) (l : List UInt8) (w : World) (h : Rd w w.heap.size A n cap l) (hm : n ≤ 1000000) :
    Calls Tryz.prog 50 #[.slice A n cap] w fun e w' => ∃ v, e = .returned v ∧ Own w' w.heap.size v l ∧ Below w.heap.size w w' := by
  have hq := fun W => Lib.run_eql_slice_nil (P := Tryz.prog) W 22 5 A n cap 0 0 Tryz.underlying22
  rcases A with _ | ad
  · have h0 := h.2.2.2.1 rfl
    have hn0 : n = 0 := by have := h.2.1; omega
    subst h0; subst hn0
    have hl : l = [] := List.eq_nil_of_length_eq_zero h.1
    subst hl
    clear hq h
    have hq := fun W => Lib.run_eql_slice_nil (P := Tryz.prog) W 22 5 none 0 0 0 0 Tryz.underlying22
    go_enter Tryz.func50, Tryz.ntmps50
    go_wp2_with fail
    go_ret
    exact ⟨_, rfl, World.ownsRow_nil _ _ _ _, B0 _⟩
  · have H := hid h; clear h
    go_enter Tryz.func50, Tryz.ntmps50
    go_wp2_with (at_builtin; refine wpList_append8 rfl (.tmp 5) (.tmp 6) rfl rfl (own_new w [] 0 rfl (by unfold maxLen; omega)) rfl (H.out.on (B1 _ _)) (by simp) (by simp; omega) ?_; intro v' w' how hgr hnil)
    go_ret
    refine ⟨_, rfl, by simpa using how, ?_⟩
    have hg : (w.alloc (Obj.cells #[] 5)).grownBy w' (some w.heap.size) := hgr
    exact (B1 w (Obj.cells #[] 5)).grown hg (by simp) (fun k hk => by cases hk; exact Nat.le_refl _)

set_option maxHeartbeats 1000000 in
theorem put_true (A : Option Addr) (n cap : Nat) (l : List UInt8) (x : Nat) (nn : Int) (w : World) (h : Rd w w.heap.size A n cap l) (hm : n ≤ 1000000) (hn : U64 nn) (hf : fits nn x false = true) (hx : x = 1 ∨ x = 2 ∨ x = 4 ∨ x = 8) :
    Calls Tryz.prog 66 #[.slice A n cap, .int .i64 x, .int .u64 nn] w fun e w' => ∃ v, e = .returned (.tuple #[v, .bool true]) ∧ Own w' w.heap.size v (l ++ le nn x) ∧ Below w.heap.size w w' := by
  obtain ⟨m, hm'⟩ : ∃ m : Nat, m = n + x := ⟨_, rfl⟩
  have hnm : n ≤ m := by omega
  have hnm2 : n < m := by omega
  have hmk := fun W => run_make8 m ((n : Int) + x) (by omega) (by omega) W
  have hx8 : x ≤ 8 := by omega
  have HM := hid hm'; clear hm'
  have HL := hid h.1
  have H := hid h; clear h
  go_enter Tryz.func66, Tryz.ntmps66
  go_wp2_with fail
  refine (fits_any nn x false _ hn).mono ?_
  rintro e w1 ⟨rfl, hb1⟩
  have hcp := run_copy_new (H.out.on hb1) m hnm 3
  go_wp2_with fail
  refine (lay_any w1.heap.size n (m - n) (m - n) x nn (lrow l (m - n)).toArray _ hn (heap_alloc_new w1 _) ?_ hx8 ?_ (Nat.le_refl _)).mono ?_
  · have := HM.out; omega
  · have := HL.out; simp [lrow_length]; omega
  rintro e w2 ⟨rfl, hg, hgr, hsz⟩
  have HG := hid hg; clear hg
  have HS := hid hsz; clear hsz
  have HR := hid hgr; clear hgr
  go_wp2_with fail
  go_ret2
  refine ⟨_, rfl, ?_, ?_⟩
  · have h1 := HM.out; have h2 := HL.out
    have h3 := HG.out
    have e1 : m - n = (le nn x).length := by rw [le_length]; omega
    rw [e1, ← h2, splice_lrow] at h3
    exact own_row h3 hb1.size (by simp [le_length]; omega) (by unfold maxLen; omega)
  · exact (Ba hb1 _).grown HR.out (by simp; have := hb1.size; omega) (fun k hk => by cases hk; exact hb1.size)

set_option maxHeartbeats 1000000 in
theorem put_false (A : Option Addr) (n cap : Nat) (l : List UInt8) (x nn : Int) (w : World) (h : Rd w w.heap.size A n cap l) (hm : n ≤ 1000000) (hn : U64 nn) (hf : fits nn x false = false) :
    Calls Tryz.prog 66 #[.slice A n cap, .int .i64 x, .int .u64 nn] w fun e w' => ∃ v, e = .returned (.tuple #[v, .bool false]) ∧ Own w' w.heap.size v l ∧ Below w.heap.size w w' := by
  have H := hid h; clear h
  go_enter Tryz.func66, Tryz.ntmps66
  go_wp2_with fail
  refine (fits_any nn x false _ hn).mono ?_
  rintro e w1 ⟨rfl, hb1⟩
  go_wp2_with fail
  refine (clone_any A n cap l _ (H.out.on hb1) hm).mono ?_
  rintro e w2 ⟨v, rfl, ho, hb2⟩
  have HO := hid ho; clear ho
  go_wp2_with fail
  go_ret2
  refine ⟨_, rfl, ?_, Bt hb1 hb2⟩
  obtain ⟨h1, h2⟩ := HO.out
  refine ⟨h1, ?_⟩
  rcases h2 with h3 | ⟨g, c, cur, hv, hbase, h4⟩
  · exact .inl h3
  · exact .inr ⟨g, c, cur, hv, Nat.le_trans hb1.size hbase, h4⟩

/-- What Put answers. -/
def putL (l : List UInt8) (nn x : Int) : List UInt8 := if fits nn x false then l ++ le nn x.toNat else l

theorem fits_w {nn x : Int} {b : Bool} (h : fits nn x b = true) : x = 1 ∨ x = 2 ∨ x = 4 ∨ x = 8 := by
  unfold fits at h
  exact isW_cases (Bool.and_eq_true_iff.1 h).1

theorem put_any (A : Option Addr) (n cap : Nat) (l : List UInt8) (x nn : Int) (w : World) (h : Rd w w.heap.size A n cap l) (hm : n ≤ 1000000) (hn : U64 nn) :
    Calls Tryz.prog 66 #[.slice A n cap, .int .i64 x, .int .u64 nn] w fun e w' => ∃ v, e = .returned (.tuple #[v, .bool (fits nn x false)]) ∧ Own w' w.heap.size v (putL l nn x) ∧ Below w.heap.size w w' := by
  by_cases hf : fits nn x false = true
  · have hx := fits_w hf
    obtain ⟨k, rfl⟩ := Int.eq_ofNat_of_zero_le (show 0 ≤ x by omega)
    refine (put_true A n cap l k nn w h hm hn hf (by omega)).mono ?_
    rintro e w' ⟨v, rfl, h2, h3⟩
    exact ⟨v, by rw [hf], by simpa [putL, hf] using h2, h3⟩
  · have hf' : fits nn x false = false := by simpa using hf
    refine (put_false A n cap l x nn w h hm hn hf').mono ?_
    rintro e w' ⟨v, rfl, h2, h3⟩
    exact ⟨v, by rw [hf'], by simpa [putL, hf'] using h2, h3⟩

/-- What Set answers. -/
def setOk (n : Nat) (at_ x nn : Int) : Bool := holdsB n at_ x && fits nn x false

def setR (l : List UInt8) (at_ x nn : Int) : List UInt8 := if setOk l.length at_ x nn then setL l at_.toNat (le nn x.toNat) else []

end Go.Proofs.YteggkojlpgkhbaaGreat

namespace Go.Proofs.YteggkojlpgkhbaaGreat
open Go.RowKit
set_option linter.unusedVariables false

/-- The number that bytes say, the lowest first. -/
def num : List UInt8 → Int
  | [] => 0
  | c :: r => c.toNat + 256 * num r

theorem num_append (a b : List UInt8) : num (a ++ b) = num a + pw a.length * num b := by
  induction a with
  | nil => simp [num, pw]
  | cons c r ih =>
    simp only [List.cons_append, num, ih, List.length_cons, pw_succ]
    rw [Int.mul_add, ← Int.mul_assoc, Int.mul_comm 256 (pw _)]; omega

theorem num_bounds (a : List UInt8) : 0 ≤ num a ∧ num a < pw a.length := by
  induction a with
  | nil => simp [num, pw]
  | cons c r ih =>
    have h := c.toNat_lt
    simp only [num, List.length_cons, pw_succ]; omega

theorem or_step (a c : Int) (k : Nat) (hk : k < 8) (h0 : 0 ≤ a) (ha : a < pw k) (hc0 : 0 ≤ c) (hc : c < 256) :
    bits .or .u64 a (IntKind.u64.wrap (c * 2 ^ (8 * k))) = a + pw k * c := by
  obtain ⟨a, rfl⟩ := Int.eq_ofNat_of_zero_le h0
  obtain ⟨c, rfl⟩ := Int.eq_ofNat_of_zero_le hc0
  rw [two_pw, IntKind.wrap_u64]
  have hp := pw_pos k
  have hp7 := pw_le7 (k := k) (by omega)
  obtain ⟨q, hq⟩ := Int.eq_ofNat_of_zero_le (show 0 ≤ pw k by omega)
  have hq2 : q = 2 ^ (8 * k) := by
    have := two_pw k; rw [hq] at this; exact_mod_cast this.symm
  rw [hq] at ha hp hp7 ⊢
  have h1 : (c : Int) * q ≤ 255 * q := Int.mul_le_mul_of_nonneg_right (by omega) (by omega)
  have h2 : (c : Int) * q = ((c * q : Nat) : Int) := by simp
  rw [Int.emod_eq_of_lt (by rw [h2]; omega) (by omega), h2, u64_or_nat a (c * q) (by omega) (by omega), Nat.or_comm, nat_join (8 * k) (c * q) a (by rw [hq2]; exact Nat.mul_mod_left _ _) (by omega)]
  rw [Nat.mul_comm c q]; simp; omega

theorem take_step {l : List UInt8} {at_ k : Nat} {c : UInt8} (h : l[at_ + k]? = some c) : (l.drop at_).take (k + 1) = (l.drop at_).take k ++ [c] := by
  rw [List.take_add_one, List.getElem?_drop, h]; rfl

set_option maxHeartbeats 1000000 in
theorem get_true (A : Option Addr) (n cap : Nat) (l : List UInt8) (at_ x : Nat) (w : World) (h : Rd w w.heap.size A n cap l) (hh : holdsB n at_ x = true) (hx : x = 1 ∨ x = 2 ∨ x = 4 ∨ x = 8) (hat : at_ + x ≤ n) :
    Calls Tryz.prog 60 #[.slice A n cap, .int .i64 at_, .int .i64 x] w fun e w' => e = .returned (.tuple #[.int .u64 (num ((l.drop at_).take x)), .bool true]) ∧ Below w.heap.size w w' := by
  have hmax : n ≤ maxLen := Nat.le_trans h.2.1 h.2.2.1
  obtain ⟨b, off, rfl, hlt, hc⟩ := h.2.2.2.2 (by omega)
  have HL := hid h.1
  have HC := hid hc
  clear h hc
  have hmax' : n ≤ 9223372036854775807 := hmax
  go_enter Tryz.func60, Tryz.ntmps60
  go_wp2_with fail
  refine (holds_any _ n cap at_ x _ hmax).mono ?_
  rintro e w1 ⟨rfl, hb1⟩
  go_wp2_with fail
  go_loop [8, 16] (fun s i => ∃ k : Nat, k ≤ x ∧ i = .int .i64 k ∧ s = .int .u64 (num ((l.drop at_).take k))) (fun _ i => x - (intOf i).toNat)
  case atStart => exact ⟨0, by omega, rfl, by simp [num]⟩
  case round =>
    obtain ⟨k, hk, rfl, rfl⟩ := hrel
    by_cases hlt2 : k < x
    · have hi : at_ + k < l.length := by have := HL.out; omega
      have hcell : w1.cell? ⟨b, off + (at_ + k), none⟩ = some (.int .u8 (l[at_ + k].toNat)) := (hb1.cell (p := ⟨b, off + (at_ + k), none⟩) hlt).trans (HC.out (at_ + k) hi)
      have hin : (at_ : Int) + k < n := by omega
      obtain ⟨c, hcc⟩ : ∃ c, l[at_ + k]? = some c := ⟨_, List.getElem?_eq_getElem hi⟩
      have e : l[at_ + k] = c := by rw [List.getElem?_eq_getElem hi] at hcc; exact Option.some.inj hcc
      rw [e] at hcell
      have HCC := hid hcc; clear hcc e hi
      have hc0 : 0 ≤ (c.toNat : Int) := by omega
      have hc1 : (c.toNat : Int) < 256 := by have := c.toNat_lt; omega
      go_wp2
      refine ⟨⟨k + 1, by omega, by go_num, ?_⟩, by simp [intOf]; omega⟩
      have hl := HL.out
      have hlen : ((l.drop at_).take k).length = k := by simp; omega
      have hb := num_bounds ((l.drop at_).take k)
      rw [hlen] at hb
      rw [or_step _ _ k (by omega) hb.1 hb.2 hc0 hc1, take_step HCC.out, num_append, hlen]
      simp [num]
    · go_wp2
      go_ret2
      obtain rfl : k = x := by omega
      exact ⟨rfl, hb1⟩

set_option maxHeartbeats 1000000 in
theorem get_false (A : Option Addr) (n cap : Nat) (at_ x : Int) (w : World) (hmax : n ≤ maxLen) (hh : holdsB n at_ x = false) :
    Calls Tryz.prog 60 #[.slice A n cap, .int .i64 at_, .int .i64 x] w fun e w' => e = .returned (.tuple #[.int .u64 0, .bool false]) ∧ Below w.heap.size w w' := by
  go_enter Tryz.func60, Tryz.ntmps60
  go_wp2_with fail
  refine (holds_any _ n cap at_ x _ hmax).mono ?_
  rintro e w1 ⟨rfl, hb1⟩
  go_wp2_with fail
  go_ret2
  exact ⟨rfl, hb1⟩

/-- What Get answers. -/
def getN (l : List UInt8) (at_ x : Int) : Int := if holdsB l.length at_ x then num ((l.drop at_.toNat).take x.toNat) else 0

theorem get_any (A : Option Addr) (n cap : Nat) (l : List UInt8) (at_ x : Int) (w : World) (h : Rd w w.heap.size A n cap l) :
    Calls Tryz.prog 60 #[.slice A n cap, .int .i64 at_, .int .i64 x] w fun e w' => e = .returned (.tuple #[.int .u64 (getN l at_ x), .bool (holdsB n at_ x)]) ∧ Below w.heap.size w w' := by
  have hl := h.1
  cases hh : holdsB n at_ x with
  | false =>
    refine (get_false A n cap at_ x w (Nat.le_trans h.2.1 h.2.2.1) hh).mono ?_
    rintro e w' ⟨rfl, hb⟩
    exact ⟨by simp [getN, hl, hh], hb⟩
  | true =>
    have hh' := hh
    simp [holdsB] at hh'
    have hx := isW_cases hh'.1.1
    obtain ⟨k, rfl⟩ := Int.eq_ofNat_of_zero_le (show 0 ≤ x by omega)
    obtain ⟨a, rfl⟩ := Int.eq_ofNat_of_zero_le (show 0 ≤ at_ by omega)
    refine (get_true A n cap l a k w h hh (by omega) (by omega)).mono ?_
    rintro e w' ⟨rfl, hb⟩
    exact ⟨by simp [getN, hl, hh], hb⟩
end Go.Proofs.YteggkojlpgkhbaaGreat
