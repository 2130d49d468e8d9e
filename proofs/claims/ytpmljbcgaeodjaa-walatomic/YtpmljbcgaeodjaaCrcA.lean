/-
  Contracts of crc: shift, the register's closure, register, More, Sum.
-/
import Derived.Test.YtpmljbcgaeodjaaKit
import Derived.Test.YtpmljbcgaeodjaaCrcM
import Derived.Test.YtpmljbcgaeodjaaWordA
namespace Go.Proofs.Ytpmljbcgaeodjaa
open Go.RowKit
set_option linter.unusedVariables false

set_option maxHeartbeats 400000 in
theorem shift_any (x : BitVec 16) (w : World) :
    Calls Try.prog 77 #[.int .u16 x.toNat] w fun e w' => e = .returned (.int .u16 (shB x).toNat) ∧ w = w' := by
  have hx := x.isLt
  by_cases h : 32768 ≤ x.toNat
  · have HH := hid (sh_hi x h)
    have ht : ((x.toNat : Int) / 32768 == 1) = true := by simp; omega
    go_enter Try.func77, Try.ntmps77
    go_wp2
    go_ret
    exact ⟨ret_int HH.out, rfl⟩
  · have HH := hid (sh_lo x (by omega))
    have ht : ((x.toNat : Int) / 32768 == 1) = false := by simp; omega
    go_enter Try.func77, Try.ntmps77
    go_wp2
    go_ret
    exact ⟨ret_int (by rw [← HH.out]), rfl⟩

/-- A cell that holds the register. -/
def Rg (w : World) (r : Nat) (x : BitVec 16) : Prop := w.heap[r]? = some (.cells #[.int .u16 x.toNat] 128 (0, 0))
theorem Rg.cell {w : World} {r : Nat} {x : BitVec 16} (h : Rg w r x) : w.cell? ⟨r, 0, none⟩ = some (.int .u16 x.toNat) := by
  rw [row_cell h]; rfl
theorem Rg.frozen {w : World} {r : Nat} {x : BitVec 16} (h : Rg w r x) : w.frozen? ⟨r, 0, none⟩ = false := row_frozen h 0
theorem Rg.set {w : World} {r : Nat} {x : BitVec 16} (h : Rg w r x) (y : BitVec 16) : Rg (w.setCell ⟨r, 0, none⟩ (.int .u16 y.toNat)) r y := by
  unfold Rg; rw [row_set h]; rfl

set_option maxHeartbeats 1000000 in
theorem move_any (A : Option Addr) (n cap r : Nat) (l : List UInt8) (x : BitVec 16) (w : World) (h : Rd w r A n cap l) (hr : Rg w r x) :
    Calls Try.prog 76 #[.slice A n cap, .pointer (some ⟨r, 0, none⟩)] w fun e w' => e = .returned (.int .i64 (crcB x l).toNat) ∧ Rg w' r (crcB x l) ∧ Below r w w' := by
  have hn : n ≤ 9223372036854775807 := Nat.le_trans h.2.1 h.2.2.1
  have HL := hid h.1
  have H := hid h; clear h
  have HR := hid hr; clear hr
  go_enter Try.func76, Try.ntmps76
  go_wp2
  go_loopw [8] (fun i wr => ∃ k : Nat, k ≤ n ∧ i = .int .i64 k ∧ Hid (Rg wr r (crcB x (l.take k))) ∧ Below r w wr) (fun i _ => n - (intOf i).toNat)
  case atStart => exact ⟨0, by omega, rfl, HR.out, Below.refl _ _⟩
  case round =>
    obtain ⟨k, hk, rfl, hg, hb⟩ := hrel
    by_cases hlt : k < n
    · have hl := HL.out
      obtain ⟨b, off, hA, hbr, hc⟩ := H.out.2.2.2.2 (by omega)
      subst hA
      have hcell : wr.cell? ⟨b, off + k, none⟩ = some (.int .u8 (l[k].toNat)) := (hb.cell (p := ⟨b, off + k, none⟩) hbr).trans (hc k (by omega))
      have hcr := hg.out.cell
      have hfr := hg.out.frozen
      have HST : Hid (crcB x (l.take (k + 1)) = stB (crcB x (l.take k)) l[k]) := by
        show _ = _
        rw [List.take_succ_eq_append_getElem (by omega), crcB_snoc]
      obtain ⟨c, hcc⟩ : ∃ c, c = l[k] := ⟨_, rfl⟩
      rw [← hcc] at hcell HST
      obtain ⟨y, hy⟩ : ∃ y, y = crcB x (l.take k) := ⟨_, rfl⟩
      rw [← hy] at hg hcr HST
      have hc0 := c.toNat_lt
      have hy0 := y.isLt
      have HX := hid (xor_by y c)
      have hne : b ≠ r := by omega
      clear hl hc hcc hy
      go_wp2_with fail
      rw [HX.out]
      obtain ⟨q, HQ⟩ : ∃ q, Hid (q = y ^^^ byB c) := ⟨_, rfl⟩
      rw [← HQ.out]
      go_loopw [17] (fun i wq => ∃ j : Nat, j ≤ 8 ∧ i = .int .i64 j ∧ Hid (Rg wq r (shN j q)) ∧ Below r w wq) (fun i _ => 8 - (intOf i).toNat)
      case atStart => exact ⟨0, by omega, rfl, hg.out.set _, hb.setCell (Nat.le_refl _) _⟩
      case round =>
        obtain ⟨j, hj, rfl, hq, hbq⟩ := hrel
        by_cases hj8 : j < 8
        · have hcq := hq.out.cell
          have hfq := hq.out.frozen
          have HN : Hid (shN (j + 1) q = shB (shN j q)) := rfl
          obtain ⟨z, hz⟩ : ∃ z, z = shN j q := ⟨_, rfl⟩
          rw [← hz] at hcq hq HN
          have hz0 := z.isLt
          clear hz hcr hfr
          have hj8' : (j : Int) < 8 := by omega
          go_wp2_with fail
          refine (shift_any z _).mono ?_
          rintro e w' ⟨rfl, rfl⟩
          go_wp2_with fail
          refine ⟨⟨j + 1, by omega, by go_num, ?_, hbq.setCell (Nat.le_refl _) _⟩, by simp [intOf]; omega⟩
          rw [HN.out]; exact hq.out.set _
        · obtain rfl : j = 8 := by omega
          clear hcr hfr
          go_wp2_with fail
          refine ⟨⟨k + 1, by omega, by go_num, ?_, hbq⟩, by simp [intOf]; omega⟩
          rw [HST.out]
          show Hid (Rg _ r (shN 8 (y ^^^ byB c)))
          rw [← HQ.out]; exact hq.out
    · have hcr := hg.out.cell
      obtain rfl : k = n := by omega
      have HT : Hid (l.take k = l) := List.take_of_length_le (by have := HL.out; omega)
      rw [HT.out] at hg hcr
      have hx0 := (crcB x l).isLt
      go_wp2_with fail
      go_ret
      exact ⟨rfl, hg.out, hb⟩

set_option maxHeartbeats 400000 in
theorem register_any (n : Int) (w : World) :
    Calls Try.prog 66 #[.int .i64 n] w fun e w' => e = .returned (.func (.func 76) #[] #[.pointer (some ⟨w.heap.size, 0, none⟩)]) ∧ w' = w.alloc (.cells #[.int .u16 (lowB n).toNat] 128) := by
  have H := hid (lowB_wrap n)
  go_enter Try.func66, Try.ntmps66
  go_wp2
  go_ret
  rw [H.out]
  exact ⟨rfl, rfl⟩
theorem rg_new (w : World) (x : BitVec 16) : Rg (w.alloc (.cells #[.int .u16 x.toNat] 128)) w.heap.size x := heap_alloc_new w _

end Go.Proofs.Ytpmljbcgaeodjaa
