/-
  The contracts of the statements' own functions of layer 3: Same, alive.
-/
import Derived.Test.YtfekholamkidkaaPmE
import Derived.Lib.SlBytesConst
import Derived.Deep.QuietTactic
import Derived.BigQuiet
namespace Go.Proofs.Ytfekholamkidkaa
open Go.RowKit Go.Maps Go.Sort
set_option linter.unusedVariables false

theorem rdI_of_row {w : World} {base : Nat} {v : Value} {l : List Int} (h : w.ownsRow base 3 1 v l.length (l.map encZ)) (hw : ∀ x ∈ l, I64 x) : ∃ A cap, v = .slice A l.length cap ∧ RdI w w.heap.size A l.length cap l := by
  rcases h.2 with ⟨rfl, hn⟩ | ⟨g, cap, cur, rfl, hbase, hg, hnc, hm, hs, hl⟩
  · have : l = [] := List.eq_nil_of_length_eq_zero hn
    subst this
    exact ⟨none, 0, rfl, RdI.nil _ _⟩
  · refine ⟨some ⟨g, 0, none⟩, cap, rfl, rfl, hnc, hm, hw, fun hn => ⟨g, 0, rfl, row_lt hg, fun i hi => ?_⟩⟩
    rw [Nat.zero_add, row_cell hg]
    have h2 : (cur.toList.take (l.length * 1))[i]? = some (encZ l[i]) := by rw [hl]; simp [hi]
    rw [Nat.mul_one, List.getElem?_take_of_lt hi] at h2
    simpa using h2

set_option maxHeartbeats 1000000 in
theorem same_any {w : World} {A A2 : Option Addr} {n c c2 : Nat} {l l2 : List Int} (h : RdI w w.heap.size A n c l) (h2 : RdI w w.heap.size A2 n c2 l2) (he : l = l2) :
    Calls Try.prog 22 #[.slice A n c, .slice A2 n c2] w fun e w' => e = .returned (.bool true) ∧ Below w.heap.size w w' := by
  subst he
  have HL := hid h.1; have HCm := hid (Nat.le_trans h.2.1 h.2.2.1)
  have H := hid h; have H2 := hid h2; clear h h2
  go_enter Try.func22, Try.ntmps22
  go_wp2_with fail
  go_loopw [5] (fun i wr => ∃ j : Nat, j ≤ n ∧ i = .int .i64 j ∧ Hid (Below w.heap.size w wr)) (fun i _ => n - (intOf i).toNat)
  case atStart => exact ⟨0, by omega, rfl, B0 w⟩
  case round =>
    obtain ⟨j, hj, rfl, hb⟩ := hrel
    by_cases hlt : j < n
    · obtain ⟨b, off, rfl, hbl, hc⟩ := H.out.2.2.2.2 (by omega)
      obtain ⟨b2, off2, rfl, hbl2, hc2⟩ := H2.out.2.2.2.2 (by omega)
      have hjl : j < l.length := by have := HL.out; omega
      have hjb : (j : Int) + 1 ≤ 9223372036854775807 := by have := HCm.out; unfold maxLen at this; omega
      obtain ⟨x, hx⟩ : ∃ x, x = l[j] := ⟨_, rfl⟩
      have hcell : wr.cell? ⟨b, off + j, none⟩ = some (.int .i64 x) := by rw [hx]; exact (hb.out.cell (p := ⟨b, off + j, none⟩) hbl).trans (hc j hjl)
      have hcell2 : wr.cell? ⟨b2, off2 + j, none⟩ = some (.int .i64 x) := by rw [hx]; exact (hb.out.cell (p := ⟨b2, off2 + j, none⟩) hbl2).trans (hc2 j hjl)
      clear hx hc hc2 hjl
      go_wp2_with fail
      go_quiet (fail)
      go_wp2_with fail
      exact ⟨⟨j + 1, by omega, by go_num, Bd hb.out nq⟩, by simp [intOf]; omega⟩
    · obtain rfl : j = n := by omega
      go_wp2_with fail
      go_ret
      exact ⟨rfl, hb.out⟩

theorem rd_abcd (w : World) : Rd (w.alloc (.cells #[.int .u8 97, .int .u8 98, .int .u8 99, .int .u8 100] 5 (4, 5))) (w.alloc (.cells #[.int .u8 97, .int .u8 98, .int .u8 99, .int .u8 100] 5 (4, 5))).heap.size (some ⟨w.heap.size, 0, none⟩) 4 4 [97, 98, 99, 100] := by
  refine ⟨rfl, Nat.le_refl _, by decide, (fun h => by cases h), fun _ => ⟨w.heap.size, 0, rfl, by simp, fun i hi => ?_⟩⟩
  have : i = 0 ∨ i = 1 ∨ i = 2 ∨ i = 3 := by simp at hi; omega
  rw [World.cell?_alloc_mark]
  rcases this with rfl | rfl | rfl | rfl <;> rfl

theorem row_fr {g lb fb : Nat} {w w' : World} {base n : Nat} {e : TypeId} {v : Value} {cs : List Value} (h : w.ownsRow base e 1 v n cs) (hf : Fr g lb fb w w') (h1 : g < base) (h2 : lb < base) (h3 : fb < base) : w'.ownsRow base e 1 v n cs := by
  refine ⟨h.1, ?_⟩
  rcases h.2 with h0 | ⟨b, cap, cur, hv, hb, hg, hr⟩
  · exact .inl h0
  · exact .inr ⟨b, cap, cur, hv, hb, (hf.block b (row_lt hg) (by omega) (by omega) (by omega)).trans hg, hr⟩
theorem row_below {w w' : World} {base n : Nat} {e : TypeId} {v : Value} {cs : List Value} (h : w.ownsRow base e 1 v n cs) (hf : Below w.heap.size w w') : w'.ownsRow base e 1 v n cs := by
  refine ⟨h.1, ?_⟩
  rcases h.2 with h0 | ⟨b, cap, cur, hv, hb, hg, hr⟩
  · exact .inl h0
  · exact .inr ⟨b, cap, cur, hv, hb, (hf.block b (row_lt hg)).trans hg, hr⟩

def aS1 : List UInt8 := setL (zeros 16) 6 [97, 98, 99, 100]
def aL1 : Int → Option (List UInt8) := wrL (zeros 16) (fun _ => none) 0 2
def aF1 : Int → Bool := wrF (fun _ => false) 0 2
def aF2 : Int → Bool := flF aF1 aL1 0 1
def aS4 : List UInt8 := crS aS1 (feL aL1 aF2) (fun k => !decide (k ∈ ([] : List Int)))
theorem aS4_read : (aS4.drop 6).take 4 = [97, 98, 0, 0] := by decide +kernel
theorem aL1_loose : looseL (aS1.length / 8) aL1 = [0, 1] := by decide +kernel
theorem aS1_len : aS1.length = 16 := by decide +kernel
theorem aS4_len : aS4.length = 16 := by unfold aS4; rw [crS_length]; exact aS1_len

set_option maxHeartbeats 2000000 in
theorem alive_any (w : World) :
    Calls Try.prog 9 #[] w fun e w' => e = .returned (.bool true) ∧ Below w.heap.size w w' := by
  have kc := fun (W : World) (C : Array Value) (n c : Nat) => Lib.run_convert_bytes_const (P := Try.prog) W 28 5 C n c Try.underlying28 Try.underlying5
  go_enter Try.func9, Try.ntmps9
  go_wp2_with fail
  refine (new_ok 2 16 (by decide) (by decide) (by decide) _).mono ?_
  rintro e w1 ⟨d, g, lb, fb, rfl, hd1, hb1⟩
  have HD1 := hid hd1; clear hd1
  go_wp2_with fail
  have HDA := hid (HD1.out.alloc (.cells #[.int .u8 97, .int .u8 98, .int .u8 99, .int .u8 100] 5 (4, 5)))
  have HBA := hid (Ba hb1 (.cells #[.int .u8 97, .int .u8 98, .int .u8 99, .int .u8 100] 5 (4, 5)))
  refine (write_ok HDA.out 6 (i64_iff.2 (by decide)) (rd_abcd w1) (by decide)).mono ?_
  rintro e w2 ⟨rfl, hd2, hb2⟩
  have HD2 : Hid (Dev w2 w.heap.size d g 16 lb fb aS1 aL1 aF1) := by
    rw [show spA 6 ((4 : Nat) : Int) = 0 by decide, show spB 6 ((4 : Nat) : Int) = 2 by decide] at hd2
    exact hd2
  have HB2 : Hid (Below w.heap.size w w2) := HBA.out.trans (HDA.out.below hb2)
  clear hd2 hb2 hb1 HD1 HDA HBA
  go_wp2_with fail
  refine (loose_any HD2.out).mono ?_
  rintro e w3 ⟨v3, rfl, hr3, hb3⟩
  rw [aL1_loose] at hr3
  have HG := hid HD2.out.glt; have HLB := hid HD2.out.llt; have HFB := hid HD2.out.flt
  have HR3 := hid hr3
  have HD3 := hid (HD2.out.on hb3)
  have HB3 := hid (Bt HB2.out hb3)
  clear hr3 hb3 HD2 HB2
  go_wp2_with fail
  refine (flush_ok HD3.out 0 8 (i64_iff.2 (by decide)) (i64_iff.2 (by decide)) (by decide +kernel)).mono ?_
  rintro e w4 ⟨rfl, hd4, hb4⟩
  have HD4 : Hid (Dev w4 w.heap.size d g 16 lb fb aS1 aL1 aF2) := by
    rw [show spA 0 8 = 0 by decide, show spB 0 8 = 1 by decide] at hd4
    exact hd4
  have HR4 := hid (row_fr HR3.out hb4 HG.out HLB.out HFB.out)
  have HB4 := hid (HB3.out.trans (HD3.out.below hb4))
  clear hd4 hb4 HD3 HR3 HB3
  go_wp2_with fail
  refine (fence_any HD4.out).mono ?_
  rintro e w5 ⟨rfl, hd5, hb5⟩
  have HD5 := hid hd5
  have HR5 := hid (row_fr HR4.out hb5 HG.out HLB.out HFB.out)
  have HB5 := hid (HB4.out.trans (HD4.out.below hb5))
  clear hd5 hb5 HD4 HR4 HB4
  go_wp2_with fail
  refine (crash_any HD5.out (RdI.nil _ _)).mono ?_
  rintro e w6 ⟨rfl, hd6, hb6⟩
  have HD6 : Hid (Dev w6 w.heap.size d g 16 lb fb aS4 (fun _ => none) (fun _ => false)) := hd6
  have HR6 := hid (row_fr HR5.out hb6 HG.out HLB.out HFB.out)
  have HB6 := hid (HB5.out.trans (HD5.out.below hb6))
  clear hd6 hb6 HD5 HR5 HB5
  go_wp2_with fail
  refine (read_ok HD6.out 6 4 (i64_iff.2 (by decide)) (i64_iff.2 (by decide)) (by rw [aS4_len]; decide)).mono ?_
  rintro e w7 ⟨v7, rfl, ho7, hb7⟩
  rw [show (6 : Int).toNat = 6 from rfl, show (4 : Int).toNat = 4 from rfl, aS4_read] at ho7
  have HO7 := hid ho7
  have HR7 := hid (row_below HR6.out hb7)
  have HD7 := hid (HD6.out.on hb7)
  have HB7 := hid (Bt HB6.out hb7)
  clear ho7 hb7 HD6 HR6 HB6
  obtain ⟨A8, c8, hv8, hi8⟩ := rdI_of_row HR7.out (by intro x hx; simp at hx; rcases hx with rfl | rfl <;> exact i64_iff.2 (by decide))
  subst hv8
  have HI8 := hid hi8; clear hi8
  go_wp2_with fail
  have HI9 : Hid (RdI (w7.alloc (.cells #[.int .i64 0, .int .i64 1] 3)) (w7.alloc (.cells #[.int .i64 0, .int .i64 1] 3)).heap.size (some ⟨w7.heap.size, 0, none⟩) 2 2 [0, 1]) := by
    refine ⟨rfl, Nat.le_refl _, by decide, (by intro x hx; simp at hx; rcases hx with rfl | rfl <;> exact i64_iff.2 (by decide)), fun _ => ⟨w7.heap.size, 0, rfl, by simp, fun i hi => ?_⟩⟩
    rw [row_cell (heap_alloc_new w7 _)]
    have : i = 0 ∨ i = 1 := by simp at hi; omega
    rcases this with rfl | rfl <;> rfl
  refine (same_any (l := [0, 1]) (HI8.out.on (B1 w7 _)) HI9.out rfl).mono ?_
  rintro e w9 ⟨rfl, hb9⟩
  have hb79 := Bt (B1 w7 _) hb9
  obtain ⟨A7, c7, hv7, hr7⟩ := (HO7.out.grown hb79).rd
  subst hv7
  have hcv : (convert 28 9 (.slice A7 4 c7)).run Try.prog w9 = .ok (.string ⟨#[97, 98, 0, 0]⟩) w9 := hr7.conv
  have HD9 := hid (HD7.out.on hb79)
  have HB9 := hid (Bt HB7.out hb79)
  clear hr7 hb79 hb9 HI9 HI8 HR7 HO7 HD7 HB7
  go_wp2_with fail
  refine (loose_any HD9.out).mono ?_
  rintro e w10 ⟨v10, rfl, hr10, hb10⟩
  have el : looseL (aS4.length / 8) (fun _ => none) = [] := by simp [looseL]
  rw [el] at hr10
  obtain ⟨A10, c10, hv10, _⟩ := rdI_of_row hr10 (by simp)
  subst hv10
  have HB10 := hid (Bt HB9.out hb10)
  clear hr10 hb10 HB9 HD9 hcv el
  go_wp2_with fail
  go_ret
  exact ⟨rfl, HB10.out⟩
end Go.Proofs.Ytfekholamkidkaa
