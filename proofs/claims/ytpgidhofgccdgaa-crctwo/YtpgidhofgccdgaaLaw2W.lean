/-
  The walk of CrcTwo.
-/
import Derived.Test.YtpgidhofgccdgaaLaw2A
import Derived.Test.YtpgidhofgccdgaaReg
namespace Go.Proofs.Ytpgidhofgccdgaa
open Go.RowKit
set_option linter.unusedVariables false

theorem xor_u8' (c d : UInt8) : bits .xor .u8 (c.toNat : Int) (d.toNat : Int) = ((c ^^^ d).toNat : Int) := by
  have hc := c.toNat_lt; have hd := d.toNat_lt
  rw [u8_xor_nat _ _ (by omega) (by omega), UInt8.toNat_xor]
/-- Two lists of bytes, combined. -/
def xorL (l m : List UInt8) : List UInt8 := l.zipWith (· ^^^ ·) m
theorem xorL_length {l m : List UInt8} (h : l.length = m.length) : (xorL l m).length = l.length := by simp [xorL, h]
theorem xorL_take {l m : List UInt8} {k : Nat} (hl : k < l.length) (hm : k < m.length) : (xorL l m).take (k + 1) = (xorL l m).take k ++ [l[k] ^^^ m[k]] := by
  rw [List.take_succ_eq_append_getElem (by simp [xorL]; omega)]; simp [xorL]
theorem xor_sums (x y : BitVec 16) : bits .xor .i64 (x.toNat : Int) (y.toNat : Int) = ((x ^^^ y).toNat : Int) := by
  have hx := x.isLt; have hy := y.isLt
  have hz := (x ^^^ y).isLt
  rw [BitVec.toNat_xor] at hz ⊢
  show IntKind.i64.wrap ((BitVec.ofInt 64 (x.toNat : Int) ^^^ BitVec.ofInt 64 (y.toNat : Int)).toNat : Int) = _
  rw [BitVec.toNat_xor, ofInt_u64 _ (by omega), ofInt_u64 _ (by omega), IntKind.wrap_i64]
  omega

theorem Own.heapEq {w w' : World} {base : Nat} {v : Value} {l : List UInt8} (h : Own w base v l) (e : w'.heap = w.heap) : Own w' base v l := by
  obtain ⟨h1, h2⟩ := h
  refine ⟨h1, ?_⟩
  rcases h2 with h3 | ⟨g, cap, cur, hv, hb, hg, h4⟩
  · exact .inl h3
  · exact .inr ⟨g, cap, cur, hv, hb, by rw [e]; exact hg, h4⟩
theorem Own.block {w : World} {base : Nat} {v : Value} {l : List UInt8} (h : Own w base v l) {k : Nat} (hk : v.ownBlock = some k) : base ≤ k := by
  rcases h.2 with ⟨rfl, _⟩ | ⟨g, cap, cur, rfl, hb, _⟩
  · cases hk
  · cases hk; exact hb
theorem one_rd (w : World) (c : UInt8) : Rd (w.alloc (.cells #[.int .u8 (c.toNat : Int)] 5)) (w.alloc (.cells #[.int .u8 (c.toNat : Int)] 5)).heap.size (some ⟨w.heap.size, 0, none⟩) 1 1 [c] := by
  obtain ⟨A, cap, hv, hr⟩ := (own_new w [c] 1 rfl (by unfold maxLen; omega)).rd
  cases hv
  exact hr

set_option maxHeartbeats 1000000 in
theorem walk_CrcTwo (A : Option Addr) (n cap : Nat) (l : List UInt8) (A2 : Option Addr) (n2 cap2 : Nat) (l2 : List UInt8) (w : World) (h : Rd w w.heap.size A n cap l) (h2 : Rd w w.heap.size A2 n2 cap2 l2) :
    Calls Try.prog 6 #[.slice A n cap, .slice A2 n2 cap2] w fun e w' => e = .returned (.bool true) ∧ Below w.heap.size w w' := by
  by_cases hbig : n ≠ n2 ∨ 5000 < n
  · have h1 : ((n : Int) != n2) = true ∨ (((n : Int) != n2) = false ∧ decide ((5000 : Int) < n) = true) := by simp; omega
    have h3 : (n != n2) = ((n : Int) != n2) := by rw [Bool.eq_iff_iff]; simp; omega
    rcases h1 with h1 | ⟨h1, h2⟩
    · rw [h1] at h3
      have H := hid h; clear h hbig h2
      go_enter Try.func6, Try.ntmps6
      go_wp2_with fail
      refine (alive_any _).mono ?_
      rintro e w2 ⟨rfl, hb2⟩
      go_wp2_with fail
      go_ret
      exact ⟨rfl, hb2⟩
    · rw [h1] at h3
      have H := hid h; clear h hbig
      go_enter Try.func6, Try.ntmps6
      go_wp2_with fail
      refine (alive_any _).mono ?_
      rintro e w2 ⟨rfl, hb2⟩
      go_wp2_with fail
      go_ret
      exact ⟨rfl, hb2⟩
  · obtain rfl : n = n2 := by omega
    have hn : n ≤ 5000 := by omega
    have h3 : decide ((5000 : Int) < n) = false := by simp; omega
    have HL := hid h.1
    have HL2 := hid h2.1
    have H := hid h; have H2 := hid h2
    clear h h2 hbig
    go_enter Try.func6, Try.ntmps6
    go_wp2_with fail
    go_loopw [5, 20] (fun c i wr => ∃ k : Nat, k ≤ n ∧ i = .int .i64 k ∧ Hid (Own wr w.heap.size c ((xorL l l2).take k)) ∧ Below w.heap.size w wr) (fun _ i _ => n - (intOf i).toNat)
    case atStart => exact ⟨0, by omega, rfl, show Own _ _ _ _ from own_nil _ _, B0 _⟩
    case round =>
      rename_i c0 i0
      obtain ⟨k, hk, rfl, ho, hb⟩ := hrel
      by_cases hlt : k < n
      · have hl := HL.out; have hl2 := HL2.out
        obtain ⟨b, off, hA, hbr, hc⟩ := H.out.2.2.2.2 (by omega)
        obtain ⟨b2, off2, hA2, hbr2, hc2⟩ := H2.out.2.2.2.2 (by omega)
        subst hA; subst hA2
        have HC : Hid (∀ w', Below w.heap.size w w' → w'.cell? ⟨b, off + k, none⟩ = some (.int .u8 (l[k].toNat))) := show ∀ w', _ → _ from fun w' h => (h.cell (p := ⟨b, off + k, none⟩) hbr).trans (hc k (by omega))
        have HC2 : Hid (∀ w', Below w.heap.size w w' → w'.cell? ⟨b2, off2 + k, none⟩ = some (.int .u8 (l2[k].toNat))) := show ∀ w', _ → _ from fun w' h => (h.cell (p := ⟨b2, off2 + k, none⟩) hbr2).trans (hc2 k (by omega))
        have HT : Hid ((xorL l l2).take (k + 1) = (xorL l l2).take k ++ [l[k] ^^^ l2[k]]) := show _ = _ from xorL_take (by omega) (by omega)
        obtain ⟨x, hx⟩ : ∃ x, x = l[k] := ⟨_, rfl⟩
        obtain ⟨y, hy⟩ : ∃ y, y = l2[k] := ⟨_, rfl⟩
        rw [← hx] at HC HT
        rw [← hy] at HC2 HT
        have hkn : (k : Int) < n := by omega
        have hk0 : (0 : Int) ≤ k := by omega
        have htn : ((k : Int)).toNat = k := by omega
        have hx0 := x.toNat_lt
        have hy0 := y.toNat_lt
        have HXL : Hid (((xorL l l2).take k).length ≤ 5000) := show _ ≤ _ by simp; omega
        clear hl hl2 hc hc2 hx hy
        go_wp2_with fail
        refine reg_beginB (w.heap.size) (by kernel_rfl) (fun w0r hh0r hx0r hHeld => ?_)
        have hcx : ∀ w', ExB w.heap.size w0r w' → w'.cell? ⟨b, off + k, none⟩ = some (.int .u8 x.toNat) := fun w' h => HC.out w' (hb.trans (hx0r.trans h))
        have hcy : ∀ w', ExB w.heap.size w0r w' → w'.cell? ⟨b2, off2 + k, none⟩ = some (.int .u8 y.toNat) := fun w' h => HC2.out w' (hb.trans (hx0r.trans h))
        refine reg_takeB 0 (v := ?vb0) at0 (by kernel_rfl) (by kernel_rfl) (by kernel_rfl) (by rfl) ?hyb0 hHeld ?restb0
        case hyb0 => (intro w' hSw; go_simp; try with_reducible rfl)
        try simp only [Act.put, List.setIfInBounds_toArray, List.set_cons_zero, List.set_cons_succ]
        refine reg_takeB 1 (v := ?vb1) (atS at0) (by kernel_rfl) (by kernel_rfl) (by kernel_rfl) (by rfl) ?hyb1 hHeld ?restb1
        case hyb1 => (intro w' hSw; go_simp; try with_reducible rfl)
        try simp only [Act.put, List.setIfInBounds_toArray, List.set_cons_zero, List.set_cons_succ]
        refine reg_takeB 2 (v := ?vb2) (atS (atS at0)) (by kernel_rfl) (by kernel_rfl) (by kernel_rfl) (by rfl) ?hyb2 hHeld ?restb2
        case hyb2 => (intro w' hSw; go_simp; try with_reducible rfl)
        try simp only [Act.put, List.setIfInBounds_toArray, List.set_cons_zero, List.set_cons_succ]
        refine reg_takeB 3 (v := ?vb3) (atS (atS (atS at0))) (by kernel_rfl) (by kernel_rfl) (by kernel_rfl) (by rfl) ?hyb3 hHeld ?restb3
        case hyb3 => (intro w' hSw; go_simp; try with_reducible rfl)
        try simp only [Act.put, List.setIfInBounds_toArray, List.set_cons_zero, List.set_cons_succ]
        refine reg_takeB 4 (v := ?vb4) (atS (atS (atS (atS at0)))) (by kernel_rfl) (by kernel_rfl) (by kernel_rfl) (by rfl) ?hyb4 hHeld ?restb4
        case hyb4 => (intro w' hSw; go_simp; try with_reducible rfl)
        try simp only [Act.put, List.setIfInBounds_toArray, List.set_cons_zero, List.set_cons_succ]
        refine reg_takeB 5 (v := ?vb5) (atS5 at0) (by kernel_rfl) (by kernel_rfl) (by kernel_rfl) (by rfl) ?hyb5 hHeld ?restb5
        case hyb5 => (intro w' hSw; go_simp; try with_reducible rfl)
        try simp only [Act.put, List.setIfInBounds_toArray, List.set_cons_zero, List.set_cons_succ]
        refine reg_takeB 6 (v := ?vb6) (atS5 (atS at0)) (by kernel_rfl) (by kernel_rfl) (by kernel_rfl) (by rfl) ?hyb6 hHeld ?restb6
        case hyb6 => (intro w' hSw; go_simp; try with_reducible rfl)
        try simp only [Act.put, List.setIfInBounds_toArray, List.set_cons_zero, List.set_cons_succ]
        refine reg_takeB 7 (v := ?vb7) (atS5 (atS (atS at0))) (by kernel_rfl) (by kernel_rfl) (by kernel_rfl) (by rfl) ?hyb7 hHeld ?restb7
        case hyb7 => (intro w' hSw; go_simp; try with_reducible rfl)
        try simp only [Act.put, List.setIfInBounds_toArray, List.set_cons_zero, List.set_cons_succ]
        refine reg_takeB 8 (v := ?vb8) (atS5 (atS (atS (atS at0)))) (by kernel_rfl) (by kernel_rfl) (by kernel_rfl) (by rfl) ?hyb8 hHeld ?restb8
        case hyb8 => (intro w' hSw; go_simp; try with_reducible rfl)
        try simp only [Act.put, List.setIfInBounds_toArray, List.set_cons_zero, List.set_cons_succ]
        refine reg_takeB 9 (v := ?vb9) (atS5 (atS (atS (atS (atS at0))))) (by kernel_rfl) (by kernel_rfl) (by kernel_rfl) (by rfl) ?hyb9 hHeld ?restb9
        case hyb9 => (intro w' hSw; go_simp; try with_reducible rfl)
        try simp only [Act.put, List.setIfInBounds_toArray, List.set_cons_zero, List.set_cons_succ]
        refine wpAnyH_ready (rs := [10]) (by kernel_rfl) (by simp) ?_
        refine AllReadyH.cons (atS5 (atS5 at0)) (fun K hK => ?_) AllReadyH.nil
        go_simp
        skip
        refine hK.out _ _ ((Below.refl _ _).alloc (hb.trans hx0r).size _) (fun hHeld => ?_)
        clear hK K
        try simp only [Act.put, List.setIfInBounds_toArray, List.set_cons_zero, List.set_cons_succ]
        refine reg_onB ((Below.refl _ _).alloc (hb.trans hx0r).size _) (fun hHeld => ?_)
        rw [xor_u8' x y]
        obtain ⟨v', w1, hrun, hown, hgr, _⟩ := run_append8 ((ho.out.heapEq hh0r.out).grown (B1 w0r (.cells #[.int .u8 ((x ^^^ y).toNat : Int)] 5))) (one_rd w0r (x ^^^ y)) (by have := (hb.trans hx0r).size; simp; omega) (by have := HXL.out; simp; omega) 22
        have HOW := hid hown
        have hbw : ExB w.heap.size (w0r.alloc (.cells #[.int .u8 ((x ^^^ y).toNat : Int)] 5)) w1 := (Below.refl _ _).grown hgr (by have := (hb.trans hx0r).size; simp; omega) (fun k hk => ho.out.block hk)
        have hbf := (hb.trans hx0r).trans (((Below.refl _ _).alloc (hb.trans hx0r).size _).trans hbw)
        clear hown hgr
        refine wpAnyH_ready (rs := [11]) (by kernel_rfl) (by simp) ?_
        refine AllReadyH.cons (atS5 (atS5 (atS at0))) (fun K hK => ?_) AllReadyH.nil
        refine step_append8 (by rfl) (.tmp 23) (.tmp 33) (by rfl) (by rfl) (by rfl) hrun ?_
        refine hK.out _ _ hbw (fun hHeld => ?_)
        clear hK K
        try simp only [Act.put, List.setIfInBounds_toArray, List.set_cons_zero, List.set_cons_succ]
        refine reg_onB hbw (fun hHeld => ?_)
        refine reg_takeB 12 (v := ?vb12) (atS5 (atS5 (atS (atS at0)))) (by kernel_rfl) (by kernel_rfl) (by kernel_rfl) (by rfl) ?hyb12 hHeld ?restb12
        case hyb12 => (intro w' hSw; go_simp; try with_reducible rfl)
        try simp only [Act.put, List.setIfInBounds_toArray, List.set_cons_zero, List.set_cons_succ]
        refine wpAnyH_done (by kernel_rfl) ?_ _
        refine NoPanic.normal ?_
        clear hrun hcx hcy
        go_wp2_with fail
        refine ⟨⟨k + 1, by omega, by go_num, ?_, hbf⟩, by simp [intOf]; omega⟩
        rw [HT.out]; exact HOW
      · obtain rfl : k = n := by omega
        have HT : Hid ((xorL l l2).take k = xorL l l2) := show _ = _ from List.take_of_length_le (by have := HL.out; have := HL2.out; rw [xorL_length (by omega)]; omega)
        rw [HT.out] at ho
        go_wp2_with fail
        refine (alive_any _).mono ?_
        rintro e w1 ⟨rfl, hb1⟩
        have hlx : (xorL l l2).length = k := by have := HL.out; have := HL2.out; rw [xorL_length (by omega)]; omega
        obtain ⟨A5, c5, hv5, hr5⟩ := (ho.out.grown hb1).rd
        rw [hlx] at hv5 hr5
        subst hv5
        have HR := hid hr5
        have hbA := hb.trans (hb1.mono hb.size)
        clear hr5 hlx ho
        go_wp2_with fail
        refine (sum1 rfl HR.out).mono ?_
        rintro e w2 ⟨rfl, hb2⟩
        have hbB := Bt hbA hb2
        have HA2 := hid (H.out.on hbB)
        go_wp2_with fail
        refine (sum1 rfl HA2.out).mono ?_
        rintro e w3 ⟨rfl, hb3⟩
        have hbC := Bt hbB hb3
        have HB2 := hid (H2.out.on hbC)
        go_wp2_with fail
        refine (sum1 rfl HB2.out).mono ?_
        rintro e w4 ⟨rfl, hb4⟩
        have hbD := Bt hbC hb4
        have HX : Hid (crcB 0#16 (xorL l l2) = crcB 0#16 l ^^^ crcB 0#16 l2) := show _ = _ by
          have := crcB_xor l l2 0#16 0#16 (by have := HL.out; have := HL2.out; omega)
          rw [BitVec.xor_self] at this; exact this
        rw [HX.out]
        have hxs := xor_sums (crcB 0#16 l) (crcB 0#16 l2)
        obtain ⟨X, hX⟩ : ∃ X, X = crcB 0#16 l := ⟨_, rfl⟩
        obtain ⟨Y, hY⟩ : ∃ Y, Y = crcB 0#16 l2 := ⟨_, rfl⟩
        rw [← hX, ← hY] at hxs
        rw [← hX, ← hY]
        obtain ⟨Z, hZ⟩ : ∃ Z, Z = (X ^^^ Y).toNat := ⟨_, rfl⟩
        rw [← hZ] at hxs
        rw [← hZ]
        clear hX hY hZ
        go_wp2_with fail
        go_ret
        exact ⟨rfl, hbD⟩
end Go.Proofs.Ytpgidhofgccdgaa
