/-
  The walk of CrcTurned.
-/
import Derived.Test.YtpgidhofgccdgaaLaw2A
namespace Go.Proofs.Ytpgidhofgccdgaa
open Go.RowKit
set_option linter.unusedVariables false

theorem turn_ne (c d : UInt8) (h : d ≠ 0) : c ^^^ d ≠ c := by
  intro e
  apply h
  have : c ^^^ (c ^^^ d) = c ^^^ c := by rw [e]
  simpa [← UInt8.xor_assoc] using this
theorem xor_u8 (c d : UInt8) : bits .xor .u8 (c.toNat : Int) (d.toNat : Int) = ((c ^^^ d).toNat : Int) := by
  have hc := c.toNat_lt; have hd := d.toNat_lt
  rw [u8_xor_nat _ _ (by omega) (by omega), UInt8.toNat_xor]
theorem turned_not {l : List UInt8} {i : Nat} (hi : i < l.length) {c : UInt8} (h : c ≠ l[i]) : openB ((l ++ sumL l).set i c) = false := by
  have e : (l ++ sumL l).set i c = l.set i c ++ sumL l := List.set_append_left _ _ hi
  rw [e, openB_iff (m := l.length) (by simp [sumL_length])]
  have e1 : (l.set i c ++ sumL l).drop l.length = sumL l := List.drop_left' (by simp)
  have e2 : (l.set i c ++ sumL l).take l.length = l.set i c := List.take_left' (by simp)
  rw [e1, e2, num_sumL]
  have h2 := crcB_set hi h 0#16
  simp only [decide_eq_false_iff_not]
  intro e3
  apply h2
  apply BitVec.eq_of_toNat_eq
  omega

/-- A byte stored into a row of the call's own. -/
theorem own_store {w : World} {base g cap i : Nat} {l : List UInt8} {cur : Array Value} (hg : w.heap[g]? = some (.cells cur 5 (0, 0))) (hb : base ≤ g) (hi : i < l.length) (hlc : l.length ≤ cap) (hmax : cap ≤ maxLen) (hcur : cur.size = cap) (htake : cur.toList.take l.length = l.map bv) (c : UInt8) :
    Own (w.setCell ⟨g, i, none⟩ (bv c)) base (.slice (some ⟨g, 0, none⟩) l.length cap) (l.set i c) := by
  have h1 : (w.setCell ⟨g, i, none⟩ (bv c)).heap[g]? = some (.cells (splice cur.toList i ([c].map bv)).toArray 5 (0, 0)) := by
    rw [row_set hg]
    congr 2
    apply Array.toList_inj.1
    rw [Array.toList_setIfInBounds, List.set_eq_take_append_cons_drop, if_pos (by simp; omega)]
    simp [splice]
  have h2 := own_set (xs := [c]) h1 hb (by simp; omega) hlc hmax (by simpa using hcur) htake
  have e : setL l i [c] = l.set i c := by
    unfold setL splice; rw [List.set_eq_take_append_cons_drop, if_pos hi]; simp
  rw [e] at h2; exact h2

set_option maxHeartbeats 1000000 in
theorem walk_CrcTurned (A : Option Addr) (n cap : Nat) (l : List UInt8) (at_ turn : Int) (w : World) (h : Rd w w.heap.size A n cap l) (w1 : (Lit.int .i64 at_).wf = true) (w2 : (Lit.int .u8 turn).wf = true) :
    Calls Try.prog 5 #[.slice A n cap, .int .i64 at_, .int .u8 turn] w fun e w' => e = .returned (.bool true) ∧ Below w.heap.size w w' := by
  clear w1
  have ht : 0 ≤ turn ∧ turn < 256 := by
    simp [Lit.wf, IntKind.min, IntKind.max, IntKind.bits, IntKind.signed] at w2; omega
  clear w2
  by_cases hbig : 20000 < n ∨ at_ < 0 ∨ (n : Int) ≤ at_ ∨ turn = 0
  · have h1 : decide ((20000 : Int) < n) = true ∨ (decide ((20000 : Int) < n) = false ∧ decide (at_ < 0) = true) ∨ (decide ((20000 : Int) < n) = false ∧ decide (at_ < 0) = false ∧ decide ((n : Int) ≤ at_) = true) ∨ (decide ((20000 : Int) < n) = false ∧ decide (at_ < 0) = false ∧ decide ((n : Int) ≤ at_) = false ∧ (turn == 0) = true) := by simp; omega
    have H := hid h; clear h hbig ht
    rcases h1 with h1 | ⟨h1, h2⟩ | ⟨h1, h2, h3⟩ | ⟨h1, h2, h3, h4⟩
    all_goals
      go_enter Try.func5, Try.ntmps5
      go_wp2_with fail
      refine (alive_any _).mono ?_
      rintro e w2 ⟨rfl, hb2⟩
      go_wp2_with fail
      go_ret
      exact ⟨rfl, hb2⟩
  · obtain ⟨a, rfl⟩ := Int.eq_ofNat_of_zero_le (show 0 ≤ at_ by omega)
    have h1 : decide ((20000 : Int) < n) = false := by simp; omega
    have h2 : decide ((a : Int) < 0) = false := by simp
    have h3 : decide (n ≤ a) = false := by simp; omega
    have h4 : (turn == 0) = false := by simp; omega
    have han : a < n := by omega
    have hn2 : n ≤ 20000 := by omega
    obtain ⟨d, hd⟩ : ∃ d : UInt8, turn = (d.toNat : Int) := ⟨UInt8.ofNat turn.toNat, by rw [UInt8.toNat_ofNat']; omega⟩
    subst hd
    have hd0 : d ≠ 0 := by
      intro e; subst e; simp at h4
    have HL := hid h.1
    have HD := hid hd0
    have H := hid h; clear h hd0 hbig ht
    go_enter Try.func5, Try.ntmps5
    go_wp2_with fail
    refine (seal_any A n cap l _ H.out (by omega)).mono ?_
    rintro e w1 ⟨v, rfl, ho, hb1⟩
    have hlen : (l ++ sumL l).length = n + 2 := by have := HL.out; simp [sumL_length]; omega
    obtain ⟨g, c, cur, hv, hbase, hg, hlc, hcm, hcs, htake⟩ := ho.form (by omega)
    rw [hlen] at hv hlc
    rw [hv]
    obtain ⟨y, hy⟩ : ∃ y, (l ++ sumL l)[a]? = some y := ⟨_, List.getElem?_eq_getElem (by omega)⟩
    have hcell : w1.cell? ⟨g, a, none⟩ = some (.int .u8 y.toNat) := by
      rw [row_cell hg]
      have h5 : (cur.toList.take (l ++ sumL l).length)[a]? = some (bv y) := by rw [htake, List.getElem?_map, hy]; rfl
      rw [List.getElem?_take_of_lt (by omega)] at h5
      rw [← Array.getElem?_toList]; exact h5
    have hfz := row_frozen hg a
    have hyl : l[a]? = some y := by rw [List.getElem?_append_left (by have := HL.out; omega)] at hy; exact hy
    have HX := hid (xor_u8 y d)
    have HST := hid (own_store (base := w.heap.size) (i := a) (l := l ++ sumL l) hg hbase (by omega) (by omega) hcm hcs htake (y ^^^ d))
    have HYL := hid hyl
    have HLEN := hid hlen
    have hac : a < c := by omega
    have hgb : Below w.heap.size w (w1.setCell ⟨g, a, none⟩ (bv (y ^^^ d))) := hb1.setCell hbase _
    clear hv hg hcs htake ho hy hyl hlen
    have hwr : wrap64 ((n : Int) + 2) = n + 2 := by unfold wrap64; omega
    go_wp2_with fail
    rw [HX.out]
    obtain ⟨w2, hw2⟩ : ∃ w2, w2 = w1.setCell ⟨g, a, none⟩ (.int .u8 ((y ^^^ d).toNat : Int)) := ⟨_, rfl⟩
    have HST2 : Hid (Own w2 w.heap.size (.slice (some ⟨g, 0, none⟩) (n + 2) c) ((l ++ sumL l).set a (y ^^^ d))) := by
      have := HST.out; rw [HLEN.out] at this; rw [hw2]; exact this
    have hgb2 : Below w.heap.size w w2 := by rw [hw2]; exact hgb
    rw [← hw2]
    clear hw2 hgb HST hfz hcell
    have HT : Hid ((l ++ sumL l).set a (y ^^^ d) = l.set a (y ^^^ d) ++ sumL l) := show _ = _ from List.set_append_left _ _ (by have := HL.out; omega)
    have hal : a < l.length := by have := HL.out; omega
    have hyd : y ^^^ d ≠ l[a] := by
      have : l[a] = y := by have := HYL.out; rw [List.getElem?_eq_getElem hal] at this; exact Option.some.inj this
      rw [this]; exact turn_ne _ _ HD.out
    have HNO := hid (turned_not hal hyd)
    have HNE := hid (crcB_set hal hyd 0#16)
    clear hal hyd
    have hlen2 : ((l ++ sumL l).set a (y ^^^ d)).length = n + 2 := by rw [List.length_set]; exact HLEN.out
    obtain ⟨A2, c2, hv2, hr2⟩ := HST2.out.rd
    rw [hlen2] at hv2 hr2
    have hc2 : A2 = some ⟨g, 0, none⟩ ∧ c2 = c := by cases hv2; exact ⟨rfl, rfl⟩
    obtain ⟨rfl, rfl⟩ := hc2
    have HR := hid hr2
    clear hr2 hv2 hlen2 HST2 hb1
    refine (open_any _ (n + 2) c2 _ _ HR.out (by omega)).mono ?_
    rintro e w3 ⟨v3, rfl, ho3, hb3⟩
    rw [HNO.out]
    clear ho3
    go_wp2_with fail
    refine (alive_any _).mono ?_
    rintro e w4 ⟨rfl, hb4⟩
    have HR4 := hid (((HR.out.on hb3).on hb4).take (m := n) (by omega))
    have HTK : Hid (((l ++ sumL l).set a (y ^^^ d)).take n = l.set a (y ^^^ d)) := show _ = _ by
      rw [HT.out]; exact List.take_left' (by have := HL.out; simp; omega)
    rw [HTK.out] at HR4
    have hbA := Bt (Bt hgb2 hb3) hb4
    have HB4 := hid (H.out.on hbA)
    clear hb3 hb4 hgb2
    go_wp2_with fail
    refine (sum1 rfl HR4.out).mono ?_
    rintro e w5 ⟨rfl, hb5⟩
    have HB5 := hid (HB4.out.on hb5)
    go_wp2_with fail
    refine (sum1 rfl HB5.out).mono ?_
    rintro e w6 ⟨rfl, hb6⟩
    have hfin := Bt (Bt hbA hb5) hb6
    have hne : ((crcB 0#16 (l.set a (y ^^^ d))).toNat != (crcB 0#16 l).toNat) = true := by
      have := HNE.out
      simp only [bne_iff_ne, ne_eq]
      intro e; exact this (BitVec.eq_of_toNat_eq e)
    have hne' : (((crcB 0#16 (l.set a (y ^^^ d))).toNat : Int) != ((crcB 0#16 l).toNat : Int)) = true := by
      simp only [bne_iff_ne, ne_eq] at hne ⊢; omega
    obtain ⟨X, hX⟩ : ∃ X, X = crcB 0#16 (l.set a (y ^^^ d)) := ⟨_, rfl⟩
    obtain ⟨Y, hY⟩ : ∃ Y, Y = crcB 0#16 l := ⟨_, rfl⟩
    rw [← hX, ← hY] at hne hne'
    rw [← hX, ← hY]
    clear hX hY
    go_wp2_with fail
    go_ret
    exact ⟨rfl, hfin⟩
end Go.Proofs.Ytpgidhofgccdgaa
