/-
  The document's answers for layer 4: Record, put, flushed.
  The document's answer for layer 4: Has.
-/
import Derived.Test.YteggkojlpgkhbaaGreatM14
import Derived.Lib.ConvBytes

namespace Go.Proofs.YteggkojlpgkhbaaGreat
open Go.RowKit Go.Maps Go.Shelf
set_option linter.unusedVariables false

def recX (s : Int) (xs : List (Int × Int)) : List UInt8 := headL xs.length s (bodyL xs) ++ bodyL xs
theorem recX_length (s : Int) (xs : List (Int × Int)) : (recX s xs).length = 8 + xs.length * 16 := by unfold recX; rw [List.length_append, headL_length, bodyL_length]
theorem low0 : lowB 0 = 0#16 := by decide
theorem ba_len (l : List UInt8) : (⟨l.toArray⟩ : ByteArray).size = l.length := rfl
set_option maxRecDepth 20000 in
set_option maxHeartbeats 2000000 in
theorem rrecord_any {w : World} (s : Int) (hs0 : 0 ≤ s) (hs : s ≤ 4294967295) {A : Option Addr} {n c : Nat} {xs : List (Int × Int)} (h : RdS w w.heap.size A n c xs) (hn : n ≤ 10000) (h0 : ∀ x ∈ xs, 0 ≤ x.1) :
    Calls Tryz.prog 30 #[.int .i64 s, .slice A n c] w fun e w' => e = .returned (.string ⟨(recX s xs).toArray⟩) ∧ Below w.heap.size w w' := by
  have hl := h.1
  have HL := hid hl; have H := hid h; have H0 := hid h0; have HN := hid hn
  have hni : (n : Int) ≤ 10000 := by omega
  have e1 : IntKind.u64.wrap (n : Int) = n := u64_conv (by omega) (by omega)
  have e2 : IntKind.u64.wrap s = s := u64_conv hs0 (by omega)
  have HU1 : Hid (U64 (n : Int)) := ⟨by omega, by rw [pw8]; omega⟩
  have HU2 : Hid (U64 s) := ⟨hs0, by rw [pw8]; omega⟩
  have HP1 : Hid (rputL (n : Int) 2 = le n 2) := rput2 _ (by omega) (by omega)
  have HP2 : Hid (rputL s 4 = le s 4) := rput4n _ hs0 (by omega)
  obtain ⟨p, hp⟩ : ∃ p, p = le (n : Int) 2 := ⟨_, rfl⟩
  obtain ⟨q, hq⟩ : ∃ q, q = le s 4 := ⟨_, rfl⟩
  obtain ⟨bd, hbd⟩ : ∃ bd, bd = bodyL xs := ⟨_, rfl⟩
  have hp8 : p.length = 2 := by rw [hp]; exact le_length _ _
  have hq8 : q.length = 4 := by rw [hq]; exact le_length _ _
  have hbl : bd.length ≤ 160000 := by rw [hbd, bodyL_length]; omega
  have HPP := hid hp; have HQQ := hid hq; have HBD := hid hbd
  have z1 : ¬ 9223372036854775807 < 2 + 4 := by omega
  have z2 : ¬ 9223372036854775807 < 2 + 4 + bd.length := by omega
  have z2' : ¬ 9223372036854775807 < 6 + bd.length := by omega
  obtain ⟨sm, hsm⟩ : ∃ sm, sm = crcB (lowB 0) (p ++ q ++ bd) := ⟨_, rfl⟩
  obtain ⟨r, hr⟩ : ∃ r, r = le (sm.toNat : Int) 2 := ⟨_, rfl⟩
  have hr2 : r.length = 2 := by rw [hr]; exact le_length _ _
  have hsmlt := sm.isLt
  have e3 : IntKind.u64.wrap (sm.toNat : Int) = (sm.toNat : Int) := u64_conv (by omega) (by omega)
  have HU3 : Hid (U64 (sm.toNat : Int)) := ⟨by omega, by rw [pw8]; omega⟩
  have HP3 : Hid (rputL (sm.toNat : Int) 2 = r) := by show _ = _; rw [hr]; exact rput2 _ (by omega) (by omega)
  have HSM := hid hsm; have HR := hid hr
  have HFIN : Hid (recX s xs = p ++ q ++ r ++ bd) := by
    show _ = _
    unfold recX headL sumL
    rw [hr, hsm, hp, hq, hbd, low0, hl]
  rw [HFIN.out]
  have z3 : ¬ 9223372036854775807 < 2 + 4 + 2 := by omega
  have z4 : ¬ 9223372036854775807 < 2 + 4 + 2 + bd.length := by omega
  have z4' : ¬ 9223372036854775807 < 8 + bd.length := by omega
  clear h h0 hn hl hp hq hbd hsm hr
  go_enter Tryz.func30, Tryz.ntmps30
  go_wp2_with fail
  refine (rput_any 2 (n : Int) _ HU1.out).mono ?_
  rintro e w1 ⟨rfl, hb1⟩
  rw [HP1.out, ← HPP.out]
  have HB1 := hid hb1; clear hb1
  go_wp2_with fail
  refine (rput_any 4 s _ HU2.out).mono ?_
  rintro e w2 ⟨rfl, hb2⟩
  rw [HP2.out, ← HQQ.out]
  have HB2 := hid (Bt HB1.out hb2); clear hb2
  go_wp2_with fail
  refine (rbody_any (H.out.on HB2.out) HN.out H0.out).mono ?_
  rintro e w3 ⟨rfl, hb3⟩
  rw [← HBD.out]
  have HB3 := hid (Bt HB2.out hb3); clear hb3
  go_wp2_with fail
  refine (rmore_any _ (p ++ q ++ bd) 0 _ (by rw [ByteArray.mk_append_mk, ByteArray.mk_append_mk]; try simp) (by simp; omega)).mono ?_
  rintro e w4 ⟨rfl, rfl⟩
  rw [← HSM.out]
  go_wp2_with fail
  refine (rput_any 2 (sm.toNat : Int) _ HU3.out).mono ?_
  rintro e w5 ⟨rfl, hb5⟩
  rw [HP3.out]
  have HB5 := hid (Bt HB3.out hb5); clear hb5
  go_wp2_with fail
  refine (rbody_any (H.out.on HB5.out) HN.out H0.out).mono ?_
  rintro e w6 ⟨rfl, hb6⟩
  rw [← HBD.out]
  have HB6 := hid (Bt HB5.out hb6); clear hb6
  go_wp2_with fail
  go_ret
  refine ⟨?_, HB6.out⟩
  show Ending.returned (.string (⟨p.toArray⟩ ++ ⟨q.toArray⟩ ++ ⟨r.toArray⟩ ++ ⟨bd.toArray⟩)) = _
  rw [ByteArray.mk_append_mk, ByteArray.mk_append_mk, ByteArray.mk_append_mk]
  try simp

theorem run_bytesL (w : World) (l : List UInt8) (hl : l.length ≤ 1000000) : ∃ c w', (convert 9 22 (.string ⟨l.toArray⟩)).run Tryz.prog w = .ok (.slice (some ⟨w.heap.size, 0, none⟩) l.length c) w' ∧ Rd w' w'.heap.size (some ⟨w.heap.size, 0, none⟩) l.length c l ∧ Below w.heap.size w w' := by
  refine ⟨_, _, Lib.run_convert_string_bytes (P := Tryz.prog) w 9 22 5 ⟨l.toArray⟩ Tryz.underlying9 Tryz.underlying22 Tryz.underlying5, ?_, ?_⟩
  · refine ⟨rfl, grownCap_ge _ _ _ _, grownCap_le_maxLen _ _ _ _ (by show l.length ≤ maxLen; unfold maxLen; omega), (fun h => by cases h), fun _ => ⟨w.heap.size, 0, rfl, by rw [Lib.bytesWorld_size]; omega, fun i hi => ?_⟩⟩
    rw [Nat.zero_add, Lib.bytesWorld_cell w 5 ⟨l.toArray⟩ i hi]
    simp [List.getD, List.getElem?_eq_getElem hi]; rfl
  · exact ⟨rfl, rfl, rfl, by rw [Lib.bytesWorld_size]; omega, fun i hi => Lib.bytesWorld_at_old w 5 ⟨l.toArray⟩ i hi⟩
def opPut (at_ : Int) (A : Option Addr) (n c : Nat) : Value := .agg #[.int .i64 0, .int .i64 at_, .int .i64 0, .slice A n c, .slice none 0 0]
def opFl (at_ long : Int) : Value := .agg #[.int .i64 2, .int .i64 at_, .int .i64 long, .slice none 0 0, .slice none 0 0]
set_option maxHeartbeats 1000000 in
theorem rputop_any {w : World} (a : Int) (h0 : 0 ≤ a) (h1 : a ≤ 8192) (l : List UInt8) (hl : l.length ≤ 1000000) :
    Calls Tryz.prog 39 #[.int .i64 a, .string ⟨l.toArray⟩] w fun e w' => ∃ A c, e = .returned (opPut (8 * a) A l.length c) ∧ Rd w' w'.heap.size A l.length c l ∧ Below w.heap.size w w' := by
  obtain ⟨w1, hw1⟩ : ∃ w1, w1 = w.alloc (.cells #[.int .i64 0, .int .i64 0, .int .i64 0, .slice none 0 0, .slice none 0 0] 54) := ⟨_, rfl⟩
  obtain ⟨c, w2, hrun, hrd, hb2⟩ := run_bytesL w1 l hl
  have hs1 : w1.heap.size = w.heap.size + 1 := by rw [hw1]; simp
  have hbl : w2.heap[w.heap.size]? = some (.cells #[.int .i64 0, .int .i64 0, .int .i64 0, .slice none 0 0, .slice none 0 0] 54 (0, 0)) := by
    rw [hb2.block _ (by omega), hw1]; exact heap_alloc_new _ _
  have f0 := row_cell hbl 0; have f1 := row_cell hbl 1; have f2 := row_cell hbl 2; have f3 := row_cell hbl 3; have f4 := row_cell hbl 4
  have g0 := row_frozen hbl
  have hlt := row_lt hbl
  have HBL := hid hbl
  rw [hs1] at hrun hrd
  rw [hw1] at hrun
  have HRD := hid hrd
  have HB2 : Hid (Below w.heap.size w w2) := Bt (by rw [hw1]; exact B1 _ _) hb2
  clear hrd hb2 hbl hw1 hs1
  go_enter Tryz.func39, Tryz.ntmps39
  go_wp2_with fail
  have hrow := row_set (row_set (row_set (row_set (row_set HBL.out 0 (.int .i64 0)) 1 (.int .i64 (8 * a))) 2 (.int .i64 0)) 3 (.slice (some ⟨w.heap.size + 1, 0, none⟩) l.length c)) 4 (.slice none 0 0)
  have r0 := row_cell hrow 0; have r1 := row_cell hrow 1; have r2 := row_cell hrow 2; have r3 := row_cell hrow 3; have r4 := row_cell hrow 4
  simp at r0 r1 r2 r3 r4
  refine bodyPost_ret (v := opPut (8 * a) (some ⟨w.heap.size + 1, 0, none⟩) l.length c) (by simp [results, Tryz.results39, go_sem, opPut, r0, r1, r2, r3, r4]) rfl ⟨_, _, rfl, ?_, ?_⟩
  · refine ⟨rfl, HRD.out.2.1, HRD.out.2.2.1, (fun h => by cases h), fun hn => ?_⟩
    obtain ⟨b, off, e, hbl, hc⟩ := HRD.out.2.2.2.2 hn
    cases e
    refine ⟨_, _, rfl, by simpa [size_set] using hbl, fun i hi => ?_⟩
    rw [World.cell?_setCell_far _ _ _ _ (by simp), World.cell?_setCell_far _ _ _ _ (by simp), World.cell?_setCell_far _ _ _ _ (by simp), World.cell?_setCell_far _ _ _ _ (by simp), World.cell?_setCell_far _ _ _ _ (by simp)]
    exact hc i hi
  · exact ((((HB2.out.setCell (Nat.le_refl _) _).setCell (Nat.le_refl _) _).setCell (Nat.le_refl _) _).setCell (Nat.le_refl _) _).setCell (Nat.le_refl _) _
set_option maxHeartbeats 1000000 in
theorem rflop_any {w : World} (a m : Int) (h0 : 0 ≤ a) (h1 : a ≤ 8192) (h2 : 0 ≤ m) (h3 : m ≤ 8192) :
    Calls Tryz.prog 40 #[.int .i64 a, .int .i64 m] w fun e w' => e = .returned (opFl (8 * a) (8 * m)) ∧ Below w.heap.size w w' := by
  go_enter Tryz.func40, Tryz.ntmps40
  go_wp2_with fail
  refine bodyPost_ret (v := opFl (8 * a) (8 * m)) (by simp [results, Tryz.results40, go_sem, opFl]) rfl ⟨rfl, B1 _ _⟩
end Go.Proofs.YteggkojlpgkhbaaGreat

namespace Go.Proofs.YteggkojlpgkhbaaGreat
open Go.RowKit Go.Maps Go.Shelf
set_option linter.unusedVariables false

theorem le_num' {l : List UInt8} (k : Nat) (h : l.length = k) : le (num l) k = l := by
  have hb := num_bounds l
  refine num_inj (by rw [le_length, h]) ?_
  rw [num_lek _ hb.1, ← h, Int.emod_eq_of_lt hb.1 hb.2]
theorem num8_U64 (l : List UInt8) (h : l.length ≤ 8) : U64 (num l) := by
  have hb := num_bounds l
  refine ⟨hb.1, ?_⟩
  have hp : pw (l.length : Int) ≤ pw 8 := by
    have h2 : (256 : Nat) ^ l.length ≤ 256 ^ 8 := Nat.pow_le_pow_right (by decide) h
    have h3 : ((256 ^ l.length : Nat) : Int) ≤ ((256 ^ 8 : Nat) : Int) := Int.ofNat_le.2 h2
    unfold pw
    simpa using h3
  omega
theorem setsL_get {Y : List UInt8} {k : Nat} (h : k < Y.length / 16) : (setsL Y)[k]? = some (setAt Y k) := by
  unfold setsL; rw [List.getElem?_map, List.getElem?_range h]; rfl
theorem wrap64_small {u : Int} (h0 : 0 ≤ u) (h : u < 9223372036854775808) : wrap64 u = u := wrap64_id (i64_iff.2 (by omega))
theorem may_big {n at_ words u u2 : Int} (hu : U64 u) (hn : n ≤ 8192) (h : ¬ u < n) : mayB n at_ words (wrap64 u, u2) = false := by
  have h2 := hu.2
  rw [pw8] at h2
  have h0 := hu.1
  have e : ¬ (0 ≤ wrap64 u ∧ wrap64 u < n) := by
    by_cases c : u < 9223372036854775808
    · rw [wrap64_small h0 c]; omega
    · have : wrap64 u = u - 18446744073709551616 := by unfold wrap64; omega
      omega
  unfold mayB
  by_cases c : 0 ≤ wrap64 u
  · rw [decide_eq_false (show ¬ (wrap64 u < n) from fun h => e ⟨c, h⟩)]; simp
  · rw [decide_eq_false c]; rfl
theorem body_sets {Y : List UInt8} {m : Nat} (hl : Y.length = m * 16) (hs : ∀ k, k < m → num ((Y.drop (k * 16)).take 8) < 8192) : bodyL (setsL Y) = Y := by
  have key : ∀ k, k ≤ m → bodyL ((setsL Y).take k) = Y.take (k * 16) := by
    intro k
    induction k with
    | zero => intro _; simp [bodyL]
    | succ k ih =>
      intro hk
      rw [bodyL_take (setsL_get (by omega)), ih (by omega)]
      have h1 := hs k (by omega)
      have h0 := (num_bounds ((Y.drop (k * 16)).take 8)).1
      show Y.take (k * 16) ++ le (wrap64 (num ((Y.drop (k * 16)).take 8))) 8 ++ le (num ((Y.drop (k * 16 + 8)).take 8)) 8 = _
      rw [wrap64_small h0 (by omega), le_num' 8 (by simp; omega), le_num' 8 (by simp; omega), show (k + 1) * 16 = k * 16 + 8 + 8 by omega, List.take_add, List.take_add]
  have := key m (Nat.le_refl _)
  rw [List.take_of_length_le (by rw [setsL_length]; omega), List.take_of_length_le (by omega)] at this
  exact this

theorem OwT.less {w : World} {B B' : Nat} {v : Value} {xs : List (Int × Int)} (h : OwT w B v xs) (hB : B' ≤ B) : OwT w B' v xs := by
  refine ⟨h.1, ?_⟩
  rcases h.2 with h1 | ⟨g, cap, cur, hv, hbase, hg, h3⟩
  · exact .inl h1
  · exact .inr ⟨g, cap, cur, hv, by omega, hg, h3⟩
def HasPost (R : Bool) (w : World) (Q : Nat) (xs : List (Int × Int)) (e : Ending) (w' : World) : Prop :=
  (if R = true then ∃ v, e = .returned (.tuple #[.int .i64 Q, v]) ∧ OwT w' w.heap.size v xs else e = .returned (.tuple #[.int .i64 0, .slice none 0 0])) ∧ Below w.heap.size w w'
theorem HasPost.no {w w' : World} {Q : Nat} {xs : List (Int × Int)} {R : Bool} (hR : R = false) (hb : Below w.heap.size w w') : HasPost R w Q xs (.returned (.tuple #[.int .i64 0, .slice none 0 0])) w' := by
  subst hR; exact ⟨by rw [if_neg (by simp)], hb⟩
theorem HasPost.yes {w w' : World} {Q : Nat} {xs : List (Int × Int)} {R : Bool} {v : Value} (hR : R = true) (ho : OwT w' w.heap.size v xs) (hb : Below w.heap.size w w') : HasPost R w Q xs (.returned (.tuple #[.int .i64 Q, v])) w' := by
  subst hR; exact ⟨by rw [if_pos rfl]; exact ⟨v, rfl, ho⟩, hb⟩

set_option maxRecDepth 20000 in
set_option maxHeartbeats 8000000 in
theorem rhas4_any {w : World} {A : Option Addr} {n c : Nat} {D : DS} (hr : RdW w w.heap.size A n c (wordsOf D)) (hg : D.good) {at_ words : Int} (h0 : 0 ≤ at_) (h1 : 1 ≤ words) (h2 : at_ + words ≤ n) :
    Calls Tryz.prog 8 #[.slice A n c, .agg #[.int .i64 at_, .int .i64 words]] w (HasPost (recOk n at_ words (recB D.S at_ words)) w (recQ (recB D.S at_ words)) (setsL (recY (recB D.S at_ words)))) := by
  obtain ⟨a, rfl⟩ : ∃ a : Nat, (a : Int) = at_ := ⟨at_.toNat, by omega⟩
  obtain ⟨m, rfl⟩ : ∃ m : Nat, (m : Int) = words := ⟨words.toNat, by omega⟩
  have hnl := hr.1
  rw [wordsOf_length] at hnl
  have hlen := hg.len
  obtain ⟨b, hb⟩ : ∃ b, b = recB D.S a m := ⟨_, rfl⟩
  have hbl : b.length = m * 8 := by rw [hb]; unfold recB; simp; omega
  have hn : n ≤ 8192 := by omega
  obtain ⟨S, hS⟩ : ∃ S, S = D.S := ⟨_, rfl⟩
  have hSl : S.length = n * 8 := by rw [hS]; omega
  have hxe : (⟨S.toArray⟩ : ByteArray).extract (8 * a) (8 * (a + m)) = ⟨b.toArray⟩ := by
    rw [ext_at, hb, hS]; unfold recB
    rw [List.drop_take, show ((a : Int) * 8).toNat = 8 * a by omega, show ((m : Int) * 8).toNat = 8 * (a + m) - 8 * a by omega]
  have HSE : Hid (seenL (wordsOf D) = S) := by rw [hS]; exact seen_words D hg.len.1
  rw [← hb]
  obtain ⟨C, hC⟩ : ∃ C, C = recC b := ⟨_, rfl⟩
  obtain ⟨Q, hQ⟩ : ∃ Q, Q = recQ b := ⟨_, rfl⟩
  obtain ⟨Y, hY⟩ : ∃ Y, Y = recY b := ⟨_, rfl⟩
  obtain ⟨R, hR⟩ : ∃ R, R = recOk n a m b := ⟨_, rfl⟩
  have hClt : C < 65536 := by rw [hC]; exact (recC_lt b).1
  have hQlt : Q < 4294967296 := by rw [hQ]; exact (recQ_lt b).1
  have HG0 : Hid (getN b 0 2 = (C : Int)) := by
    show _ = _; unfold getN; rw [if_pos (by simp [holdsB, show isW 2 = true from rfl]; omega), hC]; exact (recC_lt b).2
  have HG2 : Hid (getN b 2 4 = (Q : Int)) := by
    show _ = _; unfold getN; rw [if_pos (by simp [holdsB, show isW 4 = true from rfl]; omega), hQ]; exact (recQ_lt b).2
  have HRo : Hid (R = (decide (1 ≤ C) && decide (1 ≤ Q) && decide (C * 16 + 8 ≤ b.length) && decide (b.take 8 = headL C Q Y) && (setsL Y).all (mayB n a m))) := by rw [hR, hC, hQ, hY]; rfl
  have HYd : Hid (Y = (b.drop 8).take (C * 16)) := by rw [hY, hC]; rfl
  rw [← hQ, ← hY, ← hR]
  have HR := hid hr; have HN := hid hn; have HBL := hid hbl; have HSL := hid hSl
  have ham : (a : Int) + (m : Int) ≤ 8192 := by omega
  have hm1 : (1 : Int) ≤ m := h1
  have hCi : (C : Int) < 65536 := by omega
  have hQi : (Q : Int) < 4294967296 := by omega
  have hni : (n : Int) ≤ 8192 := by omega
  have H2 := hid h2
  clear hr hg hb hbl hS hSl hC hQ hY hR hn hlen hnl h2
  go_enter Tryz.func8, Tryz.ntmps8
  go_wp2_with fail
  have q1 : IntKind.i64.wrap (8 * (a : Int)) = 8 * (a : Int) := by rw [IntKind.wrap_i64]; omega
  have q2 : IntKind.i64.wrap ((a : Int) + (m : Int)) = (a : Int) + (m : Int) := by rw [IntKind.wrap_i64]; omega
  have q3 : IntKind.i64.wrap (8 * ((a : Int) + (m : Int))) = 8 * ((a : Int) + (m : Int)) := by rw [IntKind.wrap_i64]; omega
  have t1 : (8 * (a : Int)).toNat = 8 * a := by omega
  have t2 : (8 * ((a : Int) + (m : Int))).toNat = 8 * (a + m) := by omega
  have s0 : 0 ≤ 8 * (a : Int) := by omega
  have s1 : 8 * (a : Int) ≤ 8 * ((a : Int) + (m : Int)) := by omega
  have s4 : (a : Int) ≤ (a : Int) + (m : Int) := by omega
  have s3 : 0 ≤ 8 * ((a : Int) + (m : Int)) := by omega
  have s2 : 8 * ((a : Int) + (m : Int)) ≤ (S.length : Int) := by have := HSL.out; have := H2.out; omega
  refine reg_begin (by kernel_rfl) (fun w0a hx0a hHeld => ?_)
  have p0 : ∀ w', Ext w0a w' → w'.cell? ⟨w.heap.size, 0, none⟩ = some (.int .i64 (a : Int)) := fun w' h => ((hx0a.trans h).cell (p := ⟨w.heap.size, 0, none⟩) (by simp)).trans (by rw [row_cell (heap_alloc_new w _)]; rfl)
  have p1 : ∀ w', Ext w0a w' → w'.cell? ⟨w.heap.size, 1, none⟩ = some (.int .i64 (m : Int)) := fun w' h => ((hx0a.trans h).cell (p := ⟨w.heap.size, 1, none⟩) (by simp)).trans (by rw [row_cell (heap_alloc_new w _)]; rfl)
  refine reg_take 0 (v := ?vb0) at0 (by kernel_rfl) (by kernel_rfl) (by kernel_rfl) (by rfl) ?hyb0 hHeld ?restb0
  case hyb0 => (intro w' hSw; go_simp; try with_reducible rfl)
  try simp only [Act.put, List.setIfInBounds_toArray, List.set_cons_zero, List.set_cons_succ]
  refine reg_take 2 (v := ?vb2) (atS (atS at0)) (by kernel_rfl) (by kernel_rfl) (by kernel_rfl) (by rfl) ?hyb2 hHeld ?restb2
  case hyb2 => (intro w' hSw; go_simp; try with_reducible rfl)
  try simp only [Act.put, List.setIfInBounds_toArray, List.set_cons_zero, List.set_cons_succ]
  refine reg_take 3 (v := ?vb3) (atS (atS (atS at0))) (by kernel_rfl) (by kernel_rfl) (by kernel_rfl) (by rfl) ?hyb3 hHeld ?restb3
  case hyb3 => (intro w' hSw; go_simp; try with_reducible rfl)
  try simp only [Act.put, List.setIfInBounds_toArray, List.set_cons_zero, List.set_cons_succ]
  refine reg_take 4 (v := ?vb4) (atS (atS (atS (atS at0)))) (by kernel_rfl) (by kernel_rfl) (by kernel_rfl) (by rfl) ?hyb4 hHeld ?restb4
  case hyb4 => (intro w' hSw; go_simp; try with_reducible rfl)
  try simp only [Act.put, List.setIfInBounds_toArray, List.set_cons_zero, List.set_cons_succ]
  refine reg_take 5 (v := ?vb5) (atS5 at0) (by kernel_rfl) (by kernel_rfl) (by kernel_rfl) (by rfl) ?hyb5 hHeld ?restb5
  case hyb5 => (intro w' hSw; go_simp; try with_reducible rfl)
  try simp only [Act.put, List.setIfInBounds_toArray, List.set_cons_zero, List.set_cons_succ]
  refine reg_take 6 (v := ?vb6) (atS5 (atS at0)) (by kernel_rfl) (by kernel_rfl) (by kernel_rfl) (by rfl) ?hyb6 hHeld ?restb6
  case hyb6 => (intro w' hSw; go_simp; try with_reducible rfl)
  try simp only [Act.put, List.setIfInBounds_toArray, List.set_cons_zero, List.set_cons_succ]
  refine reg_take 7 (v := ?vb7) (atS5 (atS (atS at0))) (by kernel_rfl) (by kernel_rfl) (by kernel_rfl) (by rfl) ?hyb7 hHeld ?restb7
  case hyb7 => (intro w' hSw; go_simp; try with_reducible rfl)
  try simp only [Act.put, List.setIfInBounds_toArray, List.set_cons_zero, List.set_cons_succ]
  refine reg_take 8 (v := ?vb8) (atS5 (atS (atS (atS at0)))) (by kernel_rfl) (by kernel_rfl) (by kernel_rfl) (by rfl) ?hyb8 hHeld ?restb8
  case hyb8 => (intro w' hSw; go_simp; try with_reducible rfl)
  try simp only [Act.put, List.setIfInBounds_toArray, List.set_cons_zero, List.set_cons_succ]
  refine reg_take 9 (v := ?vb9) (atS5 (atS (atS (atS (atS at0))))) (by kernel_rfl) (by kernel_rfl) (by kernel_rfl) (by rfl) ?hyb9 hHeld ?restb9
  case hyb9 => (intro w' hSw; go_simp; try with_reducible rfl)
  try simp only [Act.put, List.setIfInBounds_toArray, List.set_cons_zero, List.set_cons_succ]
  refine reg_take 10 (v := ?vb10) (atS5 (atS5 at0)) (by kernel_rfl) (by kernel_rfl) (by kernel_rfl) (by rfl) ?hyb10 hHeld ?restb10
  case hyb10 => (intro w' hSw; go_simp; try with_reducible rfl)
  try simp only [Act.put, List.setIfInBounds_toArray, List.set_cons_zero, List.set_cons_succ]
  refine wpAnyH_ready (rs := [1]) (by kernel_rfl) (by simp) ?_
  refine AllReadyH.cons (atS at0) (fun K hK => ?_) AllReadyH.nil
  go_simp
  refine (rbytes_any (HR.out.on (Bt (B1 w _) hx0a)) (words_ok D) HN.out).mono ?_
  rintro e w2 ⟨rfl, hb2⟩
  rw [HSE.out]
  have HB2 := hid hb2
  go_wp2_with fail
  refine hK.out _ _ HB2.out (fun hHeld => ?_)
  clear hK K
  try simp only [Act.put, List.setIfInBounds_toArray, List.set_cons_zero, List.set_cons_succ]
  refine reg_on HB2.out (fun hHeld => ?_)
  refine reg_take 11 (v := ?vb11) (atS5 (atS5 (atS at0))) (by kernel_rfl) (by kernel_rfl) (by kernel_rfl) (by rfl) ?hyb11 hHeld ?restb11
  case hyb11 => (intro w' hSw; go_simp; try with_reducible rfl)
  try simp only [Act.put, List.setIfInBounds_toArray, List.set_cons_zero, List.set_cons_succ]
  refine reg_take 12 (v := ?vb12) (atS5 (atS5 (atS (atS at0)))) (by kernel_rfl) (by kernel_rfl) (by kernel_rfl) (by rfl) ?hyb12 hHeld ?restb12
  case hyb12 => (intro w' hSw; go_simp; try with_reducible rfl)
  try simp only [Act.put, List.setIfInBounds_toArray, List.set_cons_zero, List.set_cons_succ]
  refine wpAnyH_done (by kernel_rfl) ?_ _
  refine NoPanic.normal ?_
  have HBb : Hid (Below w.heap.size w w2) := Bt (Bt (B1 w _) hx0a) HB2.out
  have HBX : Hid (∀ w', Below w2.heap.size w2 w' → w'.heap[w.heap.size]? = some (.cells #[.int .i64 (a : Int), .int .i64 (m : Int)] 25 (0, 0))) := fun w' h => by
    rw [h.block _ (by have := HB2.out.size; have := hx0a.size; simp at this; omega), HB2.out.block _ (by have := hx0a.size; simp at this; omega), hx0a.block _ (by simp)]
    exact heap_alloc_new w _
  clear q1 q2 q3 t1 t2 s0 s1 s2 s3 s4 p0 p1 hxe
  have HMX : Hid (b.length ≤ 9223372036854775807) := by show _ ≤ _; have := HBL.out; omega
  go_wp2_with fail
  refine (rget_any b 0 2 _ HMX.out).mono ?_
  rintro e w3 ⟨rfl, rfl⟩
  rw [HG0.out]
  go_wp2_with fail
  refine (rget_any b 2 4 _ HMX.out).mono ?_
  rintro e w3 ⟨rfl, rfl⟩
  rw [HG2.out]
  have x0 := row_cell (HBX.out w2 (Below.refl _ _)) 0
  have x1 := row_cell (HBX.out w2 (Below.refl _ _)) 1
  simp at x0 x1
  by_cases z1 : C = 0
  · have HRf : Hid (R = false) := by show _ = _; rw [HRo.out, z1]; rfl
    subst z1
    go_wp2_with fail
    go_ret2
    exact HasPost.no HRf.out HBb.out
  by_cases z2 : Q = 0
  · have HRf : Hid (R = false) := by show _ = _; rw [HRo.out, z2]; simp
    have k1 : ((C : Int) == 0) = false := by simpa using z1
    subst z2
    go_wp2_with fail
    go_ret2
    exact HasPost.no HRf.out HBb.out
  have k1 : ((C : Int) == 0) = false := by simpa using z1
  have k2 : ((Q : Int) == 0) = false := by simpa using z2
  have w64 : wrap64 (C : Int) = C := wrap64_small (by omega) (by omega)
  by_cases z3 : ((m : Int) - 1) / 2 < C
  · have HRf : Hid (R = false) := by
      show _ = _; rw [HRo.out, decide_eq_false (show ¬ (C * 16 + 8 ≤ b.length) by have := HBL.out; omega)]; simp
    have k3 : decide (((m : Int) - 1) / 2 < (C : Int)) = true := by simpa using z3
    go_wp2_with fail
    refine (rroom_any (a : Int) (m : Int) hm1 (by omega)).mono ?_
    rintro e w3 ⟨rfl, hb3⟩
    have HB3 := hid (Bt HBb.out hb3); clear hb3
    go_wp2_with fail
    go_ret2
    exact HasPost.no HRf.out HB3.out
  have k3 : decide (((m : Int) - 1) / 2 < (C : Int)) = false := by simpa using z3
  have HC16 : Hid (C * 16 + 8 ≤ b.length) := by show _ ≤ _; have := HBL.out; omega
  have HYL : Hid (Y.length = C * 16) := by show _ = _; rw [HYd.out]; simp; have := HC16.out; omega
  go_wp2_with fail
  refine (rroom_any (a : Int) (m : Int) hm1 (by omega)).mono ?_
  rintro e w3 ⟨rfl, hb3⟩
  have HB3 := hid (Bt HBb.out hb3)
  have HBY := hid hb3
  clear hb3 x0 x1
  go_wp2_with fail
  go_loopw [11, 12, 13, 14, 15, 16] (fun v i _ _ _ _ wr => ∃ k : Nat, k ≤ C ∧ i = .int .i64 k ∧ Hid (OwT wr w2.heap.size v ((setsL Y).take k)) ∧ Hid (((setsL Y).take k).all (mayB n a m) = true) ∧ Hid (∀ j, j < k → num ((Y.drop (j * 16)).take 8) < n) ∧ Hid (Below w2.heap.size w2 wr)) (fun _ i _ _ _ _ _ => C - (intOf i).toNat)
  case atStart => exact ⟨0, by omega, rfl, hid (OwT.nil _ _), hid (by simp), hid (fun j hj => by omega), HBY⟩
  case round =>
    obtain ⟨k, hk, rfl, HO, HM, HU, HBw⟩ := hrel
    have HB := hid (Bt HBb.out HBw.out)
    by_cases hlt : k < C
    · have hkY : k < Y.length / 16 := by have := HYL.out; omega
      obtain ⟨u, hu⟩ : ∃ u, u = num ((Y.drop (k * 16)).take 8) := ⟨_, rfl⟩
      obtain ⟨u2, hu2⟩ : ∃ u2, u2 = num ((Y.drop (k * 16 + 8)).take 8) := ⟨_, rfl⟩
      have HUU : Hid (U64 u) := by rw [hu]; exact num8_U64 _ (by simp; omega)
      have HUU2 : Hid (U64 u2) := by rw [hu2]; exact num8_U64 _ (by simp; omega)
      have HSK : Hid ((setsL Y)[k]? = some (wrap64 u, u2)) := by rw [hu, hu2]; exact setsL_get hkY
      have HN1 : Hid (getN b (8 + 16 * (k : Int)) 8 = u) := by
        show _ = _
        unfold getN
        rw [if_pos (by simp [holdsB, show isW 8 = true from rfl]; have := HC16.out; omega), hu, HYd.out, List.drop_take, List.take_take, List.drop_drop]
        congr 1
        rw [show (8 + 16 * (k : Int)).toNat = 8 + k * 16 by omega, show (8 : Int).toNat = 8 from rfl, Nat.min_eq_left (by omega)]
      have HN2 : Hid (getN b (16 + 16 * (k : Int)) 8 = u2) := by
        show _ = _
        unfold getN
        rw [if_pos (by simp [holdsB, show isW 8 = true from rfl]; have := HC16.out; omega), hu2, HYd.out, List.drop_take, List.take_take, List.drop_drop]
        congr 1
        rw [show (16 + 16 * (k : Int)).toNat = 8 + (k * 16 + 8) by omega, show (8 : Int).toNat = 8 from rfl, Nat.min_eq_left (by omega)]
      have hu0 : 0 ≤ u := HUU.out.1
      have HUe := hid hu
      have HMB : Hid (∀ y, (setsL Y)[k]? = some y → mayB n a m y = false → R = false) := fun y hy hf => by
        rw [HRo.out]
        have : (setsL Y).all (mayB n a m) = false := by
          rw [List.all_eq_false]
          exact ⟨y, List.mem_of_getElem? hy, by rw [hf]; simp⟩
        rw [this]; simp
      have xb := HBX.out wr HBw.out
      have x0 := row_cell xb 0
      have x1 := row_cell xb 1
      simp at x0 x1
      have en : IntKind.u64.wrap (n : Int) = n := u64_conv (by omega) (by omega)
      have hkb : (k : Int) < C := by omega
      clear hu hu2 hkY xb
      by_cases hun : u < n
      · have d1 : decide ((n : Int) ≤ u) = false := by simp; omega
        have wu : wrap64 u = u := wrap64_small hu0 (by omega)
        have HX64 : Hid (I64 u) := i64_iff.2 (by omega)
        have HWU := hid wu
        rw [wu] at HSK
        cases hmb : mayB n a m (u, u2) with
        | false =>
          have HRf := hid (HMB.out _ HSK.out hmb)
          have HMb := hid hmb
          clear hmb
          go_wp2_with fail
          refine (rget_any b (8 + 16 * (k : Int)) 8 _ HMX.out).mono ?_
          rintro e w4 ⟨rfl, rfl⟩
          rw [HN1.out]
          go_wp2_with fail
          refine (rget_any b (16 + 16 * (k : Int)) 8 _ HMX.out).mono ?_
          rintro e w4 ⟨rfl, rfl⟩
          rw [HN2.out]
          go_wp2_with fail
          refine (rmay_any (a : Int) (m : Int) (by omega) hm1 ham HN.out (u, u2) HX64.out).mono ?_
          rintro e w4 ⟨rfl, hb4⟩
          rw [HMb.out]
          have HB4 := hid (HB.out.trans (hb4.mono HB.out.size)); clear hb4
          go_wp2_with fail
          go_ret2
          exact HasPost.no HRf.out HB4.out
        | true =>
          have HMb := hid hmb
          clear hmb
          go_wp2_with fail
          refine (rget_any b (8 + 16 * (k : Int)) 8 _ HMX.out).mono ?_
          rintro e w4 ⟨rfl, rfl⟩
          rw [HN1.out]
          go_wp2_with fail
          refine (rget_any b (16 + 16 * (k : Int)) 8 _ HMX.out).mono ?_
          rintro e w4 ⟨rfl, rfl⟩
          rw [HN2.out]
          go_wp2_with fail
          refine (rmay_any (a : Int) (m : Int) (by omega) hm1 ham HN.out (u, u2) HX64.out).mono ?_
          rintro e w4 ⟨rfl, hb4⟩
          rw [HMb.out]
          have HBw4 := hid (HBw.out.trans (hb4.mono HBw.out.size))
          have HO4 := hid (HO.out.on hb4)
          clear hb4
          obtain ⟨w5, hw5⟩ : ∃ w5, w5 = w4.alloc (.cells #[.int .i64 u, .int .u64 u2] 84) := ⟨_, rfl⟩
          have hb5 : Below w4.heap.size w4 w5 := by rw [hw5]; exact B1 _ _
          have hq5 : w5.heap[w4.heap.size]? = some (.cells #[.int .i64 u, .int .u64 u2] 84 (0, 0)) := by rw [hw5]; exact heap_alloc_new _ _
          obtain ⟨v6, w6, hrun, ho6, hg6⟩ := run_appT (x := (u, u2)) (HO4.out.on hb5) hq5 (by rw [List.length_take]; omega) (Nat.le_trans HBw4.out.size hb5.size) 28
          have hrow : ∀ j, u11.ownBlock = some j → w2.heap.size ≤ j := fun j hj => by
            rcases HO4.out.2 with ⟨e, _⟩ | ⟨g, cap, cur, e, hbase, _⟩
            · rw [e] at hj; simp [Value.ownBlock] at hj
            · rw [e] at hj; simp [Value.ownBlock] at hj; omega
          have HB6 : Hid (Below w2.heap.size w2 w6) := (HBw4.out.trans (hb5.mono HBw4.out.size)).grown hg6 (Nat.le_trans HBw4.out.size hb5.size) hrow
          rw [hw5] at hrun
          have HRUN := hid hrun
          have HO6 : Hid (OwT w6 w2.heap.size v6 ((setsL Y).take (k + 1))) := by rw [List.take_add_one, HSK.out]; exact ho6
          have HM6 : Hid (((setsL Y).take (k + 1)).all (mayB n a m) = true) := all_take HSK.out HM.out HMb.out
          have HU6 : Hid (∀ j, j < k + 1 → num ((Y.drop (j * 16)).take 8) < n) := fun j hj => by
            by_cases e : j < k
            · exact HU.out j e
            · obtain rfl : j = k := by omega
              rw [← HUe.out]; exact hun
          clear hrun hw5 hb5 hq5 ho6 hg6 hrow
          go_wp2_with (at_builtin; refine wpList_appT rfl _ _ rfl rfl rfl HRUN.out ?_)
          exact ⟨⟨k + 1, by omega, by go_num, HO6, HM6, HU6, HB6⟩, by simp [intOf]; omega⟩
      · have HRf := hid (HMB.out _ HSK.out (may_big HUU.out hni hun))
        have d1 : decide ((n : Int) ≤ u) = true := by simp; omega
        go_wp2_with fail
        refine (rget_any b (8 + 16 * (k : Int)) 8 _ HMX.out).mono ?_
        rintro e w4 ⟨rfl, rfl⟩
        rw [HN1.out]
        go_wp2_with fail
        refine (rget_any b (16 + 16 * (k : Int)) 8 _ HMX.out).mono ?_
        rintro e w4 ⟨rfl, rfl⟩
        rw [HN2.out]
        go_wp2_with fail
        go_ret2
        exact HasPost.no HRf.out HB.out
    · obtain rfl : k = C := by omega
      have et : (setsL Y).take k = setsL Y := List.take_of_length_le (by rw [setsL_length]; have := HYL.out; omega)
      rw [et] at HO HM
      have hbs := body_sets HYL.out (fun j hj => Int.lt_of_lt_of_le (HU.out j hj) hni)
      have hlS : (setsL Y).length = k := by rw [setsL_length, HYL.out]; omega
      obtain ⟨As, cs, hvs⟩ := HO.out.shape
      rw [hlS] at hvs
      subst hvs
      obtain ⟨hrdS, hjunk⟩ := HO.out.rd (setsL_ok Y)
      clear hjunk
      have HRD := hid hrdS
      have hx0 : ∀ x ∈ setsL Y, 0 ≤ x.1 := fun x hx => by
        have := List.all_eq_true.1 HM.out x hx
        unfold mayB at this
        simp at this
        exact this.1.1
      have HX0 := hid hx0
      have HQ64 : Hid (wrap64 (Q : Int) = Q) := wrap64_small (by omega) (by omega)
      have wq := HQ64.out
      obtain ⟨X, hX⟩ : ∃ X, X = recX (Q : Int) (setsL Y) := ⟨_, rfl⟩
      have hXl : X.length = 8 + k * 16 := by rw [hX, recX_length, hlS]
      have HXL : Hid (X.length = 8 + k * 16) := hXl
      have HXE : Hid (X = headL (k : Int) Q Y ++ Y) := by show _ = _; rw [hX]; unfold recX; rw [hbs, hlS]
      have HXX := hid hX
      have hext : (⟨b.toArray⟩ : ByteArray).extract 0 X.length = ⟨(b.take X.length).toArray⟩ := by rw [ext_at]; simp
      have hle : X.length ≤ b.length := by have := HC16.out; omega
      have HEQ : Hid (b.take X.length = b.take 8 ++ Y) := by
        show _ = _
        rw [hXl, List.take_add, HYd.out]
      have HEXT := hid hext; have HLE := hid hle
      clear et hbs hlS hrdS hx0 hX hXl hext hle
      go_wp2_with fail
      refine (rrecord_any (Q : Int) (by omega) (by omega) HRD.out (by have := HC16.out; have := HBL.out; omega) HX0.out).mono ?_
      rintro e w4 ⟨rfl, hb4⟩
      rw [← HXX.out]
      have HB4 := hid (Bt HB.out hb4)
      have HO4 := hid (HO.out.on hb4)
      clear hb4
      have hext := HEXT.out
      have hle := HLE.out
      obtain ⟨T, hT⟩ : ∃ T, T = b.take X.length := ⟨_, rfl⟩
      rw [← hT] at hext
      have HTT := hid hT
      clear hT
      by_cases hTX : T = X
      · subst hTX
        go_wp2_with fail
        go_ret2
        refine HasPost.yes ?_ (OwT.less HO4.out HBb.out.size) HB4.out
        have he : b.take 8 = headL (k : Int) Q Y := by
          have h3 : b.take 8 ++ Y = headL (k : Int) Q Y ++ Y := by rw [← HEQ.out, ← HTT.out]; exact HXE.out
          exact List.append_cancel_right h3
        rw [HRo.out, HM.out, decide_eq_true he, decide_eq_true HC16.out, decide_eq_true (show 1 ≤ k by omega), decide_eq_true (show 1 ≤ Q by omega)]
        rfl
      · have k5 : (T == X) = false := by simpa using hTX
        have k6 : (T != X) = true := by simpa using hTX
        have HTX := hid hTX
        clear hTX
        go_wp2_with fail
        go_ret2
        refine HasPost.no ?_ HB4.out
        have he : ¬ b.take 8 = headL (k : Int) Q Y := fun h => HTX.out (by rw [HTT.out, HEQ.out, HXE.out, h])
        rw [HRo.out, decide_eq_false he]
        simp
end Go.Proofs.YteggkojlpgkhbaaGreat
