/-
  A device of no bytes behind a script, and the document's words of it.
  The law WalRecovers: a walk.
  A device of no bytes behind a script; the law WalRecovers there.
-/
import Derived.Test.YteggkojlpgkhbaaGreatM17

namespace Go.Proofs.YteggkojlpgkhbaaGreat
open Go.RowKit Go.Maps Go.Shelf
set_option linter.unusedVariables false

theorem words_nil : wordsOf (cl []) = [] := rfl
theorem good_nil : (cl []).good := ⟨by simp [cl], fun k x h => by cases h⟩
theorem words_op {o : OpV} (hn : o.bs.length = o.nb) : wordsOf (opD (cl []) o) = wordsOf (cl []) := by
  have : (opD (cl []) o).S.length = 0 := opD_length o hn
  rw [words_nil]
  refine List.eq_nil_of_length_eq_zero ?_
  rw [wordsOf_length, this]
section
variable {w w' : World} {B d lb fb : Nat}
set_option maxHeartbeats 2000000 in
theorem doesN (h : DevN w B d lb fb) (o : OpV) (ho : o.ok w w.heap.size) :
    Calls Tryz.prog 19 #[.pointer (some ⟨d, 0, none⟩), o.val] w fun e w' => e = .returned (.tuple #[]) ∧ DevN w' B d lb fb ∧ Fr lb lb fb w w' := by
  obtain ⟨kind, at_, long, ab, nb, cb, bs, ak, nk, ck, ks⟩ := o
  obtain ⟨hk, ha, hl, hb, hkk⟩ := ho
  simp only at hk ha hl hb hkk
  unfold OpV.val
  obtain ⟨ob, hob⟩ : ∃ ob : Obj, ob = .cells #[.int .i64 kind, .int .i64 at_, .int .i64 long, .slice ab nb cb, .slice ak nk ck] 54 := ⟨_, rfl⟩
  have HD1 := hid (h.on (B1 w ob))
  have HR := hid (hb.on (B1 w ob)); have HK := hid (hkk.on (B1 w ob)); have HA := hid ha; have HLg := hid hl
  have HFR : Hid (Fr lb lb fb w (w.alloc ob)) := (Fr.refl lb lb fb w).alloc ob
  rw [hob] at HD1 HR HK HFR
  clear h hb hkk ha hl hk hob
  by_cases k0 : kind = 0
  · subst k0
    go_enter Tryz.func19, Tryz.ntmps19
    go_wp2_with fail
    refine (writeN HD1.out at_ HA.out HR.out).mono ?_
    rintro e w1 ⟨er, rfl, rfl⟩
    go_wp2_with fail
    go_end0
    exact ⟨rfl, HD1.out, HFR.out⟩
  by_cases k2 : kind = 2
  · subst k2
    go_enter Tryz.func19, Tryz.ntmps19
    go_wp2_with fail
    refine (flushN HD1.out at_ long HA.out HLg.out).mono ?_
    rintro e w1 ⟨er, rfl, rfl⟩
    go_wp2_with fail
    go_end0
    exact ⟨rfl, HD1.out, HFR.out⟩
  by_cases k3 : kind = 3
  · subst k3
    go_enter Tryz.func19, Tryz.ntmps19
    go_wp2_with fail
    refine (fenceN HD1.out).mono ?_
    rintro e w1 ⟨rfl, hd1, hf1⟩
    have HD2 := hid hd1; have HF := hid hf1; clear hd1 hf1
    go_wp2_with fail
    go_end0
    exact ⟨rfl, HD2.out, HFR.out.trans HF.out⟩
  by_cases k4 : kind = 4
  · subst k4
    go_enter Tryz.func19, Tryz.ntmps19
    go_wp2_with fail
    refine (crashN HD1.out HK.out).mono ?_
    rintro e w1 ⟨rfl, hd1, hf1⟩
    have HD2 := hid hd1; have HF := hid hf1; clear hd1 hf1
    go_wp2_with fail
    go_end0
    exact ⟨rfl, HD2.out, HFR.out.trans HF.out⟩
  have e0 : (kind == 0) = false := by simpa using k0
  have e2 : (kind == 2) = false := by simpa using k2
  have e3 : (kind == 3) = false := by simpa using k3
  have e4 : (kind == 4) = false := by simpa using k4
  go_enter Tryz.func19, Tryz.ntmps19
  go_wp2_with fail
  go_end0
  exact ⟨rfl, HD1.out, HFR.out⟩
set_option maxRecDepth 20000 in
set_option maxHeartbeats 4000000 in
theorem sameN {A : Option Addr} {c : Nat} (h : DevN w B d lb fb) (ho : RdW w w.heap.size A 0 c []) :
    Calls Tryz.prog 16 #[.pointer (some ⟨d, 0, none⟩), .slice A 0 c] w fun e w' => e = .returned (.bool true) ∧ Below w.heap.size w w' := by
  have HDW : Hid (DevN w B d lb fb ∧ RdW w w.heap.size A 0 c []) := ⟨h, ho⟩
  have hcvn : ∀ W, (convert 22 9 (.slice none 0 0)).run Tryz.prog W = .ok (.string ⟨#[]⟩) W := fun W => (Rd.nil W 0).conv
  clear h ho
  go_enter Tryz.func16, Tryz.ntmps16
  go_wp2_with fail
  refine reg_begin (by kernel_rfl) (fun w0 hx0 hHeld => ?_)
  have HDW0 : Hid (DevN w0 B d lb fb ∧ RdW w0 w0.heap.size A 0 c []) := ⟨HDW.out.1.on hx0, HDW.out.2.on hx0⟩
  have hfin := hx0
  refine reg_take 0 (v := ?vz1_0) at0 (by kernel_rfl) (by kernel_rfl) (by kernel_rfl) (by rfl) ?hyz1_0 hHeld ?restz1_0
  case hyz1_0 => (intro w' hSw; go_simp; try with_reducible rfl)
  try simp only [Act.put, List.setIfInBounds_toArray, List.set_cons_zero, List.set_cons_succ]
  refine reg_take 3 (v := ?vz2_3) (atS (atS (atS at0))) (by kernel_rfl) (by kernel_rfl) (by kernel_rfl) (by rfl) ?hyz2_3 hHeld ?restz2_3
  case hyz2_3 => (intro w' hSw; go_simp; try with_reducible rfl)
  try simp only [Act.put, List.setIfInBounds_toArray, List.set_cons_zero, List.set_cons_succ]
  refine wpAnyH_ready (rs := [1]) (by kernel_rfl) (by simp) ?_
  refine AllReadyH.cons (atS at0) (fun K hK => ?_) AllReadyH.nil
  go_simp
  refine (bytesN HDW0.out.1).mono ?_
  rintro e w2 ⟨rfl, rfl⟩
  go_wp2_with fail
  refine hK.out _ _ (Ext.refl _) (fun hHeld => ?_)
  clear hK K
  try simp only [Act.put, List.setIfInBounds_toArray, List.set_cons_zero, List.set_cons_succ]
  refine reg_take 2 (v := ?vz3_2) (atS (atS at0)) (by kernel_rfl) (by kernel_rfl) (by kernel_rfl) (by rfl) ?hyz3_2 hHeld ?restz3_2
  case hyz3_2 => (intro w' hSw; go_simp; try with_reducible rfl)
  try simp only [Act.put, List.setIfInBounds_toArray, List.set_cons_zero, List.set_cons_succ]
  refine wpAnyH_ready (rs := [4]) (by kernel_rfl) (by simp) ?_
  refine AllReadyH.cons (atS (atS (atS (atS at0)))) (fun K hK => ?_) AllReadyH.nil
  go_simp
  refine (rbytes_any HDW0.out.2 (fun x hx => by cases hx) (by omega)).mono ?_
  rintro e w3 ⟨rfl, hb3⟩
  rw [show seenL [] = [] from rfl]
  go_wp2_with fail
  refine hK.out _ _ hb3 (fun hHeld => ?_)
  clear hK K
  try simp only [Act.put, List.setIfInBounds_toArray, List.set_cons_zero, List.set_cons_succ]
  refine reg_on hb3 (fun hHeld => ?_)
  have HDW3 : Hid (DevN w3 B d lb fb ∧ RdW w3 w3.heap.size A 0 c []) := ⟨HDW0.out.1.on hb3, HDW0.out.2.on hb3⟩
  have hfin := Bt hfin hb3
  refine reg_take 5 (v := ?vz4_5) (atS5 at0) (by kernel_rfl) (by kernel_rfl) (by kernel_rfl) (by rfl) ?hyz4_5 hHeld ?restz4_5
  case hyz4_5 => (intro w' hSw; go_simp; try with_reducible rfl)
  try simp only [Act.put, List.setIfInBounds_toArray, List.set_cons_zero, List.set_cons_succ]
  refine reg_take 6 (v := ?vz5_6) (atS5 (atS at0)) (by kernel_rfl) (by kernel_rfl) (by kernel_rfl) (by rfl) ?hyz5_6 hHeld ?restz5_6
  case hyz5_6 => (intro w' hSw; go_simp; try with_reducible rfl)
  try simp only [Act.put, List.setIfInBounds_toArray, List.set_cons_zero, List.set_cons_succ]
  refine reg_take 7 (v := ?vz6_7) (atS5 (atS (atS at0))) (by kernel_rfl) (by kernel_rfl) (by kernel_rfl) (by rfl) ?hyz6_7 hHeld ?restz6_7
  case hyz6_7 => (intro w' hSw; go_simp; try with_reducible rfl)
  try simp only [Act.put, List.setIfInBounds_toArray, List.set_cons_zero, List.set_cons_succ]
  refine reg_take 9 (v := ?vz7_9) (atS5 (atS (atS (atS (atS at0))))) (by kernel_rfl) (by kernel_rfl) (by kernel_rfl) (by rfl) ?hyz7_9 hHeld ?restz7_9
  case hyz7_9 => (intro w' hSw; go_simp; try with_reducible rfl)
  try simp only [Act.put, List.setIfInBounds_toArray, List.set_cons_zero, List.set_cons_succ]
  refine wpAnyH_ready (rs := [8]) (by kernel_rfl) (by simp) ?_
  refine AllReadyH.cons (atS5 (atS (atS (atS at0)))) (fun K hK => ?_) AllReadyH.nil
  go_simp
  refine (looseN HDW3.out.1).mono ?_
  rintro e w4 ⟨v4, rfl, hr4, hb4⟩
  obtain ⟨A4, c4, hv4, hi4⟩ := rdI_of_row hr4 (looseL_64 (n := 0) (by omega))
  subst hv4
  clear hr4
  go_wp2_with fail
  refine hK.out _ _ hb4 (fun hHeld => ?_)
  clear hK K
  try simp only [Act.put, List.setIfInBounds_toArray, List.set_cons_zero, List.set_cons_succ]
  refine reg_on hb4 (fun hHeld => ?_)
  have HDW4 : Hid (DevN w4 B d lb fb ∧ RdW w4 w4.heap.size A 0 c []) := ⟨HDW3.out.1.on hb4, HDW3.out.2.on hb4⟩
  have hfin := Bt hfin hb4
  refine wpAnyH_ready (rs := [10]) (by kernel_rfl) (by simp) ?_
  refine AllReadyH.cons (atS5 (atS5 at0)) (fun K hK => ?_) AllReadyH.nil
  go_simp
  refine (rloose_any HDW4.out.2 (by omega)).mono ?_
  rintro e w5 ⟨v5, rfl, hr5, hb5⟩
  rw [show looseW [] = looseL 0 (fun _ => none) from rfl] at hr5
  obtain ⟨A5, c5, hv5, hi5⟩ := rdI_of_row hr5 (looseL_64 (n := 0) (by omega))
  subst hv5
  clear hr5
  go_wp2_with fail
  refine hK.out _ _ hb5 (fun hHeld => ?_)
  clear hK K
  try simp only [Act.put, List.setIfInBounds_toArray, List.set_cons_zero, List.set_cons_succ]
  refine reg_on hb5 (fun hHeld => ?_)
  have HDW5 : Hid (DevN w5 B d lb fb ∧ RdW w5 w5.heap.size A 0 c []) := ⟨HDW4.out.1.on hb5, HDW4.out.2.on hb5⟩
  have hfin := Bt hfin hb5
  refine wpAnyH_ready (rs := [11]) (by kernel_rfl) (by simp) ?_
  refine AllReadyH.cons (atS5 (atS5 (atS at0))) (fun K hK => ?_) AllReadyH.nil
  go_simp
  refine (same_any (by first | exact hi4 | exact hi4.on hb5) (by first | exact hi5 | exact hi5.on hb4) rfl).mono ?_
  rintro e w6 ⟨rfl, hb6⟩
  go_wp2_with fail
  refine hK.out _ _ hb6 (fun hHeld => ?_)
  clear hK K
  try simp only [Act.put, List.setIfInBounds_toArray, List.set_cons_zero, List.set_cons_succ]
  refine reg_on hb6 (fun hHeld => ?_)
  have hfin := Bt hfin hb6
  refine reg_take 12 (v := ?vz8_12) (atS5 (atS5 (atS (atS at0)))) (by kernel_rfl) (by kernel_rfl) (by kernel_rfl) (by rfl) ?hyz8_12 hHeld ?restz8_12
  case hyz8_12 => (intro w' hSw; go_simp; try with_reducible rfl)
  try simp only [Act.put, List.setIfInBounds_toArray, List.set_cons_zero, List.set_cons_succ]
  refine reg_take 13 (v := ?vz9_13) (atS5 (atS5 (atS (atS (atS at0))))) (by kernel_rfl) (by kernel_rfl) (by kernel_rfl) (by rfl) ?hyz9_13 hHeld ?restz9_13
  case hyz9_13 => (intro w' hSw; go_simp; try with_reducible rfl)
  try simp only [Act.put, List.setIfInBounds_toArray, List.set_cons_zero, List.set_cons_succ]
  refine wpAnyH_done (by kernel_rfl) ?_ _
  refine NoPanic.normal ?_
  go_wp2_with fail
  go_ret
  exact ⟨rfl, hfin⟩
end
end Go.Proofs.YteggkojlpgkhbaaGreat

namespace Go.Proofs.YteggkojlpgkhbaaGreat
open Go.RowKit Go.Maps Go.Shelf
set_option linter.unusedVariables false

theorem own_conv {w : World} {base : Nat} {v : Value} {l : List UInt8} (h : Own w base v l) : (convert 22 9 v).run Tryz.prog w = .ok (.string ⟨l.toArray⟩) w := by
  obtain ⟨A, c, hv, hr⟩ := h.rd
  rw [hv]; exact hr.conv

end Go.Proofs.YteggkojlpgkhbaaGreat

namespace Go.Proofs.YteggkojlpgkhbaaGreat
open Go.RowKit Go.Maps Go.Shelf
set_option linter.unusedVariables false

theorem DevN.less {w : World} {B B' d lb fb : Nat} (h : DevN w B d lb fb) (hB : B' ≤ B) : DevN w B' d lb fb :=
  ⟨h.hd, Nat.le_trans hB h.Bd, Nat.le_trans hB h.Bl, Nat.le_trans hB h.Bf, h.ne, h.loose, h.flush⟩
structure BothN (B : Nat) (w : World) (d lb fb base : Nat) (v : Value) : Prop where
  dev : DevN w B d lb fb
  ow : OwW w base v (wordsOf (cl []))
  hb : base ≤ w.heap.size
  h2 : lb < base
  h3 : fb < base
  h4 : d < base
theorem BothN.on {B : Nat} {w w' : World} {d lb fb base : Nat} {v : Value} (h : BothN B w d lb fb base v) (hb : Below w.heap.size w w') : BothN B w' d lb fb base v :=
  ⟨h.dev.on hb, h.ow.on hb, Nat.le_trans h.hb hb.size, h.h2, h.h3, h.h4⟩
def MadeN (w w' : World) (e : Ending) : Prop :=
  (e = .returned (.tuple #[.pointer none, .slice none 0 0, .bool false]) ∧ Below w.heap.size w w') ∨
  ∃ d lb fb base v, e = .returned (.tuple #[.pointer (some ⟨d, 0, none⟩), v, .bool true]) ∧ BothN w.heap.size w' d lb fb base v ∧ Below w.heap.size w w'

set_option maxRecDepth 20000 in
set_option maxHeartbeats 4000000 in
theorem madeN_any {w : World} {A2 : Option Addr} {n2 c2 : Nat} {l : List OpV} (h : RdO w w.heap.size A2 n2 c2 l) :
    Calls Tryz.prog 4 #[.slice none 0 0, .slice A2 n2 c2] w fun e w' => MadeN w w' e := by
  have HL := hid h.1; have HCm := hid (Nat.le_trans h.2.1 h.2.2.1)
  have H := hid h
  have hn2m : (n2 : Int) ≤ 9223372036854775807 := by have := HCm.out; unfold maxLen at this; omega
  clear h
  have hcvn : ∀ W, (convert 22 9 (.slice none 0 0)).run Tryz.prog W = .ok (.string ⟨#[]⟩) W := fun W => (Rd.nil W 0).conv
  go_enter Tryz.func4, Tryz.ntmps4
  go_wp2_with fail
  go_loopw [7, 21] (fun s i wr => ∃ (j : Nat) (z : Int), j ≤ n2 ∧ i = .int .i64 j ∧ s = .int .i64 z ∧ Hid (Below w.heap.size w wr)) (fun _ i _ => n2 - (intOf i).toNat)
  case atStart => exact ⟨0, 0, by omega, rfl, rfl, B0 w⟩
  case round =>
    obtain ⟨j, z, hj, rfl, rfl, hb⟩ := hrel
    by_cases hlt : j < n2
    · obtain ⟨b, off, rfl, hbl, hc⟩ := H.out.2.2.2.2 (by omega)
      have hjl : j < l.length := by have := HL.out; omega
      have hjb : (j : Int) + 1 ≤ 9223372036854775807 := by omega
      obtain ⟨c0, c1, c2, c3, c4⟩ := (hc j hjl).below hb.out hbl
      generalize l[j] = o at c0 c1 c2 c3 c4
      obtain ⟨kind, at_, long, ab, nb, cb, bs, ak, nk, ck, ks⟩ := o
      simp only at c0 c1 c2 c3 c4
      clear hc hjl
      go_wp2_with fail
      exact ⟨⟨j + 1, _, by omega, by go_num, rfl, Ba hb.out _⟩, by simp [intOf]; omega⟩
    · obtain rfl : j = n2 := by omega
      have HB0 := hid hb.out
      obtain ⟨w1, hq⟩ : ∃ w1, w1 = wr := ⟨_, rfl⟩
      subst hq
      clear hb
      go_wp2_with fail
      refine (ofN _).mono ?_
      rintro e w2 ⟨d, lb, fb, rfl, hd2, hb2⟩
      have HB2 := hid (Bt HB0.out hb2); have HD2 := hid hd2
      clear hb2 hd2
      go_wp2_with fail
      refine (rnew_ok [] (n := 0) rfl (by omega)).mono ?_
      rintro e w3 ⟨v3, rfl, ho3, hb3⟩
      have ho3 : OwW w3 w2.heap.size v3 (wordsOf (cl [])) := ho3
      have HBO : Hid (BothN w.heap.size w3 d lb fb w2.heap.size v3) := ⟨(HD2.out.on hb3).less HB0.out.size, ho3, hb3.size, HD2.out.loose.lt, HD2.out.flush.lt, HD2.out.dlt⟩
      have HB3 := hid (Bt HB2.out hb3)
      clear ho3 hb3 HD2
      by_cases c2 : (j : Int) ≤ 60
      · by_cases c3 : z ≤ 2000
        · skip
          have d2 : decide (60 < (j : Int)) = false := by simp; omega
          have d3 : decide (2000 < z) = false := by simp; omega
          clear d2 d3
          go_wp2_with fail
          go_loopw [12, 72] (fun r i wr => ∃ (k : Nat), k ≤ j ∧ i = .int .i64 k ∧ Hid (BothN w.heap.size wr d lb fb w2.heap.size r) ∧ Hid (Below w.heap.size w wr)) (fun _ i _ => j - (intOf i).toNat)
          case atStart => exact ⟨0, by omega, rfl, HBO, HB3⟩
          case round =>
            obtain ⟨k, hk, rfl, HBo, HBe⟩ := hrel
            by_cases hlt2 : k < j
            · obtain ⟨b', off, rfl, hbl, hc⟩ := H.out.2.2.2.2 (by omega)
              have hkl : k < l.length := by have := HL.out; omega
              have hkb : (k : Int) + 1 ≤ 9223372036854775807 := by omega
              obtain ⟨c0, c1, c2, c3, c4⟩ := (hc k hkl).below HBe.out hbl
              have hok := (H.out.2.2.2.1 _ (List.getElem_mem hkl)).below HBe.out
              generalize l[k] = o at c0 c1 c2 c3 c4 hok
              obtain ⟨kind, at_, long, ab, nb, cb, bs, ak, nk, ck, ks⟩ := o
              simp only at c0 c1 c2 c3 c4
              have HOK := hid hok
              clear hc hkl hok
              by_cases k1 : kind = 1
              · subst k1
                go_wp2_with fail
                exact ⟨⟨k + 1, by omega, by go_num, hid (HBo.out.on (B1 _ _)), hid (Ba HBe.out _)⟩, by simp [intOf]; omega⟩
              · have k1' : (kind == 1) = false := by simpa using k1
                have HBx := hid (HBo.out.on (B1 wr (.cells #[.int .i64 kind, .int .i64 at_, .int .i64 long, .slice ab nb cb, .slice ak nk ck] 54)))
                have HBz := hid (Ba HBe.out (.cells #[.int .i64 kind, .int .i64 at_, .int .i64 long, .slice ab nb cb, .slice ak nk ck] 54))
                have HOx := hid ((HOK.out.below ((Below.refl w.heap.size wr).alloc HBe.out.size (.cells #[.int .i64 kind, .int .i64 at_, .int .i64 long, .slice ab nb cb, .slice ak nk ck] 54))).more (B' := (wr.alloc (.cells #[.int .i64 kind, .int .i64 at_, .int .i64 long, .slice ab nb cb, .slice ak nk ck] 54)).heap.size) (by have := HBe.out.size; simp; omega))
                go_wp2_with fail
                refine (do_any good_nil HBx.out.ow HBx.out.hb ⟨kind, at_, long, ab, nb, cb, bs, ak, nk, ck, ks⟩ HOx.out k1).mono ?_
                rintro e w4 ⟨v4, er, rfl, ho4, hb4⟩
                rw [words_op (show bs.length = nb from HOK.out.2.2.2.1.1)] at ho4
                have HO4 := hid ho4; have HB4 := hid hb4
                have HC4 : Hid (∀ i : Nat, w4.cell? ⟨wr.heap.size, i, none⟩ = (wr.alloc (.cells #[.int .i64 kind, .int .i64 at_, .int .i64 long, .slice ab nb cb, .slice ak nk ck] 54)).cell? ⟨wr.heap.size, i, none⟩) := fun i => hb4.cell (p := ⟨wr.heap.size, i, none⟩) (by simp)
                have f0 := HC4.out 0; have f1 := HC4.out 1; have f2 := HC4.out 2; have f3 := HC4.out 3; have f4 := HC4.out 4
                simp only [row_cell (heap_alloc_new wr _)] at f0 f1 f2 f3 f4
                clear ho4 hb4
                go_wp2_with fail
                refine (doesN (HBx.out.dev.on HB4.out) ⟨kind, at_, long, ab, nb, cb, bs, ak, nk, ck, ks⟩ ((HOx.out.below HB4.out).more HB4.out.size)).mono ?_
                rintro e w5 ⟨rfl, hd5, hf5⟩
                have HBn : Hid (BothN w.heap.size w5 d lb fb w2.heap.size v4) := ⟨hd5, HO4.out.fr hf5 HBo.out.h2 HBo.out.h2 HBo.out.h3, Nat.le_trans (Nat.le_trans HBx.out.hb HB4.out.size) hf5.size, HBo.out.h2, HBo.out.h3, HBo.out.h4⟩
                have HBw : Hid (Below w.heap.size w w5) := (Bt HBz.out HB4.out).trans ((HBx.out.dev.on HB4.out).below hf5)
                clear hd5 hf5 f0 f1 f2 f3 f4
                go_wp2_with fail
                exact ⟨⟨k + 1, by omega, by go_num, HBn, HBw⟩, by simp [intOf]; omega⟩
            · obtain rfl : k = j := by omega
              go_wp2_with fail
              refine bodyPost_ret (v := .tuple #[.pointer (some ⟨d, 0, none⟩), u12, .bool true]) (by simp [results, Tryz.results4, go_sem]) rfl (.inr ⟨d, lb, fb, _, u12, rfl, HBo.out, HBe.out⟩)
        · have d3 : decide (2000 < z) = true := by simp; omega
          have d2 : decide (60 < (j : Int)) = false := by simp; omega
          go_wp2_with fail
          refine bodyPost_ret (v := .tuple #[.pointer none, .slice none 0 0, .bool false]) (by simp [results, Tryz.results4, go_sem]) rfl (.inl ⟨rfl, HB3.out⟩)
      · skip
        have d2 : decide (60 < (j : Int)) = true := by simp; omega
        go_wp2_with fail
        refine bodyPost_ret (v := .tuple #[.pointer none, .slice none 0 0, .bool false]) (by simp [results, Tryz.results4, go_sem]) rfl (.inl ⟨rfl, HB3.out⟩)

end Go.Proofs.YteggkojlpgkhbaaGreat
