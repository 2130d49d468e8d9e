/-
  WalTorn holds: for all sets, places and bytes the statement answers true, and nothing that was there has turned.
-/
import Derived.Test.YtpmljbcgaeodjaaLaw4N
namespace Go.Proofs.Ytpmljbcgaeodjaa
open Go.RowKit Go.Maps Go.Shelf
set_option linter.unusedVariables false

theorem le_num {l : List UInt8} (k : Nat) (h : l.length = k) : le (num l) k = l := by
  have hb := num_bounds l
  refine num_inj (by rw [le_length, h]) ?_
  rw [num_lek _ hb.1, ← h]
  exact Int.emod_eq_of_lt hb.1 hb.2
theorem sumL_inj {l m : List UInt8} (h : sumL l = sumL m) : crcB 0#16 l = crcB 0#16 m := by
  have := congrArg num h
  rw [num_sumL, num_sumL] at this
  exact BitVec.eq_of_toNat_eq (by omega)
theorem head_sum {b : List UInt8} (hl : 8 ≤ b.length) : headL (recC b) (recQ b) (recY b) = b.take 6 ++ sumL (b.take 6 ++ recY b) := by
  have e1 : le (recC b : Int) 2 ++ le (recQ b : Int) 4 = b.take 6 := by
    rw [← (recC_lt b).2, ← (recQ_lt b).2, le_num 2 (by simp; omega), le_num 4 (by simp; omega), ← List.take_add]
  unfold headL
  rw [e1]
theorem torn {n at_ words : Int} {b : List UInt8} (h : recOk n at_ words b = true) {i : Nat} (h1 : 2 ≤ i) (h2 : i < 8 + recC b * 16) {c : UInt8} (hi : i < b.length) (hc : c ≠ b[i]) : recOk n at_ words (b.set i c) = false := by
  unfold recOk at h
  simp only [Bool.and_eq_true, decide_eq_true_eq] at h
  obtain ⟨⟨⟨⟨r1, r2⟩, r3⟩, r4⟩, r5⟩ := h
  have hC : recC (b.set i c) = recC b := by
    unfold recC
    rw [List.take_set_of_le (by omega)]
  have hl : 8 ≤ b.length := by omega
  cases hh : recOk n at_ words (b.set i c) with
  | false => rfl
  | true =>
    exfalso
    unfold recOk at hh
    simp only [Bool.and_eq_true, decide_eq_true_eq] at hh
    obtain ⟨⟨⟨⟨s1, s2⟩, s3⟩, s4⟩, s5⟩ := hh
    rw [head_sum hl] at r4
    rw [head_sum (by simp; omega)] at s4
    have hY : recY (b.set i c) = ((b.set i c).drop 8).take (recC b * 16) := by unfold recY; rw [hC]
    have hY0 : recY b = (b.drop 8).take (recC b * 16) := rfl
    have hm : (b.take 6).length = 6 := by simp; omega
    have hm2 : ((b.set i c).take 6).length = 6 := by simp; omega
    have ed : ∀ x y : List UInt8, x.length = 6 → (x ++ y).drop 6 = y := fun x y hx => by
      have e : x.drop 6 = [] := List.drop_eq_nil_of_le (by omega)
      rw [List.drop_append, hx, e]; simp
    have q1 : (b.drop 6).take 2 = sumL (b.take 6 ++ recY b) := by
      have := congrArg (List.drop 6) r4
      rw [List.drop_take, ed _ _ hm] at this
      exact this
    have q2 : ((b.set i c).drop 6).take 2 = sumL ((b.set i c).take 6 ++ recY (b.set i c)) := by
      have := congrArg (List.drop 6) s4
      rw [List.drop_take, ed _ _ hm2] at this
      exact this
    by_cases c1 : i < 6
    · have e1 : (b.set i c).take 6 ++ recY (b.set i c) = (b.take 6 ++ recY b).set i c := by
        rw [hY, hY0, List.drop_set_of_lt (by omega), List.take_set, List.set_append_left _ _ (by omega)]
      rw [List.drop_set_of_lt (by omega), q1, e1] at q2
      refine crcB_set (l := b.take 6 ++ recY b) (i := i) (c := c) (by simp; omega) ?_ 0#16 (sumL_inj q2).symm
      rw [List.getElem_append_left (by omega)]; simpa using hc
    · by_cases c2 : i < 8
      · have e1 : (b.set i c).take 6 ++ recY (b.set i c) = b.take 6 ++ recY b := by
          rw [hY, hY0, List.drop_set_of_lt (by omega), List.take_set_of_le (by omega)]
        rw [e1, ← q1] at q2
        have hg := congrArg (fun l : List UInt8 => l[i - 6]?) q2
        rw [List.getElem?_take_of_lt (by omega), List.getElem?_take_of_lt (by omega), List.getElem?_drop, List.getElem?_drop, show 6 + (i - 6) = i by omega, List.getElem?_set_self hi, List.getElem?_eq_getElem hi] at hg
        exact hc (Option.some.inj hg)
      · have e1 : (b.set i c).take 6 ++ recY (b.set i c) = (b.take 6 ++ recY b).set (i - 2) c := by
          rw [hY, hY0, List.take_set_of_le (by omega), List.set_append_right _ _ (by omega), hm, List.drop_set, if_neg (by omega), List.take_set]
          congr 2
        have e2 : ((b.set i c).drop 6).take 2 = (b.drop 6).take 2 := by
          rw [List.drop_set, if_neg (by omega), List.take_set_of_le (by omega)]
        rw [e2, q1, e1] at q2
        have hl2 : recY b = (b.drop 8).take (recC b * 16) := rfl
        have hyl : (recY b).length = recC b * 16 := by rw [hl2, List.length_take, List.length_drop]; omega
        refine crcB_set (l := b.take 6 ++ recY b) (i := i - 2) (c := c) (by rw [List.length_append, hm, hyl]; omega) ?_ 0#16 (sumL_inj q2).symm
        rw [List.getElem_append_right (by omega)]
        simp only [hl2, hm, List.getElem_take, List.getElem_drop]
        have : 8 + (i - 2 - 6) = i := by omega
        simp only [this]
        exact hc

/-- Sets outside a region leave it. -/
theorem bring_get : ∀ {xs : List (Int × Int)} {S : List UInt8} {i : Nat}, okX S.length xs → (∀ x ∈ xs, ¬ (x.1 * 8 ≤ i ∧ (i : Int) < x.1 * 8 + 8)) → (bringL S xs)[i]? = S[i]? := by
  intro xs
  induction xs with
  | nil => intro S i _ _; rfl
  | cons x xs ih =>
    intro S i hok hx
    have h1 := hok x (by simp)
    have hl : (setL S (x.1 * 8).toNat (le x.2 8)).length = S.length := setL_length _ _ _ (by rw [le_length]; omega)
    show (bringL (setL S (x.1 * 8).toNat (le x.2 8)) xs)[i]? = _
    rw [ih (fun y hy => by rw [hl]; exact hok y (by simp [hy])) (fun y hy => hx y (by simp [hy])), setL_get _ _ _ (by rw [le_length]; omega), if_neg]
    have := hx x (by simp)
    rw [le_length]; omega
/-- The region's bytes behind a commit. -/
theorem com_rec {S : List UInt8} {xs : List (Int × Int)} {n at_ words next : Int} (hn : n = (S.length : Int) / 8) (h0 : 0 ≤ at_) (h1 : 1 ≤ words) (h2 : at_ + words ≤ n) (h : begE n at_ words next xs = 0) :
    (recB (bringL (recW S at_ next xs) xs) at_ words).take (8 + xs.length * 16) = headL xs.length next (bodyL xs) ++ bodyL xs ∧ (recB (bringL (recW S at_ next xs) xs) at_ words).length = (words * 8).toNat ∧ (bringL (recW S at_ next xs) xs).length = S.length := by
  obtain ⟨e1, e2, e3, e4⟩ := begE_ok h
  have l3 : (recW S at_ next xs).length = S.length := by unfold recW; exact setL_length _ _ _ (by rw [List.length_append, headL_length, bodyL_length]; omega)
  have hok : okX (recW S at_ next xs).length xs := may_ok (by rw [l3]; exact hn) e2
  have l4 : (bringL (recW S at_ next xs) xs).length = S.length := by rw [bringL_length hok, l3]
  have hlr : (recB (bringL (recW S at_ next xs) xs) at_ words).length = (words * 8).toNat := by unfold recB; rw [List.length_take, List.length_drop, l4]; omega
  refine ⟨?_, hlr, l4⟩
  have hhb : (headL xs.length next (bodyL xs) ++ bodyL xs).length = 8 + xs.length * 16 := by rw [List.length_append, headL_length, bodyL_length]
  refine List.ext_getElem? fun i => ?_
  by_cases hi : i < 8 + xs.length * 16
  · rw [List.getElem?_take_of_lt hi]
    unfold recB
    rw [List.getElem?_take_of_lt (by omega), List.getElem?_drop, bring_get hok (fun x hx => by
      have hm := List.all_eq_true.1 e2 x hx
      unfold mayB at hm
      simp at hm
      omega)]
    unfold recW
    rw [setL_get _ _ _ (by rw [hhb]; omega), if_pos (by rw [hhb]; omega)]
    congr 1; omega
  · rw [List.getElem?_eq_none (by rw [List.length_take]; omega), List.getElem?_eq_none (by omega)]

theorem xor_u84 (c d : UInt8) : bits .xor .u8 (c.toNat : Int) (d.toNat : Int) = ((c ^^^ d).toNat : Int) := by
  have h1 := c.toNat_lt; have h2 := d.toNat_lt
  rw [u8_xor_nat _ _ (by omega) (by omega), UInt8.toNat_xor]

set_option maxRecDepth 20000 in
set_option maxHeartbeats 16000000 in
theorem walk_WalTorn (A : Option Addr) (n c : Nat) (xs : List (Int × Int)) (at_ turn : Int) (w : World) (h : RdS w w.heap.size A n c xs) (hat : (Lit.int .i64 at_).wf = true) (htn : (Lit.int .u8 turn).wf = true) :
    Calls Try.prog 6 #[.slice A n c, .int .i64 at_, .int .u8 turn] w fun e w' => e = .returned (.bool true) ∧ Below w.heap.size w w' := by
  have HRD := hid h
  have HN : Hid (xs.length = n) := h.1
  have hnm : (n : Int) ≤ 9223372036854775807 := by have := h.2.1; have := h.2.2.1; unfold maxLen at *; omega
  have hai := i64_iff.1 hat
  obtain ⟨t, ht⟩ : ∃ t : UInt8, (t.toNat : Int) = turn := by
    have hb : 0 ≤ turn ∧ turn ≤ 255 := by simpa [Lit.wf, IntKind.min, IntKind.max, IntKind.signed, IntKind.bits] using htn
    refine ⟨UInt8.ofNat turn.toNat, ?_⟩
    rw [UInt8.toNat_ofNat']; omega
  subst ht
  clear h hat htn
  by_cases hbig : 20 < (n : Int)
  · have d1 : decide (20 < (n : Int)) = true := by simp; omega
    go_enter Try.func6, Try.ntmps6
    go_wp2_with fail
    refine (new_ok 20 160 rfl (by decide) (by decide) w).mono ?_
    rintro e w1 ⟨d, g, lb, fb, rfl, hd1, hb1⟩
    clear hd1
    go_wp2_with fail
    refine (alive_any _).mono ?_
    rintro e w2 ⟨rfl, hb⟩
    go_wp2_with fail
    go_ret
    exact ⟨rfl, Bt hb1 hb⟩
  · have d1 : decide (20 < (n : Int)) = false := by simp; omega
    have hn50 : (n : Int) ≤ 20 := by omega
    clear hbig hnm
    by_cases htz : t = 0
    · subst htz
      go_enter Try.func6, Try.ntmps6
      go_wp2_with fail
      refine (new_ok 20 160 rfl (by decide) (by decide) w).mono ?_
      rintro e w1 ⟨d, g, lb, fb, rfl, hd1, hb1⟩
      clear hd1
      go_wp2_with fail
      refine (alive_any _).mono ?_
      rintro e w2 ⟨rfl, hb⟩
      go_wp2_with fail
      go_ret
      exact ⟨rfl, Bt hb1 hb⟩
    · have htz2 : ((t.toNat : Int) == 0) = false := by
        rw [beq_eq_false_iff_ne]; intro e
        exact htz (UInt8.toNat_inj.1 (by simp; omega))
      go_enter Try.func6, Try.ntmps6
      go_wp2_with fail
      refine (new_ok 20 160 rfl (by decide) (by decide) w).mono ?_
      rintro e w1 ⟨d, g, lb, fb, rfl, hd1, hb1⟩
      have HD1 := hid (DevS.clean hd1); have HB1 := hid hb1
      clear hd1 hb1
      go_wp2_with fail
      refine (open_ok (S := zeros 160) (n := 20) HD1.out len20 b20.2.2).mono ?_
      rintro e w2 ⟨p, rfl, hl2, hp2, hb2⟩
      rw [b20.2.1] at hl2
      have HL2 : Hid (LogV w2 p d 2 9 1) := hl2
      have HB2 := hid (Bt HB1.out hb2); have HP : Hid (w.heap.size ≤ p) := Nat.le_trans HB1.out.size hp2
      have HD2 : Hid (DevS w2 w.heap.size d g 160 lb fb (cl (zeros 160))) := Dev.on HD1.out hb2
      clear hl2 hb2 hp2
      go_wp2_with fail
      refine (own_any (HRD.out.on HB2.out) (by have := HN.out; omega)).mono ?_
      rintro e w6 ⟨v6, rfl, ho6, hb6⟩
      have hxok : ∀ x ∈ xs, I64 x.1 ∧ U64 x.2 := HRD.out.2.2.2.1
      obtain ⟨A6, c6, rfl⟩ := ho6.shape
      have hr6 := (ho6.rd hxok).1
      have HXO := hid hxok
      rw [HN.out] at hr6 ⊢
      have HD6 : Hid (DevS w6 w.heap.size d g 160 lb fb (cl (zeros 160))) := Dev.on HD2.out hb6
      have HL6 : Hid (LogV w6 p d 2 9 1) := (hb6.block _ (row_lt HL2.out)).trans HL2.out
      have HB6 := hid (Bt HB2.out hb6)
      have hcom := commit_any (N := 20) HD6.out len20 (by decide) (by decide) (by decide) HL6.out hr6 (by decide) (by decide)
      obtain ⟨er, her⟩ : ∃ er, er = begE 20 2 9 1 xs := ⟨_, rfl⟩
      rw [← her] at hcom
      have HC := hid hcom; have HER := hid her
      clear hcom ho6 hr6 hb6 her hxok
      have q1 : IntKind.i64.wrap (16 * (n : Int)) = 16 * (n : Int) := by rw [IntKind.wrap_i64]; omega
      have q2 : IntKind.i64.wrap (8 + 16 * (n : Int)) = 8 + 16 * (n : Int) := by rw [IntKind.wrap_i64]; omega
      go_wp2_with fail
      refine HC.out.mono ?_
      rintro e w7 ⟨rfl, hd7, hl7, hf7⟩
      have HB7 := hid (HB6.out.trans (hf7.base HP.out (Dev.Bg HD6.out) (Dev.Bl HD6.out) (Dev.Bf HD6.out) HB6.out.size))
      by_cases hz : er = 0
      · subst hz
        rw [if_pos rfl, commit_clean (n := 20) (words := 9) len20 (by decide) (by decide) (by decide) HER.out.symm] at hd7
        obtain ⟨r1, r2, r3⟩ := com_rec (n := 20) (words := 9) len20 (by decide) (by decide) (by decide) HER.out.symm
        obtain ⟨e1, e2, e3, e4⟩ := begE_ok HER.out.symm
        obtain ⟨S1, hS1⟩ : ∃ S1, S1 = bringL (recW (zeros 160) 2 1 xs) xs := ⟨_, rfl⟩
        rw [← hS1] at hd7 r1 r2 r3
        rw [zeros_length] at r3
        obtain ⟨k1, k2, k3⟩ := rec_yes (n := 20) (at_ := 2) (words := 9) (next := 1) e1 (by omega) (by decide) (by decide) e2 HXO.out r1 (by rw [r2]; omega)
        have HD7 := hid hd7
        have hCn : recC (recB S1 2 9) = n := by
          have hb : (recB S1 2 9).take 2 = le (xs.length : Int) 2 := by
            have := congrArg (List.take 2) r1
            rw [List.take_take, show min 2 (8 + xs.length * 16) = 2 by omega] at this
            rw [this]; unfold headL
            rw [List.append_assoc, List.append_assoc, List.append_assoc, List.take_append_of_le_length (by rw [le_length]; omega), List.take_of_length_le (by rw [le_length]; omega)]
          unfold recC
          rw [hb, num_lek _ (by omega) 2, show pw ((2 : Nat) : Int) = 65536 from pw2, ← HN.out]; omega
        rw [HN.out] at e1 e3
        have HR3 := hid r3; have HK1 := hid k1; have HCN := hid hCn; have HR2 := hid r2
        clear hd7 hl7 hf7 r1 r2 r3 k1 k2 k3 hCn hS1 e2 e4
        by_cases p1 : at_ < 2
        · have d2 : decide (at_ < 2) = true := by simp; omega
          go_wp2_with fail
          refine (alive_any _).mono ?_
          rintro e y1 ⟨rfl, by1⟩
          go_wp2_with fail
          go_ret
          exact ⟨rfl, Bt HB7.out by1⟩
        · have d2 : decide (at_ < 2) = false := by simp; omega
          by_cases p2 : 8 + 16 * (n : Int) ≤ at_
          · have d3 : decide (8 + 16 * (n : Int) ≤ at_) = true := by simp; omega
            go_wp2_with fail
            refine (alive_any _).mono ?_
            rintro e y1 ⟨rfl, by1⟩
            go_wp2_with fail
            go_ret
            exact ⟨rfl, Bt HB7.out by1⟩
          · have d3 : decide (8 + 16 * (n : Int) ≤ at_) = false := by simp; omega
            have q3 : IntKind.i64.wrap (16 + at_) = 16 + at_ := by rw [IntKind.wrap_i64]; omega
            have hal : at_ < 72 := by omega
            obtain ⟨i, hi⟩ : ∃ i : Nat, (i : Int) = at_ := ⟨at_.toNat, by omega⟩
            subst hi
            have hiS : 16 + i < S1.length := by rw [HR3.out]; omega
            obtain ⟨c1, hc1⟩ : ∃ c1, c1 = S1[16 + i] := ⟨_, rfl⟩
            have hrd1 : (S1.drop (16 + (i : Int)).toNat).take (1 : Int).toNat = [c1] := by
              rw [show (16 + (i : Int)).toNat = 16 + i by omega, show (1 : Int).toNat = 1 from rfl, List.drop_eq_getElem_cons hiS, List.take_succ_cons, List.take_zero, hc1]
            have HRD1 := hid hrd1
            have he1 : hE S1.length (16 + (i : Int)) 1 = 0 := by rw [HR3.out]; unfold hE; rw [if_neg (by omega), if_neg (by omega)]
            have HE1 := hid he1
            have hi16 : I64 (16 + (i : Int)) := i64_iff.2 (by omega)
            have HI16 := hid hi16
            have hno : recOk 20 2 9 (recB (setL S1 (16 + (i : Int)).toNat [c1 ^^^ t]) 2 9) = false := by
              have e : recB (setL S1 (16 + (i : Int)).toNat [c1 ^^^ t]) 2 9 = (recB S1 2 9).set i (c1 ^^^ t) := by
                refine List.ext_getElem? fun j => ?_
                by_cases hj : j < 72
                · unfold recB
                  rw [List.getElem?_take_of_lt (by omega), List.getElem?_drop, setL_get _ _ _ (by simp; omega)]
                  by_cases hji : j = i
                  · subst hji
                    rw [if_pos (by simp; omega), List.getElem?_set_self (by rw [List.length_take, List.length_drop, HR3.out]; omega)]
                    have : ((2 : Int) * 8).toNat + j - (16 + (j : Int)).toNat = 0 := by omega
                    rw [this]; rfl
                  · rw [if_neg (by simp; omega), List.getElem?_set_ne (by omega), List.getElem?_take_of_lt (by omega), List.getElem?_drop]
                · rw [List.getElem?_eq_none (by unfold recB; rw [List.length_take]; omega), List.getElem?_eq_none (by rw [List.length_set, HR2.out]; omega)]
              rw [e]
              refine torn HK1.out (by omega) (by rw [HCN.out]; omega) (by rw [HR2.out]; omega) ?_
              intro ee
              have e5 : (recB S1 2 9)[i]'(by rw [HR2.out]; omega) = c1 := by
                unfold recB
                rw [List.getElem_take, List.getElem_drop, hc1]
                rfl
              rw [e5] at ee
              have : t = 0 := by
                have h5 : c1 ^^^ (c1 ^^^ t) = c1 ^^^ c1 := by rw [ee]
                rw [← UInt8.xor_assoc, UInt8.xor_self, UInt8.zero_xor] at h5
                exact h5
              exact htz this
            have HNO := hid hno
            clear hno hrd1 he1 hi16 p1 p2 htz hc1
            have HX := hid (xor_u84 c1 t)
            go_wp2_with fail
            refine (read_ok (S := S1) HD7.out (16 + (i : Int)) 1 HI16.out (i64_iff.2 (by decide)) HE1.out).mono ?_
            rintro e w8 ⟨v8, rfl, ho8, hb8⟩
            rw [HRD1.out] at ho8
            obtain ⟨q8, c8, cs8, rfl, g1, g2, g3, g4, g5⟩ := own_at ho8 (by simp)
            have k0 : w8.cell? ⟨q8, 0, none⟩ = some (.int .u8 (c1.toNat : Int)) := by rw [row_cell g4]; exact g5 0 (by simp)
            have hc81 : 1 ≤ c8 := g2
            have HB8 := hid (Bt HB7.out hb8)
            have HD8 : Hid (DevS w8 w.heap.size d g 160 lb fb (cl S1)) := Dev.on HD7.out hb8
            rw [show ([c1] : List UInt8).length = 1 from rfl]
            clear ho8 g1 g2 g3 g4 g5 hb8
            go_wp2_with fail
            rw [HX.out]
            obtain ⟨w9, hw9⟩ : ∃ w9, w9 = w8.alloc (.cells #[.int .u8 ((c1 ^^^ t).toNat : Int)] 5) := ⟨_, rfl⟩
            have hb9 : Below w8.heap.size w8 w9 := by rw [hw9]; exact B1 _ _
            have hq9 : w9.heap[w8.heap.size]? = some (.cells #[.int .u8 ((c1 ^^^ t).toNat : Int)] 5 (0, 0)) := by rw [hw9]; exact heap_alloc_new _ _
            have hr9 : Rd w9 w9.heap.size (some ⟨w8.heap.size, 0, none⟩) 1 1 [c1 ^^^ t] := ⟨rfl, Nat.le_refl _, by simp [maxLen], (fun h => by cases h), fun _ => ⟨w8.heap.size, 0, rfl, row_lt hq9, fun j hj => by
              have : j = 0 := by simp at hj; omega
              subst this
              rw [row_cell hq9]; rfl⟩⟩
            rw [← hw9]
            have HR9 := hid hr9
            have HD9 : Hid (DevS w9 w.heap.size d g 160 lb fb (cl S1)) := Dev.on HD8.out hb9
            have HB9 := hid (Bt HB8.out hb9)
            clear hw9 hq9 hr9 hb9
            refine (write_ok (S := S1) HD9.out (16 + (i : Int)) HI16.out HR9.out HE1.out).mono ?_
            rintro e w10 ⟨rfl, hd10, hf10⟩
            obtain ⟨D10, hD10⟩ : ∃ D10 : DS, D10 = ⟨setL S1 (16 + (i : Int)).toNat [c1 ^^^ t], wrL S1 (cl S1).L (spA (16 + (i : Int)) (1 : Nat)) (spB (16 + (i : Int)) (1 : Nat)), wrF (cl S1).F (spA (16 + (i : Int)) (1 : Nat)) (spB (16 + (i : Int)) (1 : Nat))⟩ := ⟨_, rfl⟩
            have HD10 : Hid (Dev w10 w.heap.size d g 160 lb fb D10.S D10.L D10.F) := by rw [hD10]; exact hd10
            have HDS : Hid (D10.S = setL S1 (16 + (i : Int)).toNat [c1 ^^^ t] ∧ D10.S.length = 160) := by
              rw [hD10]; exact ⟨rfl, by rw [setL_length _ _ _ (by simp; omega)]; exact HR3.out⟩
            have HB10 := hid (HB9.out.trans (Dev.below HD9.out hf10))
            clear hd10 hf10 hD10
            go_wp2_with fail
            refine (bytes_any HD10.out).mono ?_
            rintro e y2 ⟨v2, rfl, ho2, by2⟩
            obtain ⟨A2, c2, rfl, hr2⟩ := ho2.rd
            have hcv2 := hr2.conv
            clear ho2 hr2
            go_wp2_with fail
            refine (recover_none (n := 20) (HD10.out.on by2) (by rw [HDS.out.2]; rfl) b20.2.2 (by rw [HDS.out.1]; exact HNO.out)).mono ?_
            rintro e y3 ⟨rfl, by3⟩
            go_wp2_with fail
            refine (alive_any _).mono ?_
            rintro e y4 ⟨rfl, by4⟩
            go_wp2_with fail
            refine (bytes_any ((HD10.out.on (Bt by2 by3)).on by4)).mono ?_
            rintro e y5 ⟨v5, rfl, ho5, by5⟩
            obtain ⟨A5, c5, rfl, hr5⟩ := ho5.rd
            have hcv5 := hr5.conv
            clear ho5 hr5
            go_wp2_with fail
            go_ret
            exact ⟨rfl, Bt (Bt (Bt (Bt HB10.out by2) by3) by4) by5⟩
      · have hz2 : (er == 0) = false := by rw [beq_eq_false_iff_ne]; exact hz
        clear hd7 hl7 hf7
        go_wp2_with fail
        refine (alive_any _).mono ?_
        rintro e y1 ⟨rfl, by1⟩
        go_wp2_with fail
        go_ret
        exact ⟨rfl, Bt HB7.out by1⟩
end Go.Proofs.Ytpmljbcgaeodjaa
