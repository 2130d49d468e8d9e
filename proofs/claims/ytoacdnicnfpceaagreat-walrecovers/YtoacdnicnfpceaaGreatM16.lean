/-
  The document's answer for layer 4: Recover.
  wal: what a recovery leaves is left by another one: mathematics.
-/
import Derived.Test.YtoacdnicnfpceaaGreatM15

namespace Go.Proofs.YtoacdnicnfpceaaGreat
open Go.RowKit Go.Maps Go.Shelf
set_option linter.unusedVariables false

def putO (a : Int) (A : Option Addr) (c : Nat) (l : List UInt8) : OpV := ⟨0, 8 * a, 0, A, l.length, c, l, none, 0, 0, []⟩
def flO (a m : Int) : OpV := ⟨2, 8 * a, 8 * m, none, 0, 0, [], none, 0, 0, []⟩
def feO : OpV := ⟨3, 0, 0, none, 0, 0, [], none, 0, 0, []⟩
theorem opD_put {D : DS} {a : Int} {A : Option Addr} {c : Nat} {l : List UInt8} (h : (Stp.wr a l).ok D.S.length) : opD D (putO a A c l) = (Stp.wr a l).on D := by
  obtain ⟨h0, h1, h2⟩ := h
  have he : hE D.S.length (8 * a) l.length = 0 := by unfold hE; rw [if_neg (by omega), if_neg (by omega)]
  have ea : spA (8 * a) (l.length : Int) = a := by unfold spA; rw [if_neg (by omega)]; omega
  have eb : spB (8 * a) (l.length : Int) = a + 1 := by unfold spB; rw [if_neg (by omega)]; omega
  unfold opD putO
  simp only [if_true, he, ea, eb]
  show (⟨_, _, _⟩ : DS) = ⟨_, _, _⟩
  rw [show (8 * a).toNat = (a * 8).toNat by omega]
theorem opD_fl {D : DS} {a m : Int} (h : (Stp.fl a m).ok D.S.length) : opD D (flO a m) = (Stp.fl a m).on D := by
  obtain ⟨h0, h1, h2⟩ := h
  have he : hE D.S.length (8 * a) (8 * m) = 0 := by unfold hE; rw [if_neg (by omega), if_neg (by omega)]
  have ea : spA (8 * a) (8 * m) = a := by unfold spA; rw [if_neg (by omega)]; omega
  have eb : spB (8 * a) (8 * m) = a + m := by unfold spB; rw [if_neg (by omega)]; omega
  unfold opD flO
  simp only [if_true, he, ea, eb]
  rw [if_neg (by simp)]
  rfl
theorem opD_fe {D : DS} : opD D feO = Stp.fe.on D := by
  unfold opD feO
  rw [if_neg (by simp), if_neg (by simp), if_pos rfl]
  rfl
theorem put_ok {w : World} {a : Int} {A : Option Addr} {c : Nat} {l : List UInt8} (h0 : 0 ≤ a) (h1 : a ≤ 8192) (hr : Rd w w.heap.size A l.length c l) : (putO a A c l).ok w w.heap.size :=
  ⟨i64_iff.2 (by simp [putO]), i64_iff.2 (by simp [putO]; omega), i64_iff.2 (by simp [putO]), hr, RdI.nil _ _⟩
theorem fl_ok {w : World} {a m : Int} (h0 : 0 ≤ a) (h1 : a ≤ 8192) (h2 : 0 ≤ m) (h3 : m ≤ 8192) : (flO a m).ok w w.heap.size :=
  ⟨i64_iff.2 (by simp [flO]), i64_iff.2 (by simp [flO]; omega), i64_iff.2 (by simp [flO]; omega), Rd.nil _ _, RdI.nil _ _⟩
theorem fe_ok {w : World} : feO.ok w w.heap.size := ⟨i64_iff.2 (by simp [feO]), i64_iff.2 (by simp [feO]), i64_iff.2 (by simp [feO]), Rd.nil _ _, RdI.nil _ _⟩
theorem step_good {D : DS} {s : Stp} (hg : D.good) (h : s.ok D.S.length) : (s.on D).good := by
  have hl := Stp.on_length h
  refine ⟨by rw [hl]; exact hg.len, fun k x hx => ?_⟩
  rw [hl]
  cases s with
  | wr a l =>
    obtain ⟨h0, h1, h2⟩ := h
    have hx : wrL D.S D.L a (a + 1) k = some x := hx
    unfold wrL at hx
    by_cases c : a ≤ k ∧ k < a + 1
    · rw [if_pos c] at hx
      refine ⟨by omega, by omega, ?_⟩
      cases hx
      cases e : D.L k with
      | none => exact wordOf_length (by omega) (by omega)
      | some y => exact (hg.keyL k y e).2.2
    · rw [if_neg c] at hx; exact hg.keyL k x hx
  | fl a m => exact hg.keyL k x hx
  | fe =>
    have hx : feL D.L D.F k = some x := hx
    unfold feL at hx
    split at hx
    · cases hx
    · exact hg.keyL k x hx

theorem bringP_take2 {xs : List (Int × Int)} {k : Nat} {x : Int × Int} (h : xs[k]? = some x) : bringP (xs.take (k + 1)) = bringP (xs.take k) ++ [.wr x.1 (le x.2 8), .fl x.1 1] := by
  unfold bringP; rw [List.take_add_one, h]; simp [setS]
theorem runS_snoc (D : DS) (ss : List Stp) (s : Stp) : runS D (ss ++ [s]) = s.on (runS D ss) := by unfold runS; rw [List.foldl_append]; rfl
theorem runS_two (D : DS) (ss : List Stp) (s t : Stp) : runS D (ss ++ [s, t]) = t.on (s.on (runS D ss)) := by unfold runS; rw [List.foldl_append]; rfl
def RevPost (w : World) (base : Nat) (D' : DS) (q : Int) (e : Ending) (w' : World) : Prop := ∃ v, e = .returned (.tuple #[v, .int .i64 q]) ∧ OwW w' base v (wordsOf D') ∧ Below w.heap.size w w'
set_option maxRecDepth 20000 in
set_option maxHeartbeats 8000000 in
theorem rrecover_any {w : World} {base : Nat} {v : Value} {D : DS} (ho : OwW w base v (wordsOf D)) (hb : base ≤ w.heap.size) (hg : D.good) {at_ words n : Int} (hn : n = (D.S.length : Int) / 8) (he : rgE n at_ words = 0) :
    Calls Tryz.prog 19 #[v, .agg #[.int .i64 at_, .int .i64 words]] w (RevPost w base (if recOk n at_ words (recB D.S at_ words) = true then runS D (bringS (setsL (recY (recB D.S at_ words)))) else D) (seqOf n at_ words D.S)) := by
  obtain ⟨h0, h1, h2⟩ := rgE_ok he
  obtain ⟨A, c, rfl, hr⟩ := ho.rd
  generalize hN : (wordsOf D).length = N at hr
  rw [wordsOf_length] at hN
  have hnN : n = (N : Int) := by omega
  subst hnN
  have hl8 : (wordsOf D).length = N := by rw [wordsOf_length]; exact hN
  rw [hl8] at ho
  obtain ⟨R, hR⟩ : ∃ R, R = recOk (N : Int) at_ words (recB D.S at_ words) := ⟨_, rfl⟩
  obtain ⟨Q, hQ⟩ : ∃ Q, Q = recQ (recB D.S at_ words) := ⟨_, rfl⟩
  obtain ⟨xs, hxs⟩ : ∃ xs, xs = setsL (recY (recB D.S at_ words)) := ⟨_, rfl⟩
  have hsq : seqOf (N : Int) at_ words D.S = if R = true then Q else 0 := by unfold seqOf; rw [← hR, ← hQ]
  have HH : Hid (∀ w', Below w.heap.size w w' → Calls Tryz.prog 9 #[.slice A N c, .agg #[.int .i64 at_, .int .i64 words]] w' (HasPost R w' Q xs)) := fun w' h => by
    rw [hR, hQ, hxs]; exact rhas4_any (hr.on h) hg h0 h1 h2
  have HQlt : Hid (Q < 4294967296) := by rw [hQ]; exact (recQ_lt _).1
  have HRx : Hid (R = true → 1 ≤ Q ∧ xs.all (mayB (N : Int) at_ words) = true) := fun hRt => by
    rw [hR] at hRt
    unfold recOk at hRt
    simp only [Bool.and_eq_true, decide_eq_true_eq] at hRt
    rw [hQ, hxs]; exact ⟨hRt.1.1.1.2, hRt.2⟩
  have HXOK : Hid (∀ x ∈ xs, I64 x.1 ∧ U64 x.2) := by rw [hxs]; exact setsL_ok _
  have HXL : Hid (xs.length ≤ 10000) := by
    show _ ≤ _; rw [hxs, setsL_length]; unfold recY recB; simp only [List.length_take, List.length_drop]; have := hg.len.2; omega
  rw [← hR, ← hxs, hsq]
  have HO := hid ho; have HBS := hid hb; have HG := hid hg; have HNN : Hid ((D.S.length : Int) = (N : Int) * 8) := by show _ = _; have := hg.len.1; omega
  have HN8 : Hid (N ≤ 8192) := by show _ ≤ _; have := hg.len.2; omega
  clear ho hb hg hr hR hQ hxs hsq hN hn he h0 h1 h2 hl8
  obtain ⟨w1, hw1⟩ : ∃ w1, w1 = w.alloc (.cells #[.int .i64 at_, .int .i64 words] 25) := ⟨_, rfl⟩
  have HW1 := hid hw1
  have HB1 : Hid (Below w.heap.size w w1) := by rw [hw1]; exact B1 _ _
  clear hw1
  cases R with
  | false =>
    rw [if_neg (by simp), if_neg (by simp)]
    go_enter Tryz.func19, Tryz.ntmps19
    go_wp2_with fail
    rw [← HW1.out]
    refine (HH.out w1 HB1.out).mono ?_
    rintro e w2 ⟨hp, hb2⟩
    rw [if_neg (by simp)] at hp
    subst hp
    have HB2 := hid (Bt HB1.out hb2); clear hb2
    go_wp2_with fail
    go_loopw [0, 8] (fun v i wr => v = .slice A N c ∧ i = .int .i64 0 ∧ Hid (wr = w2)) (fun _ _ _ => 0)
    case atStart => exact ⟨rfl, rfl, hid rfl⟩
    case round =>
      obtain ⟨rfl, rfl, HW⟩ := hrel
      obtain rfl : wr = w2 := HW.out
      go_wp2_with fail
      go_ret2
      exact ⟨_, rfl, HO.out.on HB2.out, HB2.out⟩
  | true =>
    rw [if_pos rfl, if_pos rfl]
    go_enter Tryz.func19, Tryz.ntmps19
    go_wp2_with fail
    rw [← HW1.out]
    refine (HH.out w1 HB1.out).mono ?_
    rintro e w2 ⟨hp, hb2⟩
    rw [if_pos rfl] at hp
    obtain ⟨v2, rfl, ho2⟩ := hp
    obtain ⟨As, cs, rfl⟩ := ho2.shape
    obtain ⟨M, hM⟩ : ∃ M, M = xs.length := ⟨_, rfl⟩
    rw [← hM] at ho2 ⊢
    obtain ⟨hrd, hjunk⟩ := ho2.rd HXOK.out
    have HRD := hid hrd; have HMM := hid hM
    have HB2 := hid (Bt HB1.out hb2)
    clear hjunk hrd ho2 hM hb2
    have HMi : (M : Int) ≤ 10000 := by have := HXL.out; have := HMM.out; omega
    obtain ⟨hQ1, hall⟩ := HRx.out (by first | rfl | trivial)
    have HALL := hid hall
    have dq : decide ((0 : Int) < (Q : Int)) = true := by simp; omega
    clear hall
    go_wp2_with fail
    go_loopw [0, 8] (fun v i wr => ∃ (k : Nat) (D' : DS), k ≤ M ∧ i = .int .i64 k ∧ Hid (OwW wr base v (wordsOf D')) ∧ Hid (D' = runS D (bringP (xs.take k))) ∧ Hid D'.good ∧ Hid (D'.S.length = D.S.length) ∧ Hid (Below w2.heap.size w2 wr)) (fun _ i _ => M - (intOf i).toNat)
    case atStart => exact ⟨0, D, by omega, rfl, hid (HO.out.on HB2.out), hid rfl, HG, hid rfl, hid (Below.refl _ _)⟩
    case round =>
      obtain ⟨k, D', hk, rfl, HOk, HDk, HGk, HLk, HBk⟩ := hrel
      have HBW := hid (Bt HB2.out HBk.out)
      by_cases hlt : k < M
      · have hkl : k < xs.length := by have := HMM.out; omega
        obtain ⟨b, off, rfl, hbl, hc⟩ := HRD.out.2.2.2.2 (by omega)
        obtain ⟨x, hx⟩ : ∃ x, x = xs[k] := ⟨_, rfl⟩
        have HXk : Hid (xs[k]? = some x) := by show _ = _; rw [hx]; exact List.getElem?_eq_getElem hkl
        have hxm : x ∈ xs := by rw [hx]; exact List.getElem_mem _
        have hx64 := HXOK.out x hxm
        have hmx := List.all_eq_true.1 HALL.out x hxm
        unfold mayB at hmx
        simp only [Bool.and_eq_true, decide_eq_true_eq] at hmx
        obtain ⟨⟨hx0, hx1⟩, _⟩ := hmx
        have hc1 := (hc k hkl).1; have hc2 := (hc k hkl).2
        rw [← hx] at hc1 hc2
        have HC1 : Hid (∀ w', Below w2.heap.size w2 w' → w'.cell? ⟨b, off + k * 2, none⟩ = some (.int .i64 x.1)) := fun w' h => (h.cell (p := ⟨b, off + k * 2, none⟩) hbl).trans hc1
        have HC2 : Hid (∀ w', Below w2.heap.size w2 w' → w'.cell? ⟨b, off + k * 2 + 1, none⟩ = some (.int .u64 x.2)) := fun w' h => (h.cell (p := ⟨b, off + k * 2 + 1, none⟩) hbl).trans hc2
        have HU2 := hid hx64.2
        have hx8 : x.1 ≤ 8192 := by have := HN8.out; omega
        have HOK1 : Hid ((Stp.wr x.1 (le x.2 8)).ok D'.S.length) := ⟨hx0, by have := HLk.out; have := HNN.out; omega, le_length _ _⟩
        have HOK2 : Hid ((Stp.fl x.1 1).ok ((Stp.wr x.1 (le x.2 8)).on D').S.length) := ⟨hx0, by omega, by have h3 := Stp.on_length HOK1.out; have := HLk.out; have := HNN.out; omega⟩
        have HG1 := hid (step_good HGk.out HOK1.out)
        have HG2 := hid (step_good HG1.out HOK2.out)
        have HL2 : Hid (((Stp.fl x.1 1).on ((Stp.wr x.1 (le x.2 8)).on D')).S.length = D.S.length) := by show _ = _; rw [Stp.on_length HOK2.out, Stp.on_length HOK1.out]; exact HLk.out
        have HD2 : Hid ((Stp.fl x.1 1).on ((Stp.wr x.1 (le x.2 8)).on D') = runS D (bringP (xs.take (k + 1)))) := by show _ = _; rw [bringP_take2 HXk.out, runS_two, ← HDk.out]
        have hk0 : (0 : Int) ≤ k := by omega
        have hkn : (k : Int) < M := by omega
        have htk : ((k : Int)).toNat = k := by omega
        clear hx hc hxm hx64 hc1 hc2 hx1
        have hbz := HBk.out.size
        go_wp2_with fail
        refine reg_begin (by kernel_rfl) (fun w0a hx0a hHeld => ?_)
        have p1 : ∀ w', Ext w0a w' → w'.cell? ⟨b, off + k * 2, none⟩ = some (.int .i64 x.1) := fun w' h => HC1.out w' (HBk.out.trans ((hx0a.trans h).mono hbz))
        have p2 : ∀ w', Ext w0a w' → w'.cell? ⟨b, off + k * 2 + 1, none⟩ = some (.int .u64 x.2) := fun w' h => HC2.out w' (HBk.out.trans ((hx0a.trans h).mono hbz))
        refine reg_take 0 (v := ?vb0) at0 (by kernel_rfl) (by kernel_rfl) (by kernel_rfl) (by rfl) ?hyb0 hHeld ?restb0
        case hyb0 => (intro w' hSw; go_simp; try with_reducible rfl)
        try simp only [Act.put, List.setIfInBounds_toArray, List.set_cons_zero, List.set_cons_succ]
        refine reg_take 1 (v := ?vb1) (atS at0) (by kernel_rfl) (by kernel_rfl) (by kernel_rfl) (by rfl) ?hyb1 hHeld ?restb1
        case hyb1 => (intro w' hSw; go_simp; try with_reducible rfl)
        try simp only [Act.put, List.setIfInBounds_toArray, List.set_cons_zero, List.set_cons_succ]
        refine reg_take 2 (v := ?vb2) (atS (atS at0)) (by kernel_rfl) (by kernel_rfl) (by kernel_rfl) (by rfl) ?hyb2 hHeld ?restb2
        case hyb2 => (intro w' hSw; go_simp; try with_reducible rfl)
        try simp only [Act.put, List.setIfInBounds_toArray, List.set_cons_zero, List.set_cons_succ]
        refine reg_take 3 (v := ?vb3) (atS (atS (atS at0))) (by kernel_rfl) (by kernel_rfl) (by kernel_rfl) (by rfl) ?hyb3 hHeld ?restb3
        case hyb3 => (intro w' hSw; go_simp; try with_reducible rfl)
        try simp only [Act.put, List.setIfInBounds_toArray, List.set_cons_zero, List.set_cons_succ]
        refine reg_take 4 (v := ?vb4) (atS (atS (atS (atS at0)))) (by kernel_rfl) (by kernel_rfl) (by kernel_rfl) (by rfl) ?hyb4 hHeld ?restb4
        case hyb4 => (intro w' hSw; go_simp; try with_reducible rfl)
        try simp only [Act.put, List.setIfInBounds_toArray, List.set_cons_zero, List.set_cons_succ]
        refine reg_take 5 (v := ?vb5) (atS5 at0) (by kernel_rfl) (by kernel_rfl) (by kernel_rfl) (by rfl) ?hyb5 hHeld ?restb5
        case hyb5 => (intro w' hSw; go_simp; try with_reducible rfl)
        try simp only [Act.put, List.setIfInBounds_toArray, List.set_cons_zero, List.set_cons_succ]
        refine reg_take 6 (v := ?vb6) (atS5 (atS at0)) (by kernel_rfl) (by kernel_rfl) (by kernel_rfl) (by rfl) ?hyb6 hHeld ?restb6
        case hyb6 => (intro w' hSw; go_simp; try with_reducible rfl)
        try simp only [Act.put, List.setIfInBounds_toArray, List.set_cons_zero, List.set_cons_succ]
        refine reg_take 7 (v := ?vb7) (atS5 (atS (atS at0))) (by kernel_rfl) (by kernel_rfl) (by kernel_rfl) (by rfl) ?hyb7 hHeld ?restb7
        case hyb7 => (intro w' hSw; go_simp; try with_reducible rfl)
        try simp only [Act.put, List.setIfInBounds_toArray, List.set_cons_zero, List.set_cons_succ]
        refine reg_take 8 (v := ?vb8) (atS5 (atS (atS (atS at0)))) (by kernel_rfl) (by kernel_rfl) (by kernel_rfl) (by rfl) ?hyb8 hHeld ?restb8
        case hyb8 => (intro w' hSw; go_simp; try with_reducible rfl)
        try simp only [Act.put, List.setIfInBounds_toArray, List.set_cons_zero, List.set_cons_succ]
        refine reg_take 9 (v := ?vb9) (atS5 (atS (atS (atS (atS at0))))) (by kernel_rfl) (by kernel_rfl) (by kernel_rfl) (by rfl) ?hyb9 hHeld ?restb9
        case hyb9 => (intro w' hSw; go_simp; try with_reducible rfl)
        try simp only [Act.put, List.setIfInBounds_toArray, List.set_cons_zero, List.set_cons_succ]
        refine reg_take 10 (v := ?vb10) (atS5 (atS5 at0)) (by kernel_rfl) (by kernel_rfl) (by kernel_rfl) (by rfl) ?hyb10 hHeld ?restb10
        case hyb10 => (intro w' hSw; go_simp; try with_reducible rfl)
        try simp only [Act.put, List.setIfInBounds_toArray, List.set_cons_zero, List.set_cons_succ]
        refine wpAnyH_ready (rs := [11]) (by kernel_rfl) (by simp) ?_
        refine AllReadyH.cons (atS5 (atS5 (atS at0))) (fun K hK => ?_) AllReadyH.nil
        go_simp
        refine (rput_any 8 x.2 _ HU2.out).mono ?_
        rintro e w3 ⟨rfl, hb3⟩
        rw [rput8 _ HU2.out]
        have HB3 := hid hb3
        go_wp2_with fail
        refine hK.out _ _ HB3.out (fun hHeld => ?_)
        clear hK K
        try simp only [Act.put, List.setIfInBounds_toArray, List.set_cons_zero, List.set_cons_succ]
        refine reg_on HB3.out (fun hHeld => ?_)
        refine wpAnyH_ready (rs := [12]) (by kernel_rfl) (by simp) ?_
        refine AllReadyH.cons (atS5 (atS5 (atS (atS at0)))) (fun K hK => ?_) AllReadyH.nil
        go_simp
        refine (rputop_any x.1 hx0 hx8 (le x.2 8) (by rw [le_length]; omega)).mono ?_
        rintro e w4 ⟨A4, c4, rfl, hr4, hb4⟩
        have HR4 := hid hr4; have HB4 := hid hb4
        go_wp2_with fail
        refine hK.out _ _ HB4.out (fun hHeld => ?_)
        clear hK K
        try simp only [Act.put, List.setIfInBounds_toArray, List.set_cons_zero, List.set_cons_succ]
        refine reg_on HB4.out (fun hHeld => ?_)
        refine wpAnyH_ready (rs := [13]) (by kernel_rfl) (by simp) ?_
        refine AllReadyH.cons (atS5 (atS5 (atS (atS (atS at0))))) (fun K hK => ?_) AllReadyH.nil
        go_simp
        refine (do_any HGk.out (HOk.out.on (Bt (Bt hx0a HB3.out) HB4.out)) (Nat.le_trans (Nat.le_trans HBS.out HBW.out.size) (Bt (Bt hx0a HB3.out) HB4.out).size) (putO x.1 A4 c4 (le x.2 8)) (put_ok hx0 hx8 HR4.out) (by simp [putO])).mono ?_
        rintro e w5 ⟨v5, er5, rfl, ho5, hb5⟩
        rw [opD_put HOK1.out] at ho5
        have HO5 := hid ho5; have HB5 := hid hb5
        go_wp2_with fail
        refine hK.out _ _ HB5.out (fun hHeld => ?_)
        clear hK K
        try simp only [Act.put, List.setIfInBounds_toArray, List.set_cons_zero, List.set_cons_succ]
        refine reg_on HB5.out (fun hHeld => ?_)
        refine reg_take 14 (v := ?vb14) (atS5 (atS5 (atS (atS (atS (atS at0)))))) (by kernel_rfl) (by kernel_rfl) (by kernel_rfl) (by rfl) ?hyb14 hHeld ?restb14
        case hyb14 => (intro w' hSw; go_simp; try with_reducible rfl)
        try simp only [Act.put, List.setIfInBounds_toArray, List.set_cons_zero, List.set_cons_succ]
        refine reg_take 15 (v := ?vb15) (atS5 (atS5 (atS5 at0))) (by kernel_rfl) (by kernel_rfl) (by kernel_rfl) (by rfl) ?hyb15 hHeld ?restb15
        case hyb15 => (intro w' hSw; go_simp; try with_reducible rfl)
        try simp only [Act.put, List.setIfInBounds_toArray, List.set_cons_zero, List.set_cons_succ]
        refine reg_take 16 (v := ?vb16) (atS5 (atS5 (atS5 (atS at0)))) (by kernel_rfl) (by kernel_rfl) (by kernel_rfl) (by rfl) ?hyb16 hHeld ?restb16
        case hyb16 => (intro w' hSw; go_simp; try with_reducible rfl)
        try simp only [Act.put, List.setIfInBounds_toArray, List.set_cons_zero, List.set_cons_succ]
        refine reg_take 17 (v := ?vb17) (atS5 (atS5 (atS5 (atS (atS at0))))) (by kernel_rfl) (by kernel_rfl) (by kernel_rfl) (by rfl) ?hyb17 hHeld ?restb17
        case hyb17 => (intro w' hSw; go_simp; try with_reducible rfl)
        try simp only [Act.put, List.setIfInBounds_toArray, List.set_cons_zero, List.set_cons_succ]
        refine reg_take 18 (v := ?vb18) (atS5 (atS5 (atS5 (atS (atS (atS at0)))))) (by kernel_rfl) (by kernel_rfl) (by kernel_rfl) (by rfl) ?hyb18 hHeld ?restb18
        case hyb18 => (intro w' hSw; go_simp; try with_reducible rfl)
        try simp only [Act.put, List.setIfInBounds_toArray, List.set_cons_zero, List.set_cons_succ]
        refine reg_take 19 (v := ?vb19) (atS5 (atS5 (atS5 (atS (atS (atS (atS at0))))))) (by kernel_rfl) (by kernel_rfl) (by kernel_rfl) (by rfl) ?hyb19 hHeld ?restb19
        case hyb19 => (intro w' hSw; go_simp; try with_reducible rfl)
        try simp only [Act.put, List.setIfInBounds_toArray, List.set_cons_zero, List.set_cons_succ]
        refine reg_take 20 (v := ?vb20) (atS5 (atS5 (atS5 (atS5 at0)))) (by kernel_rfl) (by kernel_rfl) (by kernel_rfl) (by rfl) ?hyb20 hHeld ?restb20
        case hyb20 => (intro w' hSw; go_simp; try with_reducible rfl)
        try simp only [Act.put, List.setIfInBounds_toArray, List.set_cons_zero, List.set_cons_succ]
        refine wpAnyH_done (by kernel_rfl) ?_ _
        refine NoPanic.normal ?_
        clear p1 p2
        have HBx5 := hid (HBk.out.trans ((Bt (Bt (Bt hx0a HB3.out) HB4.out) HB5.out).mono hbz))
        have p1 := HC1.out w5 HBx5.out
        go_wp2_with fail
        refine (rflop_any x.1 1 hx0 hx8 (by omega) (by omega)).mono ?_
        rintro e w6 ⟨rfl, hb6⟩
        have HB6 := hid hb6
        have HBx6 := hid (HBx5.out.trans (hb6.mono HBx5.out.size))
        clear hb6 p1
        go_wp2_with fail
        refine (do_any HG1.out (HO5.out.on HB6.out) (Nat.le_trans (Nat.le_trans HBS.out HB2.out.size) HBx6.out.size) (flO x.1 1) (fl_ok hx0 hx8 (by omega) (by omega)) (by simp [flO])).mono ?_
        rintro e w7 ⟨v7, er7, rfl, ho7, hb7⟩
        rw [opD_fl HOK2.out] at ho7
        have HO7 := hid ho7
        have HB7 := hid (HBx6.out.trans (hb7.mono HBx6.out.size))
        clear ho7 hb7
        go_wp2_with fail
        exact ⟨⟨k + 1, _, by omega, by go_num, HO7, HD2, HG2, HL2, HB7⟩, by simp [intOf]; omega⟩
      · obtain rfl : k = M := by omega
        have et : xs.take k = xs := by rw [HMM.out]; exact List.take_length
        rw [et] at HDk
        clear et
        go_wp2_with fail
        refine (do_any HGk.out HOk.out (Nat.le_trans HBS.out HBW.out.size) feO fe_ok (by simp [feO])).mono ?_
        rintro e w7 ⟨v7, er7, rfl, ho7, hb7⟩
        rw [opD_fe, HDk.out] at ho7
        have HO7 : Hid (OwW w7 base v7 (wordsOf (runS D (bringS xs)))) := by unfold bringS; rw [runS_snoc]; exact ho7
        have HB7 := hid (Bt HBW.out hb7)
        clear ho7 hb7
        go_wp2_with fail
        go_ret2
        exact ⟨_, rfl, HO7.out, HB7.out⟩
end Go.Proofs.YtoacdnicnfpceaaGreat

namespace Go.Proofs.YtoacdnicnfpceaaGreat
open Go.RowKit Go.Maps Go.Shelf
set_option linter.unusedVariables false

theorem bring_get : ∀ {xs : List (Int × Int)} {S : List UInt8} {i : Nat}, okX S.length xs → (∀ x ∈ xs, ¬ (x.1 * 8 ≤ i ∧ (i : Int) < x.1 * 8 + 8)) → (bringL S xs)[i]? = S[i]? := by
  intro xs
  induction xs with
  | nil => intro S i _ _; rfl
  | cons x xs ih =>
    intro S i hok hx
    have h1 := hok x (by simp)
    have hl : (setL S (x.1 * 8).toNat (le x.2 8)).length = S.length := setL_length _ _ _ (by rw [le_length]; omega)
    show (bringL (setL S (x.1 * 8).toNat (le x.2 8)) xs)[i]? = _
    rw [ih (fun y hy => by rw [hl]; exact hok y (by simp [hy])) (fun y hy => hx y (by simp [hy])), setL_get _ _ _ (by rw [le_length]; omega), if_neg]
    have := hx x (by simp)
    rw [le_length]; omega
/-- Is byte i one of the words of sets? -/
def inX (xs : List (Int × Int)) (i : Nat) : Prop := ∃ x ∈ xs, x.1 * 8 ≤ i ∧ (i : Int) < x.1 * 8 + 8
theorem bring_same : ∀ {xs : List (Int × Int)} {S S' : List UInt8}, S.length = S'.length → okX S.length xs → (∀ i : Nat, ¬ inX xs i → S[i]? = S'[i]?) → bringL S xs = bringL S' xs := by
  intro xs
  induction xs with
  | nil =>
    intro S S' _ _ h
    exact List.ext_getElem? fun i => h i (fun ⟨x, hx, _⟩ => by cases hx)
  | cons x xs ih =>
    intro S S' hl hok h
    have hx := hok x (by simp)
    have l1 : (setL S (x.1 * 8).toNat (le x.2 8)).length = S.length := setL_length _ _ _ (by rw [le_length]; omega)
    have l2 : (setL S' (x.1 * 8).toNat (le x.2 8)).length = S'.length := setL_length _ _ _ (by rw [le_length]; omega)
    refine ih (S := setL S (x.1 * 8).toNat (le x.2 8)) (S' := setL S' (x.1 * 8).toNat (le x.2 8)) (by omega) (fun y hy => by rw [l1]; exact hok y (by simp [hy])) fun i hi => ?_
    rw [setL_get _ _ _ (by rw [le_length]; omega), setL_get _ _ _ (by rw [le_length]; omega)]
    by_cases c : (x.1 * 8).toNat ≤ i ∧ i < (x.1 * 8).toNat + (le x.2 8).length
    · rw [if_pos c, if_pos c]
    · rw [if_neg c, if_neg c]
      refine h i fun ⟨y, hy, hc⟩ => ?_
      rcases List.mem_cons.1 hy with rfl | hy
      · rw [le_length] at c; omega
      · exact hi ⟨y, hy, hc⟩
theorem bring_out {xs : List (Int × Int)} {S : List UInt8} (hok : okX S.length xs) {i : Nat} (h : ¬ inX xs i) : (bringL S xs)[i]? = S[i]? := bring_get hok (fun x hx hc => h ⟨x, hx, hc⟩)
theorem bring_idem {xs : List (Int × Int)} {S : List UInt8} (hok : okX S.length xs) : bringL (bringL S xs) xs = bringL S xs :=
  bring_same (by rw [bringL_length hok]) (by rw [bringL_length hok]; exact hok) (fun i hi => bring_out hok hi)

theorem runS_bring : ∀ (xs : List (Int × Int)) (D : DS), (runS D (bringS xs)).S = bringL D.S xs := by
  have key : ∀ (xs : List (Int × Int)) (D : DS), (runS D (bringP xs)).S = bringL D.S xs := by
    intro xs
    induction xs with
    | nil => intro D; rfl
    | cons x xs ih =>
      intro D
      show (runS ((Stp.fl x.1 1).on ((Stp.wr x.1 (le x.2 8)).on D)) (bringP xs)).S = _
      rw [ih]; rfl
  intro xs D
  unfold bringS
  rw [runS_snoc]
  exact key xs D
theorem recB_get {S : List UInt8} {a m : Nat} {j : Nat} (hj : j < m * 8) : (recB S a m)[j]? = S[a * 8 + j]? := by
  unfold recB
  rw [List.getElem?_take_of_lt (by omega), List.getElem?_drop, show ((a : Int) * 8).toNat = a * 8 by omega]
theorem recB_bring {S : List UInt8} {n at_ words : Int} (hn : n = (S.length : Int) / 8) (he : rgE n at_ words = 0) {xs : List (Int × Int)} (h : xs.all (mayB n at_ words) = true) : recB (bringL S xs) at_ words = recB S at_ words := by
  obtain ⟨h0, h1, h2⟩ := rgE_ok he
  obtain ⟨a, rfl⟩ : ∃ a : Nat, (a : Int) = at_ := ⟨at_.toNat, by omega⟩
  obtain ⟨m, rfl⟩ : ∃ m : Nat, (m : Int) = words := ⟨words.toNat, by omega⟩
  have hok : okX S.length xs := may_ok hn h
  have hl : ∀ T : List UInt8, T.length = S.length → (recB T a m).length = m * 8 := fun T hT => by unfold recB; simp; omega
  refine List.ext_getElem? fun j => ?_
  by_cases hj : j < m * 8
  · rw [recB_get hj, recB_get hj]
    refine bring_out hok fun ⟨x, hx, hc⟩ => ?_
    have := List.all_eq_true.1 h x hx
    unfold mayB at this
    simp at this
    omega
  · rw [List.getElem?_eq_none (by rw [hl _ (bringL_length hok)]; omega), List.getElem?_eq_none (by rw [hl _ rfl]; omega)]
theorem recOk_all {n at_ words : Int} {b : List UInt8} (h : recOk n at_ words b = true) : (setsL (recY b)).all (mayB n at_ words) = true := by
  unfold recOk at h
  simp only [Bool.and_eq_true] at h
  exact h.2
/-- A device behind a recovery. -/
def revD (n at_ words : Int) (D : DS) : DS := if recOk n at_ words (recB D.S at_ words) = true then runS D (bringS (setsL (recY (recB D.S at_ words)))) else D
theorem revD_pos {n at_ words : Int} {D : DS} (h : recOk n at_ words (recB D.S at_ words) = true) : revD n at_ words D = runS D (bringS (setsL (recY (recB D.S at_ words)))) := by unfold revD; rw [if_pos h]
theorem rev_len {n at_ words : Int} {D : DS} (hn : n = (D.S.length : Int) / 8) : (revD n at_ words D).S.length = D.S.length := by
  unfold revD
  split
  · rename_i h
    rw [runS_bring, bringL_length (may_ok hn (recOk_all h))]
  · rfl
theorem rev_again {n at_ words : Int} {D : DS} (hn : n = (D.S.length : Int) / 8) (he : rgE n at_ words = 0) :
    recB (revD n at_ words D).S at_ words = recB D.S at_ words ∧ (revD n at_ words (revD n at_ words D)).S = (revD n at_ words D).S ∧ seqOf n at_ words (revD n at_ words D).S = seqOf n at_ words D.S := by
  have h1 : recB (revD n at_ words D).S at_ words = recB D.S at_ words := by
    unfold revD
    split
    · rename_i h
      rw [runS_bring]; exact recB_bring hn he (recOk_all h)
    · rfl
  refine ⟨h1, ?_, by unfold seqOf; rw [h1]⟩
  by_cases h : recOk n at_ words (recB D.S at_ words) = true
  · have e1 : revD n at_ words D = runS D (bringS (setsL (recY (recB D.S at_ words)))) := by unfold revD; rw [if_pos h]
    have e2 : revD n at_ words (revD n at_ words D) = runS (revD n at_ words D) (bringS (setsL (recY (recB D.S at_ words)))) := by
      have h3 : recOk n at_ words (recB (revD n at_ words D).S at_ words) = true := by rw [h1]; exact h
      have h4 := revD_pos h3
      rw [h1] at h4
      exact h4
    rw [e2, runS_bring, e1, runS_bring]
    exact bring_idem (may_ok hn (recOk_all h))
  · have e1 : revD n at_ words D = D := by unfold revD; rw [if_neg h]
    rw [e1, e1]
/-- wal.Recover on any device. -/
theorem recover_all {w : World} {B d g cap lb fb : Nat} {D : DS} (h : DevS w B d g cap lb fb D) {at_ words n : Int} (hn : n = (D.S.length : Int) / 8) (he : rgE n at_ words = 0) :
    Calls Tryz.prog 18 #[.pointer (some ⟨d, 0, none⟩), .int .i64 at_, .int .i64 words] w fun e w' => e = .returned (.tuple #[.int .i64 (seqOf n at_ words D.S), .int .i64 0]) ∧ DevS w' B d g cap lb fb (revD n at_ words D) ∧ Fr g lb fb w w' := by
  by_cases hr : recOk n at_ words (recB D.S at_ words) = true
  · refine (recover_some h hn he hr).mono ?_
    rintro e w' ⟨rfl, hd, hf⟩
    refine ⟨by unfold seqOf; rw [if_pos hr], ?_, hf⟩
    unfold revD; rw [if_pos hr]; exact hd
  · refine (recover_none h hn he (by simpa using hr)).mono ?_
    rintro e w' ⟨rfl, hb⟩
    refine ⟨by unfold seqOf; rw [if_neg hr]; rfl, ?_, (Fr.refl _ _ _ _).then hb⟩
    unfold revD; rw [if_neg hr]; exact h.on hb
end Go.Proofs.YtoacdnicnfpceaaGreat
