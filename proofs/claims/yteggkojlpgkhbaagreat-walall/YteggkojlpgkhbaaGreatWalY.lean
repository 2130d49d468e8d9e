/-
  wal: Begin, Commit.
-/
import Derived.Test.YteggkojlpgkhbaaGreatWalX
namespace Go.Proofs.YteggkojlpgkhbaaGreat
open Go.RowKit Go.Maps Go.Shelf
set_option linter.unusedVariables false

/-- What is amiss with sets. -/
def begE (n at_ words next : Int) (xs : List (Int × Int)) : Int :=
  if xs.length = 0 ∨ xs.all (mayB n at_ words) = false then 1 else if (words - 1) / 2 < xs.length ∨ 4294967295 < next then 40 else 0
/-- All steps of bringing sets. -/
def allS (at_ next : Int) (xs : List (Int × Int)) : List Stp :=
  saveS at_ (le 0 8) ++ saveS (at_ + 1) (bodyL xs) ++ saveS at_ (headL xs.length next (bodyL xs)) ++ bringS xs
/-- What Begin answers. -/
def BegPost (er : Int) (w : World) (p d : Nat) (at_ words next : Int) (xs : List (Int × Int)) (e : Ending) (w' : World) : Prop :=
  if er = 0 then ∃ v, e = .returned (.tuple #[v, .int .i64 0]) ∧ StR w' w.heap.size d w.heap.size v (allS at_ next xs) ∧ LogV w' p d at_ words (next + 1) ∧ w.grownBy w' (some p)
  else e = .returned (.tuple #[.slice none 0 0, .int .i64 er]) ∧ Below w.heap.size w w'

theorem valuesItr {w : World} {n₀ Bs n c : Nat} {A : Option Addr} {xs : List (Int × Int)} (hb : w.heap[Bs]? = some (.cells #[.slice A n c] 46 (0, 0))) (h : RdS w n₀ A n c xs) (hn0 : n₀ ≤ w.heap.size) :
    Itr w 65 #[.pointer (some ⟨Bs, 0, none⟩)] xs (Below n₀) :=
  ⟨values_iter hb h hn0, enters_of Tryz.func65 (by kernel_rfl) rfl, fun h k => belowKt h k, belowKb hn0, fun W W' h _ => h.mono hn0⟩

theorem RdS.set {w w' : World} {p d n c n₀ : Nat} {A : Option Addr} {at_ words next : Int} {xs : List (Int × Int)} (h : RdS w n₀ A n c xs) (hl : LogV w p d at_ words next) (hg : w.grownBy w' (some p)) (hn : n₀ ≤ w.heap.size) : RdS w' n₀ A n c xs := by
  refine ⟨h.1, h.2.1, h.2.2.1, h.2.2.2.1, fun h0 => ?_⟩
  obtain ⟨b, off, e, hlt, hc⟩ := h.2.2.2.2 h0
  have hne : b ≠ p := by
    intro e; subst e
    have h1 := (hc 0 (by have := h.1; omega)).2
    rw [row_cell hl] at h1
    have h5 : ∀ k : Nat, (#[Value.pointer (some ⟨d, 0, none⟩), .int .i64 at_, .int .i64 words, .int .i64 next] : Array Value)[k]? ≠ some (.int .u64 (xs[0]'(by have := h.1; omega)).2) := by
      intro k hk
      match k, hk with
      | 0, hk => cases hk
      | 1, hk => cases hk
      | 2, hk => cases hk
      | 3, hk => cases hk
      | k + 4, hk => simp at hk
    exact h5 _ h1
  exact ⟨b, off, e, hlt, fun i hi => ⟨hg.cell (hc i hi).1 (by simpa using hne), hg.cell (hc i hi).2 (by simpa using hne)⟩⟩

theorem grown_below {w w' w'' : World} {p : Nat} (h : w.grownBy w' (some p)) (hb : Below w'.heap.size w' w'') : w.grownBy w'' (some p) :=
  ⟨hb.os.trans h.os, hb.tape.trans h.tape, hb.output.trans h.output, Nat.le_trans h.size hb.size, fun k hk hne => (hb.block k (Nat.lt_of_lt_of_le hk h.size)).trans (h.block k hk hne)⟩
theorem below_grownBy {w w' w'' : World} {p : Nat} (hb : Below w.heap.size w w') (h : w'.grownBy w'' (some p)) : w.grownBy w'' (some p) :=
  ⟨h.os.trans hb.os, h.tape.trans hb.tape, h.output.trans hb.output, Nat.le_trans hb.size h.size, fun k hk hne => (h.block k (Nat.lt_of_lt_of_le hk hb.size) hne).trans (hb.block k hk)⟩

theorem concat4 {w : World} {lo d base q : Nat} {v1 v2 v3 v4 : Value} {s1 s2 s3 s4 : List Stp} (hq : w.heap[q]? = some (.cells #[v1, v2, v3, v4] 43 (0, 0))) (h1 : StR w lo d base v1 s1) (h2 : StR w lo d base v2 s2) (h3 : StR w lo d base v3 s3) (h4 : StR w lo d base v4 s4)
    (l1 : 1 ≤ s1.length) (l2 : 1 ≤ s2.length) (l3 : 1 ≤ s3.length) (l4 : 1 ≤ s4.length) (hm : s1.length + s2.length + s3.length + s4.length ≤ 500000) (hlo : lo ≤ w.heap.size) (hb : base ≤ w.heap.size) :
    Calls Tryz.prog 35 #[.slice (some ⟨q, 0, none⟩) 4 4] w fun e w' => ∃ v, e = .returned v ∧ StR w' lo d w.heap.size v (s1 ++ s2 ++ s3 ++ s4) ∧ Below w.heap.size w w' := by
  have ef : flatS [(v1, s1), (v2, s2), (v3, s3), (v4, s4)] 4 = s1 ++ s2 ++ s3 ++ s4 := by simp [flatS]
  have hc := concat_any (w := w) (lo := lo) (d := d) (base := base) (g := q) (n := 4) (c := 4) (ps := [(v1, s1), (v2, s2), (v3, s3), (v4, s4)]) rfl (Nat.le_refl 4) (by omega) hq (fun i pp hi => by
    match i, hi with
    | 0, hi => cases hi; exact ⟨rfl, h1, l1⟩
    | 1, hi => cases hi; exact ⟨rfl, h2, l2⟩
    | 2, hi => cases hi; exact ⟨rfl, h3, l3⟩
    | 3, hi => cases hi; exact ⟨rfl, h4, l4⟩) (by rw [ef]; simp; omega) (by rw [ef]; simp; omega) hlo hb
  rw [ef] at hc
  exact hc
theorem saveS_length (f : Int) (l : List UInt8) : (saveS f l).length = l.length / 8 + 2 := by unfold saveS; rw [List.length_append, saveP_length]; rfl

set_option maxRecDepth 20000 in
set_option maxHeartbeats 16000000 in
theorem begin_any {w : World} {p d n c B g cap lb fb : Nat} {A : Option Addr} {at_ words next N : Int} {xs : List (Int × Int)} {S : List UInt8} {L : Int → Option (List UInt8)} {F : Int → Bool} (hdev : Dev w B d g cap lb fb S L F) (hN : N = (S.length : Int) / 8) (h0 : 0 ≤ at_) (h1 : 1 ≤ words) (h2 : at_ + words ≤ N)
    (hlog : LogV w p d at_ words next) (hs : RdS w w.heap.size A n c xs) (hn0 : 0 ≤ next) (hn1 : next ≤ 4294967296) :
    Calls Tryz.prog 12 #[.pointer (some ⟨p, 0, none⟩), .slice A n c] w <| BegPost (begE N at_ words next xs) w p d at_ words next xs := by
  have hplt : p < w.heap.size := row_lt hlog
  have hN8 : N ≤ 8192 := by have := hdev.len.2; omega
  have HLOG := hid hlog; have HS := hid hs; have HDV := hid hdev; have HNN := hid hN; have HH2 := hid h2
  have HNX : Hid (xs.length = n) := hs.1
  have HX : Hid (∀ x ∈ xs, I64 x.1 ∧ U64 x.2) := hs.2.2.2.1
  have hnm : (n : Int) ≤ 9223372036854775807 := by have := hs.2.1; have := hs.2.2.1; unfold maxLen at *; omega
  obtain ⟨er, her⟩ : ∃ er, er = begE N at_ words next xs := ⟨_, rfl⟩
  rw [← her]
  have HER := hid her
  clear hlog hs hdev hN her
  go_enter Tryz.func12, Tryz.ntmps12
  go_wp2_with fail
  generalize hQQ : (Exit.then _ _ : Exit → Act → World → Prop) = QQ
  have rest : ∀ (rb Bs : Nat) (W : World), W.heap[rb]? = some (.cells #[.pointer (some ⟨d, 0, none⟩), .int .i64 at_, .int .i64 words] 73 (0, 0)) → W.heap[Bs]? = some (.cells #[.slice A n c] 46 (0, 0)) → Below w.heap.size w W → w.heap.size ≤ rb → w.heap.size ≤ Bs →
      QQ .normal { tmps := #[.pointer (some ⟨p, 0, none⟩), .slice A n c, undef, undef, .slice none 0 0, .int .i64 0, .pointer (some ⟨rb, 0, none⟩), .func (.func 65) #[] #[.pointer (some ⟨Bs, 0, none⟩)], undef, undef, .pointer (some ⟨p, 0, none⟩), .pointer (some ⟨p, 0, none⟩), .pointer (some ⟨p, 0, none⟩), .agg #[.pointer (some ⟨d, 0, none⟩), .int .i64 at_, .int .i64 words], .slice A n c, .func (.func 65) #[] #[.pointer (some ⟨Bs, 0, none⟩)], undef, undef, undef, undef, undef, undef, undef, undef, undef, undef, undef, undef, undef, undef, undef, undef, undef, undef, undef, undef, undef, undef, undef, undef, undef, undef, undef, undef, undef, undef, undef, undef, undef, undef, undef, undef, undef, undef, undef, undef, undef, undef, undef, undef, undef, undef, undef, undef, undef, undef, undef, undef], defers := [] } W := by
    rw [← hQQ]
    clear hQQ QQ
    intro rb Bs W hrb hbs hbW r1 r2
    have HRB := hid hrb; have HBS := hid hbs; have HBW := hid hbW; have HR1 := hid r1; have HR2 := hid r2
    have c0 : W.cell? ⟨rb, 0, none⟩ = some (.pointer (some ⟨d, 0, none⟩)) := by rw [row_cell hrb]; rfl
    have c1 : W.cell? ⟨rb, 1, none⟩ = some (.int .i64 at_) := by rw [row_cell hrb]; rfl
    have c2 : W.cell? ⟨rb, 2, none⟩ = some (.int .i64 words) := by rw [row_cell hrb]; rfl
    clear hrb hbs hbW r1 r2
    by_cases z1 : n = 0
    · subst z1
      have he : er = 1 := by rw [HER.out]; unfold begE; rw [if_pos (.inl HNX.out)]
      subst he
      go_wp2_with fail
      go_ret2
      exact (if_neg (by decide)).mpr ⟨rfl, HBW.out⟩
    · have d1 : ((n : Int) == 0) = false := by rw [beq_eq_false_iff_ne]; omega
      have itr := hid (valuesItr HBS.out (HS.out.below HBW.out) HBW.out.size)
      obtain ⟨R, hR⟩ : ∃ R, R = xs.all (mayB N at_ words) := ⟨_, rfl⟩
      have HRR := hid hR
      go_wp2_with fail
      refine (allows_any (HDV.out.on HBW.out) HNN.out h0 h1 HH2.out itr.out HX.out).mono ?_
      rintro e w1 ⟨rfl, hb1⟩
      rw [← hR]
      clear hR
      have HB1 := hid (Bt HBW.out hb1)
      have HW1 := hid hb1
      cases R with
      | false =>
        have he : er = 1 := by rw [HER.out]; unfold begE; rw [if_pos (.inr HRR.out.symm)]
        subst he
        go_wp2_with fail
        go_ret2
        exact (if_neg (by decide)).mpr ⟨rfl, HB1.out⟩
      | true =>
        have HL1 : Hid (LogV w1 p d at_ words next) := (HB1.out.block _ hplt).trans HLOG.out
        have l3 : w1.cell? ⟨p, 3, none⟩ = some (.int .i64 next) := by rw [row_cell HL1.out]; rfl
        have l0 : w1.cell? ⟨p, 0, none⟩ = some (.pointer (some ⟨d, 0, none⟩)) := by rw [row_cell HL1.out]; rfl
        have HEQ : Hid (er = if (words - 1) / 2 < (n : Int) ∨ 4294967295 < next then 40 else 0) := by
          show er = _
          rw [HER.out]; unfold begE; rw [if_neg (by rw [← HRR.out, HNX.out]; simp [z1]), HNX.out]
        go_wp2_with fail
        refine (room_any HL1.out h1 (by have := HH2.out; omega)).mono ?_
        rintro e wz ⟨rfl, rfl⟩
        obtain ⟨room, hroom⟩ : ∃ room, room = (words - 1) / 2 := ⟨_, rfl⟩
        rw [← hroom] at HEQ ⊢
        have HRM := hid hroom
        clear hroom
        by_cases z2 : room < (n : Int)
        · have d2 : decide (room < (n : Int)) = true := by simp [z2]
          have he : er = 40 := by rw [HEQ.out, if_pos (.inl z2)]
          subst he
          go_wp2_with fail
          go_ret2
          exact (if_neg (by decide)).mpr ⟨rfl, HB1.out⟩
        · have d2 : decide (room < (n : Int)) = false := by simp [z2]
          by_cases z3 : 4294967295 < next
          · have d3 : decide (4294967295 < next) = true := by simp [z3]
            have he : er = 40 := by rw [HEQ.out, if_pos (.inr z3)]
            subst he
            go_wp2_with fail
            go_ret2
            exact (if_neg (by decide)).mpr ⟨rfl, HB1.out⟩
          · have d3 : decide (4294967295 < next) = false := by simp [z3]
            have he : er = 0 := by rw [HEQ.out, if_neg (by omega)]
            subst he
            have hn5 : n ≤ 4096 := by have := HRM.out; have := HH2.out; omega
            have HN5 : Hid (n ≤ 4096) := hn5
            have hni : (n : Int) ≤ 4096 := by omega
            clear hn5
            go_wp2_with fail
            refine (body_any (itr.out.it.later HW1.out) itr.out.en (by have := HW1.out.size; have := HBW.out.size; omega) (fun x hx => ⟨?_, HX.out x hx⟩) (by have := HNX.out; have := HN5.out; omega)).mono ?_
            · have hm := List.all_eq_true.1 HRR.out.symm x hx
              unfold mayB at hm
              simp only [Bool.and_eq_true, decide_eq_true_eq] at hm
              exact hm.1.1
            rintro e w2 ⟨v2, rfl, ho2, hb2⟩
            have hbl : (bodyL xs).length = n * 16 := by rw [bodyL_length, HNX.out]
            obtain ⟨q2, cc2, cs2, rfl, k1, k2, k3, k4, k5⟩ := own_at ho2 (by rw [hbl]; omega)
            have HBK2 : Hid (Blk w2 w.heap.size (.slice (some ⟨q2, 0, none⟩) (bodyL xs).length cc2) (bodyL xs)) := ⟨q2, 0, cc2, cs2, rfl, by have := HB1.out.size; omega, k2, k3, k4, k5⟩
            have HBL := hid hbl
            obtain ⟨nb, hnb⟩ : ∃ nb, nb = (bodyL xs).length := ⟨_, rfl⟩
            rw [← hnb] at HBL HBK2 ⊢
            have HNB := hid hnb
            clear ho2 k1 k2 k3 k4 k5 hbl hnb
            have HB2 := hid (Bt HB1.out hb2)
            have HRD2 : Hid (Rd w2 w2.heap.size (some ⟨q2, 0, none⟩) nb cc2 (bodyL xs)) := by
              obtain ⟨q', o', c', e1, e2⟩ := HBK2.out.rd
              rw [← HNB.out] at e1 e2
              cases e1; exact e2
            have HL2 : Hid (LogV w2 p d at_ words next) := (HB2.out.block _ hplt).trans HLOG.out
            have m3 : w2.cell? ⟨p, 3, none⟩ = some (.int .i64 next) := by rw [row_cell HL2.out]; rfl
            have m0 : w2.cell? ⟨p, 0, none⟩ = some (.pointer (some ⟨d, 0, none⟩)) := by rw [row_cell HL2.out]; rfl
            go_wp2_with fail
            refine (head_any n next (by omega) (by omega) hn0 (by omega) HRD2.out).mono ?_
            rintro e w3 ⟨v3, rfl, ho3, hb3⟩
            have HB3 := hid (Bt HB2.out hb3)
            obtain ⟨q3, cc3, cs3, rfl, k1, k2, k3, k4, k5⟩ := own_at ho3 (by rw [headL_length]; omega)
            have HBK3 : Hid (Blk w3 w.heap.size (.slice (some ⟨q3, 0, none⟩) 8 cc3) (headL n next (bodyL xs))) := ⟨q3, 0, cc3, cs3, by rw [headL_length], by have := HB2.out.size; omega, k2, k3, k4, k5⟩
            rw [headL_length]
            have HL3 : Hid (LogV w3 p d at_ words next) := (HB3.out.block _ hplt).trans HLOG.out
            have o3 : w3.cell? ⟨p, 3, none⟩ = some (.int .i64 next) := by rw [row_cell HL3.out]; rfl
            have o0 : w3.cell? ⟨p, 0, none⟩ = some (.pointer (some ⟨d, 0, none⟩)) := by rw [row_cell HL3.out]; rfl
            have o4 := row_frozen HL3.out 3
            have q1 : IntKind.i64.wrap (next + 1) = next + 1 := by rw [IntKind.wrap_i64]; omega
            have HBK2' := hid (HBK2.out.on hb3)
            clear ho3 k1 k2 k3 k4 k5
            go_wp2_with fail
            obtain ⟨w4, hw4⟩ : ∃ w4, w4 = w3.setCell ⟨p, 3, none⟩ (.int .i64 (next + 1)) := ⟨_, rfl⟩
            rw [← hw4]
            have hL4 : LogV w4 p d at_ words (next + 1) := by rw [hw4]; exact row_set HL3.out 3 _
            have hg4 : w3.grownBy w4 (some p) := by rw [hw4]; exact grown_set (grown_refl w3 _) 3 _
            have HL4 := hid hL4; have HG4 := hid hg4
            have HRB4 : Hid (w4.heap[rb]? = some (.cells #[.pointer (some ⟨d, 0, none⟩), .int .i64 at_, .int .i64 words] 73 (0, 0))) := by
              have := (Bt (Bt HW1.out hb2) hb3).block _ (row_lt HRB.out)
              exact (hg4.block _ (row_lt (this.trans HRB.out)) (by have := HR1.out; simp; omega)).trans (this.trans HRB.out)
            have HBS4 : Hid (w4.heap[Bs]? = some (.cells #[.slice A n c] 46 (0, 0))) := by
              have := (Bt (Bt HW1.out hb2) hb3).block _ (row_lt HBS.out)
              exact (hg4.block _ (row_lt (this.trans HBS.out)) (by have := HR2.out; simp; omega)).trans (this.trans HBS.out)
            have HRS4 : Hid (RdS w4 w.heap.size A n c xs) := (HS.out.below HB3.out).set HL3.out hg4 HB3.out.size
            have BKs : ∀ {v l}, Blk w3 w.heap.size v l → Blk w4 w.heap.size v l := fun {v l} h => by
              obtain ⟨q, off, c, cs, e1, e2, e3, e4, e5, e6⟩ := h
              exact ⟨q, off, c, cs, e1, e2, e3, e4, (hg4.block _ (row_lt e5) (by simp; omega)).trans e5, e6⟩
            have HBK2 := hid (BKs HBK2'.out)
            have HBK3 := hid (BKs HBK3.out)
            have hs4 : w.heap.size ≤ w4.heap.size := Nat.le_trans HB3.out.size hg4.size
            have HS4 := hid hs4
            clear hw4 hL4 hg4 BKs o3 o0 o4 m3 m0 l3 l0 c0 c1 c2 hs4 HBK2'
            refine reg_begin (by kernel_rfl) (fun w0z hx0z hHeld => ?_)
            have HX0 := hid hx0z
            have f0 : ∀ w', Ext w0z w' → w'.cell? ⟨rb, 0, none⟩ = some (.pointer (some ⟨d, 0, none⟩)) := fun w' hw => by rw [row_cell (((Bt HX0.out hw).block _ (row_lt HRB4.out)).trans HRB4.out)]; rfl
            have f1 : ∀ w', Ext w0z w' → w'.cell? ⟨rb, 1, none⟩ = some (.int .i64 at_) := fun w' hw => by rw [row_cell (((Bt HX0.out hw).block _ (row_lt HRB4.out)).trans HRB4.out)]; rfl
            have f2 : ∀ w', Ext w0z w' → w'.cell? ⟨rb, 2, none⟩ = some (.int .i64 words) := fun w' hw => by rw [row_cell (((Bt HX0.out hw).block _ (row_lt HRB4.out)).trans HRB4.out)]; rfl
            refine reg_take 0 (v := ?vb0) at0 (by kernel_rfl) (by kernel_rfl) (by kernel_rfl) (by rfl) ?hyb0 hHeld ?restb0
            case hyb0 => (intro w' hSw; go_simp; try with_reducible rfl)
            try simp only [Act.put, List.setIfInBounds_toArray, List.set_cons_zero, List.set_cons_succ]
            refine reg_take 3 (v := ?vb3) (atS (atS (atS at0))) (by kernel_rfl) (by kernel_rfl) (by kernel_rfl) (by rfl) ?hyb3 hHeld ?restb3
            case hyb3 => (intro w' hSw; go_simp; try with_reducible rfl)
            try simp only [Act.put, List.setIfInBounds_toArray, List.set_cons_zero, List.set_cons_succ]
            refine reg_take 4 (v := ?vb4) (atS (atS (atS (atS at0)))) (by kernel_rfl) (by kernel_rfl) (by kernel_rfl) (by rfl) ?hyb4 hHeld ?restb4
            case hyb4 => (intro w' hSw; go_simp; try with_reducible rfl)
            try simp only [Act.put, List.setIfInBounds_toArray, List.set_cons_zero, List.set_cons_succ]
            refine reg_take 6 (v := ?vb6) (atS5 (atS at0)) (by kernel_rfl) (by kernel_rfl) (by kernel_rfl) (by rfl) ?hyb6 hHeld ?restb6
            case hyb6 => (intro w' hSw; go_simp; try with_reducible rfl)
            try simp only [Act.put, List.setIfInBounds_toArray, List.set_cons_zero, List.set_cons_succ]
            refine reg_take 7 (v := ?vb7) (atS5 (atS (atS at0))) (by kernel_rfl) (by kernel_rfl) (by kernel_rfl) (by rfl) ?hyb7 hHeld ?restb7
            case hyb7 => (intro w' hSw; go_simp; try with_reducible rfl)
            try simp only [Act.put, List.setIfInBounds_toArray, List.set_cons_zero, List.set_cons_succ]
            refine reg_take 9 (v := ?vb9) (atS5 (atS (atS (atS (atS at0))))) (by kernel_rfl) (by kernel_rfl) (by kernel_rfl) (by rfl) ?hyb9 hHeld ?restb9
            case hyb9 => (intro w' hSw; go_simp; try with_reducible rfl)
            try simp only [Act.put, List.setIfInBounds_toArray, List.set_cons_zero, List.set_cons_succ]
            refine reg_take 10 (v := ?vb10) (atS5 (atS5 at0)) (by kernel_rfl) (by kernel_rfl) (by kernel_rfl) (by rfl) ?hyb10 hHeld ?restb10
            case hyb10 => (intro w' hSw; go_simp; try with_reducible rfl)
            try simp only [Act.put, List.setIfInBounds_toArray, List.set_cons_zero, List.set_cons_succ]
            refine wpAnyH_ready (rs := [1]) (by kernel_rfl) (by simp) ?_
            refine AllReadyH.cons (atS at0) (fun K hK => ?_) AllReadyH.nil
            go_simp
            refine (nb_any 0 (by unfold U64; rw [pw8]; omega) _).mono ?_
            rintro e x1 ⟨y1, rfl, oy1, bx1⟩
            obtain ⟨q5, cc5, cs5, rfl, k1, k2, k3, k4, k5⟩ := own_at oy1 (by rw [le_length]; omega)
            have HK5 : Hid (w.heap.size ≤ q5 ∧ (le 0 8).length ≤ cc5 ∧ cc5 ≤ maxLen ∧ x1.heap[q5]? = some (.cells cs5 5 (0, 0)) ∧ ∀ i (h : i < (le 0 8).length), cs5[0 + i]? = some (bv (le 0 8)[i])) := ⟨by have := HS4.out; have := HX0.out.size; omega, k2, k3, k4, k5⟩
            have HX1 := hid (Bt HX0.out bx1)
            clear oy1 k1 k2 k3 k4 k5
            go_wp2_with fail
            refine hK.out _ _ bx1 (fun hHeld => ?_)
            clear hK K
            try simp only [Act.put, List.setIfInBounds_toArray, List.set_cons_zero, List.set_cons_succ]
            refine reg_on bx1 (fun hHeld => ?_)
            refine wpAnyH_ready (rs := [2]) (by kernel_rfl) (by simp) ?_
            refine AllReadyH.cons (atS (atS at0)) (fun K hK => ?_) AllReadyH.nil
            go_simp
            refine (save_any (w := x1) (lo := w.heap.size) (d := d) (m := 1) at_ words 0 (l := le 0 8) (le_length 0 8) (Nat.le_refl 1) HK5.out.2.1 HK5.out.2.2.1 (by omega) (by omega) (by have := HH2.out; omega) (by have := HS4.out; have := HX1.out.size; omega) HK5.out.1 HK5.out.2.2.2.1 HK5.out.2.2.2.2).mono ?_
            rintro e x2 ⟨y2, rfl, oy2, bx2⟩
            rw [Int.add_zero] at oy2
            have HV1 := hid (oy2.less (base' := w.heap.size) (by have := HS4.out; have := HX1.out.size; omega))
            have HX2 := hid (Bt HX1.out bx2)
            clear oy2
            go_wp2_with fail
            refine hK.out _ _ bx2 (fun hHeld => ?_)
            clear hK K
            try simp only [Act.put, List.setIfInBounds_toArray, List.set_cons_zero, List.set_cons_succ]
            refine reg_on bx2 (fun hHeld => ?_)
            refine wpAnyH_ready (rs := [5]) (by kernel_rfl) (by simp) ?_
            refine AllReadyH.cons (atS5 at0) (fun K hK => ?_) AllReadyH.nil
            go_simp
            obtain ⟨q', o', c', cs', e1, e2, e3, e4, e5, e6⟩ := HBK2.out.on HX2.out
            rw [← HNB.out] at e1
            cases e1
            rw [HNB.out]
            refine (save_any (w := x2) (lo := w.heap.size) (d := d) (m := n * 2) at_ words 1 (l := bodyL xs) (by rw [← HNB.out, HBL.out]; omega) (by omega) e3 e4 (by have := HN5.out; omega) (by omega) (by have := HH2.out; omega) (by have := HS4.out; have := HX2.out.size; omega) e2 e5 e6).mono ?_
            rintro e x3 ⟨y3, rfl, oy3, bx3⟩
            have HV2 := hid (oy3.less (base' := w.heap.size) (by have := HS4.out; have := HX2.out.size; omega))
            have HX3 := hid (Bt HX2.out bx3)
            rw [← HNB.out]
            clear oy3 e2 e3 e4 e5 e6
            go_wp2_with fail
            refine hK.out _ _ bx3 (fun hHeld => ?_)
            clear hK K
            try simp only [Act.put, List.setIfInBounds_toArray, List.set_cons_zero, List.set_cons_succ]
            refine reg_on bx3 (fun hHeld => ?_)
            refine wpAnyH_ready (rs := [8]) (by kernel_rfl) (by simp) ?_
            refine AllReadyH.cons (atS5 (atS (atS (atS at0)))) (fun K hK => ?_) AllReadyH.nil
            go_simp
            obtain ⟨q', o', c', cs', e1, e2, e3, e4, e5, e6⟩ := HBK3.out.on HX3.out
            rw [headL_length] at e1
            cases e1
            refine (save_any (w := x3) (lo := w.heap.size) (d := d) (m := 1) at_ words 0 (l := headL n next (bodyL xs)) (headL_length _ _ _) (Nat.le_refl 1) e3 e4 (by omega) (by omega) (by have := HH2.out; omega) (by have := HS4.out; have := HX3.out.size; omega) e2 e5 e6).mono ?_
            rintro e x4 ⟨y4, rfl, oy4, bx4⟩
            rw [Int.add_zero] at oy4
            have HV3 := hid (oy4.less (base' := w.heap.size) (by have := HS4.out; have := HX3.out.size; omega))
            have HX4 := hid (Bt HX3.out bx4)
            clear oy4 e2 e3 e4 e5 e6
            go_wp2_with fail
            refine hK.out _ _ bx4 (fun hHeld => ?_)
            clear hK K
            try simp only [Act.put, List.setIfInBounds_toArray, List.set_cons_zero, List.set_cons_succ]
            refine reg_on bx4 (fun hHeld => ?_)
            refine wpAnyH_ready (rs := [11]) (by kernel_rfl) (by simp) ?_
            refine AllReadyH.cons (atS5 (atS5 (atS at0))) (fun K hK => ?_) AllReadyH.nil
            go_simp
            refine (bring_any (w := x4) (lo := w.heap.size) (d := d) at_ words ((valuesItr HBS4.out HRS4.out HS4.out).later HX4.out) HX.out (by have := HNX.out; have := HN5.out; omega) (by have := HS4.out; have := HX4.out.size; omega)).mono ?_
            rintro e x5 ⟨y5, rfl, oy5, bx5⟩
            have HV4 := hid (oy5.less (base' := w.heap.size) (by have := HS4.out; have := HX4.out.size; omega))
            have HX5 := hid (Bt HX4.out bx5)
            clear oy5
            go_wp2_with fail
            refine hK.out _ _ bx5 (fun hHeld => ?_)
            clear hK K
            try simp only [Act.put, List.setIfInBounds_toArray, List.set_cons_zero, List.set_cons_succ]
            refine reg_on bx5 (fun hHeld => ?_)
            refine wpAnyH_ready (rs := [12]) (by kernel_rfl) (by simp) ?_
            refine AllReadyH.cons (atS5 (atS5 (atS (atS at0)))) (fun K hK => ?_) AllReadyH.nil
            obtain ⟨n1, A1, g1, rfl⟩ : ∃ n1 A1 g1, y2 = .slice A1 n1 g1 := by obtain ⟨A, c, h⟩ := HV1.out.shape; exact ⟨_, A, c, h⟩
            obtain ⟨n2, A2, g2, rfl⟩ : ∃ n1 A1 g1, y3 = .slice A1 n1 g1 := by obtain ⟨A, c, h⟩ := HV2.out.shape; exact ⟨_, A, c, h⟩
            obtain ⟨n3, A3, g3, rfl⟩ : ∃ n1 A1 g1, y4 = .slice A1 n1 g1 := by obtain ⟨A, c, h⟩ := HV3.out.shape; exact ⟨_, A, c, h⟩
            obtain ⟨n4, A4, g4, rfl⟩ : ∃ n1 A1 g1, y5 = .slice A1 n1 g1 := by obtain ⟨A, c, h⟩ := HV4.out.shape; exact ⟨_, A, c, h⟩
            go_simp
            obtain ⟨x6, hx6⟩ : ∃ x6, x6 = x5.alloc (.cells #[.slice A1 n1 g1, .slice A2 n2 g2, .slice A3 n3 g3, .slice A4 n4 g4] 43) := ⟨_, rfl⟩
            obtain ⟨q6, hq6⟩ : ∃ q6, q6 = x5.heap.size := ⟨_, rfl⟩
            rw [← hx6, ← hq6]
            have bx6 : Below x5.heap.size x5 x6 := by rw [hx6]; exact B1 _ _
            have hc6 : x6.heap[q6]? = some (.cells #[.slice A1 n1 g1, .slice A2 n2 g2, .slice A3 n3 g3, .slice A4 n4 g4] 43 (0, 0)) := by rw [hx6, hq6]; exact heap_alloc_new _ _
            have HC6 := hid hc6
            have HX6 := hid (Bt HX5.out bx6)
            have b12 : Below x2.heap.size x2 x6 := Bt (Bt (Bt bx3 bx4) bx5) bx6
            have HV1 := hid (HV1.out.on b12)
            have HV2 := hid (HV2.out.on (Bt (Bt bx4 bx5) bx6))
            have HV3 := hid (HV3.out.on (Bt bx5 bx6))
            have HV4 := hid (HV4.out.on bx6)
            clear hx6 hq6 hc6 b12
            refine hK.out _ _ bx6 (fun hHeld => ?_)
            clear hK K
            try simp only [Act.put, List.setIfInBounds_toArray, List.set_cons_zero, List.set_cons_succ]
            refine reg_on bx6 (fun hHeld => ?_)
            refine wpAnyH_ready (rs := [13]) (by kernel_rfl) (by simp) ?_
            refine AllReadyH.cons (atS5 (atS5 (atS (atS (atS at0))))) (fun K hK => ?_) AllReadyH.nil
            go_simp
            refine (concat4 HC6.out HV1.out HV2.out HV3.out HV4.out (by rw [saveS_length]; omega) (by rw [saveS_length]; omega) (by rw [saveS_length]; omega) (by rw [bringS_length]; omega) (by have hxn := HNX.out; have hn5 := HN5.out; have hbl := HBL.out; have hnb := HNB.out; rw [saveS_length, saveS_length, saveS_length, bringS_length, headL_length, le_length]; omega) (by have := HS4.out; have := HX6.out.size; omega) (by have := HS4.out; have := HX6.out.size; omega)).mono ?_
            rintro e x7 ⟨y7, rfl, oy7, bx7⟩
            have HX7 := hid (Bt HX6.out bx7)
            have HV7 := hid (oy7.less (base' := w.heap.size) (by have := HS4.out; have := HX6.out.size; omega))
            clear oy7
            go_wp2_with fail
            refine hK.out _ _ bx7 (fun hHeld => ?_)
            clear hK K
            try simp only [Act.put, List.setIfInBounds_toArray, List.set_cons_zero, List.set_cons_succ]
            refine reg_on bx7 (fun hHeld => ?_)
            refine reg_take 14 (v := ?vb14) (atS5 (atS5 (atS (atS (atS (atS at0)))))) (by kernel_rfl) (by kernel_rfl) (by kernel_rfl) (by rfl) ?hyb14 hHeld ?restb14
            case hyb14 => (intro w' hSw; go_simp; try with_reducible rfl)
            try simp only [Act.put, List.setIfInBounds_toArray, List.set_cons_zero, List.set_cons_succ]
            refine reg_take 15 (v := ?vb15) (atS5 (atS5 (atS5 at0))) (by kernel_rfl) (by kernel_rfl) (by kernel_rfl) (by rfl) ?hyb15 hHeld ?restb15
            case hyb15 => (intro w' hSw; go_simp; try with_reducible rfl)
            try simp only [Act.put, List.setIfInBounds_toArray, List.set_cons_zero, List.set_cons_succ]
            refine wpAnyH_done (by kernel_rfl) ?_ _
            refine NoPanic.normal ?_
            go_wp2_with fail
            go_ret2
            refine (if_pos rfl).mpr ⟨y7, rfl, ?_, (HX7.out.block _ (row_lt HL4.out)).trans HL4.out, grown_below (below_grownBy HB3.out HG4.out) HX7.out⟩
            unfold allS
            rw [HNX.out]
            exact HV7.out
  refine reg_begin2p p p (by kernel_rfl) hplt hplt (fun w0a hh0a hx0a hHeld => ?_)
  have f0 : ∀ w', Two p p w0a w' → w'.cell? ⟨p, 0, none⟩ = some (.pointer (some ⟨d, 0, none⟩)) := fun w' hw => by rw [row_cell (hw.h1.trans (by rw [hh0a.out]; exact HLOG.out))]; rfl
  have f1 : ∀ w', Two p p w0a w' → w'.cell? ⟨p, 1, none⟩ = some (.int .i64 at_) := fun w' hw => by rw [row_cell (hw.h1.trans (by rw [hh0a.out]; exact HLOG.out))]; rfl
  have f2 : ∀ w', Two p p w0a w' → w'.cell? ⟨p, 2, none⟩ = some (.int .i64 words) := fun w' hw => by rw [row_cell (hw.h1.trans (by rw [hh0a.out]; exact HLOG.out))]; rfl
  have HREST := hid rest
  have HBC := hid hx0a
  clear rest hQQ
  refine reg_take2 0 (v := ?vy1_0) at0 (by kernel_rfl) (by kernel_rfl) (by kernel_rfl) (by rfl) ?hyy1_0 hHeld ?resty1_0
  case hyy1_0 => (intro w' hSw; go_simp; try with_reducible rfl)
  try simp only [Act.put, List.setIfInBounds_toArray, List.set_cons_zero, List.set_cons_succ]
  refine reg_take2 1 (v := ?vy2_1) (atS at0) (by kernel_rfl) (by kernel_rfl) (by kernel_rfl) (by rfl) ?hyy2_1 hHeld ?resty2_1
  case hyy2_1 => (intro w' hSw; go_simp; try with_reducible rfl)
  try simp only [Act.put, List.setIfInBounds_toArray, List.set_cons_zero, List.set_cons_succ]
  refine reg_take2 2 (v := ?vy3_2) (atS (atS at0)) (by kernel_rfl) (by kernel_rfl) (by kernel_rfl) (by rfl) ?hyy3_2 hHeld ?resty3_2
  case hyy3_2 => (intro w' hSw; go_simp; try with_reducible rfl)
  try simp only [Act.put, List.setIfInBounds_toArray, List.set_cons_zero, List.set_cons_succ]
  refine reg_take2 3 (v := ?vy4_3) (atS (atS (atS at0))) (by kernel_rfl) (by kernel_rfl) (by kernel_rfl) (by rfl) ?hyy4_3 hHeld ?resty4_3
  case hyy4_3 => (intro w' hSw; go_simp; try with_reducible rfl)
  try simp only [Act.put, List.setIfInBounds_toArray, List.set_cons_zero, List.set_cons_succ]
  refine reg_take2 4 (v := ?vy5_4) (atS (atS (atS (atS at0)))) (by kernel_rfl) (by kernel_rfl) (by kernel_rfl) (by rfl) ?hyy5_4 hHeld ?resty5_4
  case hyy5_4 => (intro w' hSw; go_simp; try with_reducible rfl)
  try simp only [Act.put, List.setIfInBounds_toArray, List.set_cons_zero, List.set_cons_succ]
  refine wpAnyH_ready (rs := [5, 6]) (by kernel_rfl) (by simp) ?_
  refine AllReadyH.cons (atS5 at0) (fun K hK => ?_) (AllReadyH.cons (atS5 (atS at0)) (fun K hK => ?_) AllReadyH.nil)
  · skip
    go_simp
    refine (values_make _ _ _).mono ?_
    rintro e wz ⟨rfl, rfl⟩
    obtain ⟨w5a, hw5⟩ : ∃ w', w' = w0a.alloc (.cells #[.slice A n c] 46) := ⟨_, rfl⟩
    obtain ⟨Bs, hBs⟩ : ∃ Bs, Bs = w0a.heap.size := ⟨_, rfl⟩
    have hb5 : Below w0a.heap.size w0a w5a := by rw [hw5]; exact B1 _ _
    have hc5 : w5a.heap[Bs]? = some (.cells #[.slice A n c] 46 (0, 0)) := by rw [hw5, hBs]; exact heap_alloc_new _ _
    have HC5 := hid hc5
    rw [← hw5, ← hBs]
    have HBs : Hid (w.heap.size ≤ Bs) := by show w.heap.size ≤ Bs; rw [hBs]; first | exact (Nat.le_trans hx0a.size hHeld.sz) | exact hx0a.size
    have HNE : Hid (Bs = w0a.heap.size) := hBs
    have HBC := hid (Bt HBC.out hb5)
    clear hw5 hc5 hBs
    go_wp2_with fail
    refine hK.out _ _ (hHeld.on hb5) (fun hHeld => ?_)
    clear hK K
    try simp only [Act.put, List.setIfInBounds_toArray, List.set_cons_zero, List.set_cons_succ]
    refine wpAnyH_ready (rs := [6]) (by kernel_rfl) (by simp) ?_
    refine AllReadyH.cons (atS5 (atS at0)) (fun K hK => ?_) AllReadyH.nil
    go_simp
    obtain ⟨w6a, hw6⟩ : ∃ w', w' = w5a.alloc (.cells #[.pointer none, .int .i64 0, .int .i64 0] 73) := ⟨_, rfl⟩
    obtain ⟨rb, hrb⟩ : ∃ rb, rb = w5a.heap.size := ⟨_, rfl⟩
    have hb6 : Below w5a.heap.size w5a w6a := by rw [hw6]; exact B1 _ _
    have hc6 : w6a.heap[rb]? = some (.cells #[.pointer none, .int .i64 0, .int .i64 0] 73 (0, 0)) := by rw [hw6, hrb]; exact heap_alloc_new _ _
    rw [← hw6, ← hrb]
    have HC6 := hid hc6
    have HRb : Hid (w.heap.size ≤ rb) := by show w.heap.size ≤ rb; rw [hrb]; first | exact (Nat.le_trans hx0a.size hHeld.sz) | exact hx0a.size
    have HBC := hid (Bt HBC.out hb6)
    clear hw6 hc6 hrb
    refine hK.out _ _ (hHeld.on hb6) (fun hHeld => ?_)
    clear hK K
    try simp only [Act.put, List.setIfInBounds_toArray, List.set_cons_zero, List.set_cons_succ]
    refine wpAnyH_ready (rs := [7]) (by kernel_rfl) (by simp) ?_
    refine AllReadyH.cons (atS5 (atS (atS at0))) (fun K hK => ?_) AllReadyH.nil
    have hc6' : w6a.heap[rb]? = some (.cells #[.pointer none, .int .i64 0, .int .i64 0] 73 (0, 0)) := by first | exact HC6.out | exact (hb5.block _ (row_lt HC6.out)).trans HC6.out
    have hc5' : w6a.heap[Bs]? = some (.cells #[.slice A n c] 46 (0, 0)) := by first | exact HC5.out | exact (hb6.block _ (row_lt HC5.out)).trans HC5.out
    have g0 : w6a.cell? ⟨rb, 0, none⟩ = some (.pointer none) := by rw [row_cell hc6']; rfl
    have g1 : w6a.cell? ⟨rb, 1, none⟩ = some (.int .i64 0) := by rw [row_cell hc6']; rfl
    have g2 : w6a.cell? ⟨rb, 2, none⟩ = some (.int .i64 0) := by rw [row_cell hc6']; rfl
    have k0 := row_frozen hc6' 0
    have k1 := row_frozen hc6' 1
    have k2 := row_frozen hc6' 2
    have z1 := row_set hc6' 0 (.pointer (some ⟨d, 0, none⟩))
    have z2 := row_set z1 1 (.int .i64 at_)
    have z3 := row_set z2 2 (.int .i64 words)
    have gg := grown_set (grown_set (grown_set (grown_refl w6a (some rb)) 0 (.pointer (some ⟨d, 0, none⟩))) 1 (.int .i64 at_)) 2 (.int .i64 words)
    have hne : some Bs ≠ some rb := by intro e; cases e; rw [hc5'] at hc6'; cases hc6'
    have z4 := (gg.block _ (row_lt hc5') hne).trans hc5'
    have hpr : some p ≠ some rb := by have := HRb.out; simp; omega
    have zb : Below w.heap.size w (((w6a.setCell ⟨rb, 0, none⟩ (.pointer (some ⟨d, 0, none⟩))).setCell ⟨rb, 1, none⟩ (.int .i64 at_)).setCell ⟨rb, 2, none⟩ (.int .i64 words)) := HBC.out.grown gg HBC.out.size (fun j e => by cases e; exact HRb.out)
    have Z3 := hid z3; have Z4 := hid z4; have ZB := hid zb; have GG := hid gg
    clear z1 z2 z3 z4 zb gg hc5' hc6'
    go_simp
    refine hK.out _ _ (hHeld.by GG.out hpr hpr) (fun hHeld => ?_)
    clear hK K
    try simp only [Act.put]
    refine reg_take2 8 (v := ?vy6_8) (atS5 (atS (atS (atS at0)))) (by kernel_rfl) (by kernel_rfl) (by kernel_rfl) (by rfl) ?hyy6_8 hHeld ?resty6_8
    case hyy6_8 => (intro w' hSw; go_simp; try with_reducible rfl)
    try simp only [Act.put, List.setIfInBounds_toArray, List.set_cons_zero, List.set_cons_succ]
    refine wpAnyH_done (by kernel_rfl) ?_ _
    refine NoPanic.normal ?_
    exact HREST.out rb Bs _ Z3.out Z4.out ZB.out HRb.out HBs.out
  · skip
    go_simp
    obtain ⟨w6a, hw6⟩ : ∃ w', w' = w0a.alloc (.cells #[.pointer none, .int .i64 0, .int .i64 0] 73) := ⟨_, rfl⟩
    obtain ⟨rb, hrb⟩ : ∃ rb, rb = w0a.heap.size := ⟨_, rfl⟩
    have hb6 : Below w0a.heap.size w0a w6a := by rw [hw6]; exact B1 _ _
    have hc6 : w6a.heap[rb]? = some (.cells #[.pointer none, .int .i64 0, .int .i64 0] 73 (0, 0)) := by rw [hw6, hrb]; exact heap_alloc_new _ _
    rw [← hw6, ← hrb]
    have HC6 := hid hc6
    have HRb : Hid (w.heap.size ≤ rb) := by show w.heap.size ≤ rb; rw [hrb]; first | exact (Nat.le_trans hx0a.size hHeld.sz) | exact hx0a.size
    have HBC := hid (Bt HBC.out hb6)
    clear hw6 hc6 hrb
    refine hK.out _ _ (hHeld.on hb6) (fun hHeld => ?_)
    clear hK K
    try simp only [Act.put, List.setIfInBounds_toArray, List.set_cons_zero, List.set_cons_succ]
    refine wpAnyH_ready (rs := [5]) (by kernel_rfl) (by simp) ?_
    refine AllReadyH.cons (atS5 at0) (fun K hK => ?_) AllReadyH.nil
    go_simp
    refine (values_make _ _ _).mono ?_
    rintro e wz ⟨rfl, rfl⟩
    obtain ⟨w5a, hw5⟩ : ∃ w', w' = w6a.alloc (.cells #[.slice A n c] 46) := ⟨_, rfl⟩
    obtain ⟨Bs, hBs⟩ : ∃ Bs, Bs = w6a.heap.size := ⟨_, rfl⟩
    have hb5 : Below w6a.heap.size w6a w5a := by rw [hw5]; exact B1 _ _
    have hc5 : w5a.heap[Bs]? = some (.cells #[.slice A n c] 46 (0, 0)) := by rw [hw5, hBs]; exact heap_alloc_new _ _
    have HC5 := hid hc5
    rw [← hw5, ← hBs]
    have HBs : Hid (w.heap.size ≤ Bs) := by show w.heap.size ≤ Bs; rw [hBs]; first | exact (Nat.le_trans hx0a.size hHeld.sz) | exact hx0a.size
    have HNE : Hid (Bs = w6a.heap.size) := hBs
    have HBC := hid (Bt HBC.out hb5)
    clear hw5 hc5 hBs
    go_wp2_with fail
    refine hK.out _ _ (hHeld.on hb5) (fun hHeld => ?_)
    clear hK K
    try simp only [Act.put, List.setIfInBounds_toArray, List.set_cons_zero, List.set_cons_succ]
    refine wpAnyH_ready (rs := [7]) (by kernel_rfl) (by simp) ?_
    refine AllReadyH.cons (atS5 (atS (atS at0))) (fun K hK => ?_) AllReadyH.nil
    have hc6' : w5a.heap[rb]? = some (.cells #[.pointer none, .int .i64 0, .int .i64 0] 73 (0, 0)) := by first | exact HC6.out | exact (hb5.block _ (row_lt HC6.out)).trans HC6.out
    have hc5' : w5a.heap[Bs]? = some (.cells #[.slice A n c] 46 (0, 0)) := by first | exact HC5.out | exact (hb6.block _ (row_lt HC5.out)).trans HC5.out
    have g0 : w5a.cell? ⟨rb, 0, none⟩ = some (.pointer none) := by rw [row_cell hc6']; rfl
    have g1 : w5a.cell? ⟨rb, 1, none⟩ = some (.int .i64 0) := by rw [row_cell hc6']; rfl
    have g2 : w5a.cell? ⟨rb, 2, none⟩ = some (.int .i64 0) := by rw [row_cell hc6']; rfl
    have k0 := row_frozen hc6' 0
    have k1 := row_frozen hc6' 1
    have k2 := row_frozen hc6' 2
    have z1 := row_set hc6' 0 (.pointer (some ⟨d, 0, none⟩))
    have z2 := row_set z1 1 (.int .i64 at_)
    have z3 := row_set z2 2 (.int .i64 words)
    have gg := grown_set (grown_set (grown_set (grown_refl w5a (some rb)) 0 (.pointer (some ⟨d, 0, none⟩))) 1 (.int .i64 at_)) 2 (.int .i64 words)
    have hne : some Bs ≠ some rb := by intro e; cases e; rw [hc5'] at hc6'; cases hc6'
    have z4 := (gg.block _ (row_lt hc5') hne).trans hc5'
    have hpr : some p ≠ some rb := by have := HRb.out; simp; omega
    have zb : Below w.heap.size w (((w5a.setCell ⟨rb, 0, none⟩ (.pointer (some ⟨d, 0, none⟩))).setCell ⟨rb, 1, none⟩ (.int .i64 at_)).setCell ⟨rb, 2, none⟩ (.int .i64 words)) := HBC.out.grown gg HBC.out.size (fun j e => by cases e; exact HRb.out)
    have Z3 := hid z3; have Z4 := hid z4; have ZB := hid zb; have GG := hid gg
    clear z1 z2 z3 z4 zb gg hc5' hc6'
    go_simp
    refine hK.out _ _ (hHeld.by GG.out hpr hpr) (fun hHeld => ?_)
    clear hK K
    try simp only [Act.put]
    refine reg_take2 8 (v := ?vy7_8) (atS5 (atS (atS (atS at0)))) (by kernel_rfl) (by kernel_rfl) (by kernel_rfl) (by rfl) ?hyy7_8 hHeld ?resty7_8
    case hyy7_8 => (intro w' hSw; go_simp; try with_reducible rfl)
    try simp only [Act.put, List.setIfInBounds_toArray, List.set_cons_zero, List.set_cons_succ]
    refine wpAnyH_done (by kernel_rfl) ?_ _
    refine NoPanic.normal ?_
    exact HREST.out rb Bs _ Z3.out Z4.out ZB.out HRb.out HBs.out
end Go.Proofs.YteggkojlpgkhbaaGreat
