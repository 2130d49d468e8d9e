/-
  wal: Open, Room, Seq, Recover.
-/
import Derived.Test.YteggkojlpgkhbaaGreatWalW
namespace Go.Proofs.YteggkojlpgkhbaaGreat
open Go.RowKit Go.Maps Go.Shelf
set_option linter.unusedVariables false

/-- The log at block p. -/
def LogV (w : World) (p d : Nat) (at_ words next : Int) : Prop := w.heap[p]? = some (.cells #[.pointer (some ⟨d, 0, none⟩), .int .i64 at_, .int .i64 words, .int .i64 next] 79 (0, 0))
/-- The sequence number of the record that a region has; 0: none. -/
def seqOf (n at_ words : Int) (S : List UInt8) : Nat := if recOk n at_ words (recB S at_ words) = true then recQ (recB S at_ words) else 0
theorem seqOf_lt (n at_ words : Int) (S : List UInt8) : seqOf n at_ words S < 4294967296 := by
  unfold seqOf; split
  · exact (recQ_lt _).1
  · omega

section
variable {w : World} {p d : Nat} {at_ words next : Int}
theorem room_any (h : LogV w p d at_ words next) (h1 : 1 ≤ words) (h2 : words ≤ 8192) :
    Calls Tryz.prog 9 #[.pointer (some ⟨p, 0, none⟩)] w fun e w' => e = .returned (.int .i64 ((words - 1) / 2)) ∧ w' = w := by
  have c1 : w.cell? ⟨p, 2, none⟩ = some (.int .i64 words) := by rw [row_cell h]; rfl
  have c0 : w.cell? ⟨p, 0, none⟩ = some (.pointer (some ⟨d, 0, none⟩)) := by rw [row_cell h]; rfl
  have q1 : IntKind.i64.wrap (words - 1) = words - 1 := by rw [IntKind.wrap_i64]; omega
  have q2 : (words - 1).tdiv 2 = (words - 1) / 2 := Int.tdiv_eq_ediv_of_nonneg (by omega)
  clear h
  go_enter Tryz.func9, Tryz.ntmps9
  go_wp2_with fail
  go_ret
  exact ⟨rfl, rfl⟩
theorem seq_any (h : LogV w p d at_ words next) :
    Calls Tryz.prog 11 #[.pointer (some ⟨p, 0, none⟩)] w fun e w' => e = .returned (.int .i64 next) ∧ w' = w := by
  have c1 : w.cell? ⟨p, 3, none⟩ = some (.int .i64 next) := by rw [row_cell h]; rfl
  have c0 : w.cell? ⟨p, 0, none⟩ = some (.pointer (some ⟨d, 0, none⟩)) := by rw [row_cell h]; rfl
  clear h
  go_enter Tryz.func11, Tryz.ntmps11
  go_wp2_with fail
  go_ret
  exact ⟨rfl, rfl⟩
end

section
variable {w : World} {B d g cap lb fb : Nat} {S : List UInt8} {L : Int → Option (List UInt8)} {F : Int → Bool}
set_option maxHeartbeats 2000000 in
theorem open_ok (h : Dev w B d g cap lb fb S L F) {at_ words n : Int} (hn : n = (S.length : Int) / 8) (he : rgE n at_ words = 0) :
    Calls Tryz.prog 6 #[.pointer (some ⟨d, 0, none⟩), .int .i64 at_, .int .i64 words] w fun e w' => ∃ p, e = .returned (.tuple #[.pointer (some ⟨p, 0, none⟩), .int .i64 0]) ∧ LogV w' p d at_ words (seqOf n at_ words S + 1) ∧ w.heap.size ≤ p ∧ Below w.heap.size w w' := by
  obtain ⟨h0, h1, h2⟩ := rgE_ok he
  have HR := hid (rg_ok h at_ words (by rw [← hn]; exact he))
  have HD := hid h
  have HN := hid hn; have HH2 := hid h2
  have hs := seqOf_lt n at_ words S
  obtain ⟨sq, hsq⟩ : ∃ sq, sq = seqOf n at_ words S := ⟨_, rfl⟩
  rw [← hsq] at hs ⊢
  have HS := hid hsq
  have q1 : IntKind.i64.wrap ((sq : Int) + 1) = sq + 1 := by rw [IntKind.wrap_i64]; omega
  have HSL := hid hs
  clear h hn hsq he h2 hs
  unfold regC at HR
  go_enter Tryz.func6, Tryz.ntmps6
  go_wp2_with fail
  refine HR.out.mono ?_
  rintro e w1 ⟨rfl, hb1⟩
  go_wp2_with fail
  refine (record_any ((HD.out.on hb1).alloc _) HN.out h0 h1 HH2.out).mono ?_
  rintro e w2 ⟨hr, hb2⟩
  have HB2 := hid hb2
  have hrb := heap_alloc_new w1 (.cells #[.pointer (some ⟨d, 0, none⟩), .int .i64 at_, .int .i64 words] 73)
  have hrb2 := (hb2.block _ (row_lt hrb)).trans hrb
  have c1 : w2.cell? ⟨w1.heap.size, 0, none⟩ = some (.pointer (some ⟨d, 0, none⟩)) := by rw [row_cell hrb2]; rfl
  have c2 : w2.cell? ⟨w1.heap.size, 1, none⟩ = some (.int .i64 at_) := by rw [row_cell hrb2]; rfl
  have c3 : w2.cell? ⟨w1.heap.size, 2, none⟩ = some (.int .i64 words) := by rw [row_cell hrb2]; rfl
  have hv : ∃ v, e = .returned (.tuple #[.int .i64 sq, v]) := by
    have hsq := HS.out
    unfold seqOf at hsq
    split at hr
    · rename_i ht
      rw [if_pos ht] at hsq
      obtain ⟨v, e1, _⟩ := hr
      exact ⟨v, by rw [hsq]; exact e1⟩
    · rename_i ht
      rw [if_neg ht] at hsq
      exact ⟨_, by rw [hsq]; exact hr⟩
  obtain ⟨v, rfl⟩ := hv
  clear hr hrb hrb2 hb2
  go_wp2_with fail
  go_ret2
  have hbb : Below w.heap.size w w2 := Bt (Ba hb1 _) HB2.out
  exact ⟨w2.heap.size, rfl, heap_alloc_new w2 _, hbb.size, Ba hbb _⟩

theorem open_bad (h : Dev w B d g cap lb fb S L F) {at_ words n : Int} (ha : I64 at_) (hw : I64 words) (hn : n = (S.length : Int) / 8) (he : rgE n at_ words ≠ 0) :
    Calls Tryz.prog 6 #[.pointer (some ⟨d, 0, none⟩), .int .i64 at_, .int .i64 words] w fun e w' => e = .returned (.tuple #[.pointer none, .int .i64 (rgE n at_ words)]) ∧ Below w.heap.size w w' := by
  have hr := rg_bad h at_ words ha hw (by rw [← hn]; exact he)
  rw [← hn] at hr
  obtain ⟨x, hx⟩ : ∃ x, x = rgE n at_ words := ⟨_, rfl⟩
  rw [← hx] at hr he ⊢
  have HR := hid hr
  have d1 : (x == 0) = false := by rw [beq_eq_false_iff_ne]; exact he
  clear h hn hr hx ha hw
  go_enter Tryz.func6, Tryz.ntmps6
  go_wp2_with fail
  refine HR.out.mono ?_
  rintro e w1 ⟨rfl, hb1⟩
  go_wp2_with fail
  go_ret2
  exact ⟨rfl, Ba hb1 _⟩
theorem recover_bad (h : Dev w B d g cap lb fb S L F) {at_ words n : Int} (ha : I64 at_) (hw : I64 words) (hn : n = (S.length : Int) / 8) (he : rgE n at_ words ≠ 0) :
    Calls Tryz.prog 23 #[.pointer (some ⟨d, 0, none⟩), .int .i64 at_, .int .i64 words] w fun e w' => e = .returned (.tuple #[.int .i64 0, .int .i64 (rgE n at_ words)]) ∧ Below w.heap.size w w' := by
  have hr := rg_bad h at_ words ha hw (by rw [← hn]; exact he)
  rw [← hn] at hr
  obtain ⟨x, hx⟩ : ∃ x, x = rgE n at_ words := ⟨_, rfl⟩
  rw [← hx] at hr he ⊢
  have HR := hid hr
  have d1 : (x == 0) = false := by rw [beq_eq_false_iff_ne]; exact he
  clear h hn hr hx ha hw
  go_enter Tryz.func23, Tryz.ntmps23
  go_wp2_with fail
  refine HR.out.mono ?_
  rintro e w1 ⟨rfl, hb1⟩
  go_wp2_with fail
  go_ret2
  exact ⟨rfl, Ba hb1 _⟩
set_option maxHeartbeats 2000000 in
theorem recover_none (h : Dev w B d g cap lb fb S L F) {at_ words n : Int} (hn : n = (S.length : Int) / 8) (he : rgE n at_ words = 0) (hr : recOk n at_ words (recB S at_ words) = false) :
    Calls Tryz.prog 23 #[.pointer (some ⟨d, 0, none⟩), .int .i64 at_, .int .i64 words] w fun e w' => e = .returned (.tuple #[.int .i64 0, .int .i64 0]) ∧ Below w.heap.size w w' := by
  obtain ⟨h0, h1, h2⟩ := rgE_ok he
  have HR := hid (rg_ok h at_ words (by rw [← hn]; exact he))
  have HD := hid h
  have HN := hid hn; have HH2 := hid h2; have HRR := hid hr
  clear h hn he h2 hr
  unfold regC at HR
  go_enter Tryz.func23, Tryz.ntmps23
  go_wp2_with fail
  refine HR.out.mono ?_
  rintro e w1 ⟨rfl, hb1⟩
  go_wp2_with fail
  refine (record_any ((HD.out.on hb1).alloc _) HN.out h0 h1 HH2.out).mono ?_
  rintro e w2 ⟨hr, hb2⟩
  rw [HRR.out, if_neg (by simp)] at hr
  subst hr
  have HB2 := hid hb2
  clear hb2
  go_wp2_with fail
  go_ret2
  exact ⟨rfl, Bt (Ba hb1 _) HB2.out⟩
end

theorem Two.fr {b g lb fb : Nat} {w w' w'' : World} (h : Two b b w w') (hf : Fr g lb fb w' w'') (h1 : b ≠ g) (h2 : b ≠ lb) (h3 : b ≠ fb) : Two b b w w'' :=
  ⟨h.l1, h.l2, Nat.le_trans h.sz hf.size, (hf.block _ (Nat.lt_of_lt_of_le h.l1 h.sz) h1 h2 h3).trans h.h1, (hf.block _ (Nat.lt_of_lt_of_le h.l1 h.sz) h1 h2 h3).trans h.h1⟩
theorem reg_begin2p {P : Program} {ops : Array Oper} {Q : Exit → Act → World → Prop} (b1 b2 : Nat) {id : Nat} {a : Act} {w : World} (hm : P.follows .mixedOrders = true) (h1 : b1 < w.heap.size) (h2 : b2 < w.heap.size)
    (h : ∀ w0, Hid (w0.heap = w.heap) → Below w.heap.size w w0 → Two b1 b2 w0 w0 → wpAnyH P .any ops (NoPanic Q) (Two b1 b2 w0) ops.size (Array.replicate ops.size false) a w0) : (Code.region id ops true).wp P Q a w :=
  wp_region_noPanic <| wp_region_held_drew (S := Two b1 b2 w.drew) hm ⟨h1, h2, Nat.le_refl _, rfl, rfl⟩ (fun _ => h w.drew (hid rfl) (Below.drew (B0 w)) ⟨h1, h2, Nat.le_refl _, rfl, rfl⟩)

/-- The steps of sets that may be may be. -/
theorem bring_ok {n at_ words : Int} {N : Nat} (hn : n = (N : Int) / 8) {xs : List (Int × Int)} (h : xs.all (mayB n at_ words) = true) : ∀ s ∈ bringS xs, s.ok N := by
  intro s hs
  unfold bringS bringP at hs
  rw [List.mem_append] at hs
  rcases hs with hs | hs
  · rw [List.mem_flatten] at hs
    obtain ⟨l, hl, hs⟩ := hs
    obtain ⟨x, hx, rfl⟩ := List.mem_map.1 hl
    have hm := List.all_eq_true.1 h x hx
    unfold mayB at hm
    simp only [Bool.and_eq_true, decide_eq_true_eq] at hm
    simp [setS] at hs
    rcases hs with rfl | rfl
    · exact ⟨by omega, by omega, le_length _ _⟩
    · exact ⟨by omega, by omega, by omega⟩
  · simp at hs; subst hs; exact trivial
theorem bringS_length (xs : List (Int × Int)) : (bringS xs).length = xs.length * 2 + 1 := by unfold bringS; rw [List.length_append, bringP_length]; rfl

section
variable {w : World} {B d g cap lb fb : Nat} {D : DS}
set_option maxRecDepth 20000 in
set_option maxHeartbeats 4000000 in
theorem recover_some (h : DevS w B d g cap lb fb D) {at_ words n : Int} (hn : n = (D.S.length : Int) / 8) (he : rgE n at_ words = 0) (hr : recOk n at_ words (recB D.S at_ words) = true) :
    Calls Tryz.prog 23 #[.pointer (some ⟨d, 0, none⟩), .int .i64 at_, .int .i64 words] w fun e w' => e = .returned (.tuple #[.int .i64 (recQ (recB D.S at_ words)), .int .i64 0]) ∧ DevS w' B d g cap lb fb (runS D (bringS (setsL (recY (recB D.S at_ words))))) ∧ Fr g lb fb w w' := by
  obtain ⟨h0, h1, h2⟩ := rgE_ok he
  have HR := hid (rg_ok h at_ words (by rw [← hn]; exact he))
  have HD := hid h
  have HN := hid hn; have HH2 := hid h2; have HRR := hid hr
  have hr2 := hr
  unfold recOk at hr2
  simp only [Bool.and_eq_true, decide_eq_true_eq] at hr2
  obtain ⟨⟨⟨⟨r1, r2⟩, r3⟩, r4⟩, r5⟩ := hr2
  obtain ⟨b, hb⟩ : ∃ b, b = recB D.S at_ words := ⟨_, rfl⟩
  have hq1 := (recQ_lt b).1
  have hc1 : recC (recB D.S at_ words) < 5000 := by
    have k1 : (recB D.S at_ words).length ≤ D.S.length := by unfold recB; rw [List.length_take, List.length_drop]; omega
    have k2 := h.len.2
    omega
  rw [← hb] at hc1
  rw [← hb] at r1 r2 r3 r5 ⊢
  have HBb := hid hb
  have hyl : (recY b).length = recC b * 16 := by unfold recY; rw [List.length_take, List.length_drop]; omega
  have HYL := hid hyl; have HC1 := hid hc1; have HR1 := hid r1; have HR5 := hid r5
  obtain ⟨Q, hQ⟩ : ∃ Q, Q = recQ b := ⟨_, rfl⟩
  rw [← hQ] at hq1 r2 ⊢
  have HQ := hid hQ
  have dq : ((Q : Int) == 0) = false := by rw [beq_eq_false_iff_ne]; omega
  clear h hn he h2 hr r1 r2 r3 r4 r5 hb hyl hQ hc1 hq1
  unfold regC at HR
  go_enter Tryz.func23, Tryz.ntmps23
  go_wp2_with fail
  refine HR.out.mono ?_
  rintro e w1 ⟨rfl, hb1⟩
  obtain ⟨bx, hbx⟩ : ∃ bx, bx = w1.heap.size := ⟨_, rfl⟩
  go_wp2_with fail
  refine (record_any ((Dev.on HD.out hb1).alloc _) HN.out h0 h1 HH2.out).mono ?_
  rintro e w2 ⟨hr, hb2⟩
  rw [HRR.out, if_pos rfl, ← HBb.out, ← HQ.out] at hr
  obtain ⟨v, rfl, hblk⟩ := hr
  have hrb := heap_alloc_new w1 (.cells #[.pointer (some ⟨d, 0, none⟩), .int .i64 at_, .int .i64 words] 73)
  have hrb2 := (hb2.block _ (row_lt hrb)).trans hrb
  have HB2 := hid hb2; have HBK := hid hblk
  rw [← hbx] at hrb2 ⊢
  have hbl2 : Below w.heap.size w w2 := Bt (Ba hb1 _) HB2.out
  have HW2 := hid hbl2
  have HRB := hid hrb2
  have hbxl : bx < w2.heap.size := row_lt hrb2
  have HBX : Hid (w.heap.size ≤ bx) := by rw [hbx]; exact hb1.size
  obtain ⟨q9, off9, c9, e9, hr9⟩ := hblk.rd
  rw [HYL.out] at e9
  subst e9
  clear hb2 hblk hrb hrb2 hbl2 hbx hr9
  go_wp2_with fail
  refine reg_begin2p bx bx (by kernel_rfl) hbxl hbxl (fun w0a hh0a hx0a hHeld => ?_)
  have f0 : ∀ w', Two bx bx w0a w' → w'.cell? ⟨bx, 0, none⟩ = some (.pointer (some ⟨d, 0, none⟩)) := fun w' hw => by rw [row_cell (hw.h1.trans (by rw [hh0a.out]; exact HRB.out))]; rfl
  have f1 : ∀ w', Two bx bx w0a w' → w'.cell? ⟨bx, 1, none⟩ = some (.int .i64 at_) := fun w' hw => by rw [row_cell (hw.h1.trans (by rw [hh0a.out]; exact HRB.out))]; rfl
  have f2 : ∀ w', Two bx bx w0a w' → w'.cell? ⟨bx, 2, none⟩ = some (.int .i64 words) := fun w' hw => by rw [row_cell (hw.h1.trans (by rw [hh0a.out]; exact HRB.out))]; rfl
  refine reg_take2 0 (v := ?vy1_0) at0 (by kernel_rfl) (by kernel_rfl) (by kernel_rfl) (by rfl) ?hyy1_0 hHeld ?resty1_0
  case hyy1_0 => (intro w' hSw; go_simp; try with_reducible rfl)
  try simp only [Act.put, List.setIfInBounds_toArray, List.set_cons_zero, List.set_cons_succ]
  refine reg_take2 1 (v := ?vy2_1) (atS at0) (by kernel_rfl) (by kernel_rfl) (by kernel_rfl) (by rfl) ?hyy2_1 hHeld ?resty2_1
  case hyy2_1 => (intro w' hSw; go_simp; try with_reducible rfl)
  try simp only [Act.put, List.setIfInBounds_toArray, List.set_cons_zero, List.set_cons_succ]
  refine wpAnyH_ready (rs := [2]) (by kernel_rfl) (by simp) ?_
  refine AllReadyH.cons (atS (atS at0)) (fun K hK => ?_) AllReadyH.nil
  go_simp
  refine (setsOf_make _ _ _).mono ?_
  rintro e wz ⟨rfl, rfl⟩
  obtain ⟨w2a, hw2⟩ : ∃ w', w' = w0a.alloc (.cells #[.slice (some ⟨q9, off9, none⟩) (recC b * 16) c9] 22) := ⟨_, rfl⟩
  have hb3 : Below w0a.heap.size w0a w2a := by rw [hw2]; exact B1 _ _
  have hc3 : w2a.heap[w0a.heap.size]? = some (.cells #[.slice (some ⟨q9, off9, none⟩) (recC b * 16) c9] 22 (0, 0)) := by rw [hw2]; exact heap_alloc_new _ _
  have HC3 := hid hc3
  have HB3 := hid (Bt hx0a hb3)
  rw [← hw2]
  clear hw2 hc3
  go_wp2_with fail
  refine hK.out _ _ (hHeld.on hb3) (fun hHeld => ?_)
  clear hK K
  try simp only [Act.put, List.setIfInBounds_toArray, List.set_cons_zero, List.set_cons_succ]
  refine wpAnyH_ready (rs := [3]) (by kernel_rfl) (by simp) ?_
  refine AllReadyH.cons (atS (atS (atS at0))) (fun K hK => ?_) AllReadyH.nil
  go_simp
  refine (bring_any (lo := w.heap.size) at_ words (setsItr (HBK.out.on HB3.out) HC3.out (m := recC b) HYL.out HR1.out (by have := HC1.out; rw [HYL.out]; omega)) (setsL_ok _) (by have := HC1.out; rw [setsL_length, HYL.out]; omega) (by have := HB3.out.size; have := HW2.out.size; omega)).mono ?_
  rintro e w3a ⟨v5, rfl, hst5, hb5⟩
  have HB5 := hid (Bt HB3.out hb5)
  have HST := hid hst5
  clear hst5
  go_wp2_with fail
  refine hK.out _ _ (hHeld.on hb5) (fun hHeld => ?_)
  clear hK K
  try simp only [Act.put, List.setIfInBounds_toArray, List.set_cons_zero, List.set_cons_succ]
  refine wpAnyH_ready (rs := [4]) (by kernel_rfl) (by simp) ?_
  refine AllReadyH.cons (atS (atS (atS (atS at0)))) (fun K hK => ?_) AllReadyH.nil
  go_simp
  refine (run_any (D := D) (Dev.on (Dev.on HD.out HW2.out) HB5.out) HST.out (Dev.glt HD.out) (Dev.llt HD.out) (Dev.flt HD.out) (by have := HB3.out.size; have := HW2.out.size; omega) (bring_ok HN.out HR5.out) (by have := HC1.out; rw [bringS_length, setsL_length, HYL.out]; omega)).mono ?_
  rintro e w4a ⟨rfl, hd6, hf6⟩
  have HD6 := hid hd6
  clear hd6
  go_wp2_with fail
  refine hK.out _ _ (hHeld.fr hf6 (by have := HBX.out; have := Dev.glt HD.out; omega) (by have := HBX.out; have := Dev.llt HD.out; omega) (by have := HBX.out; have := Dev.flt HD.out; omega)) (fun hHeld => ?_)
  clear hK K
  try simp only [Act.put, List.setIfInBounds_toArray, List.set_cons_zero, List.set_cons_succ]
  refine wpAnyH_done (by kernel_rfl) ?_ _
  refine NoPanic.normal ?_
  go_wp2_with fail
  go_ret2
  exact ⟨rfl, HD6.out, ((Fr.refl g lb fb w).then (Bt HW2.out HB5.out)).trans hf6⟩
end
end Go.Proofs.YteggkojlpgkhbaaGreat
