/-
  wal: record: what a region has.
-/
import Derived.Test.YteggkojlpgkhbaaGreatWalV
namespace Go.Proofs.YteggkojlpgkhbaaGreat
open Go.RowKit Go.Maps Go.Shelf
set_option linter.unusedVariables false

theorem bequal_any {w : World} {A A2 : Option Addr} {n c n2 c2 : Nat} {l l2 : List UInt8} (h : Rd w w.heap.size A n c l) (h2 : Rd w w.heap.size A2 n2 c2 l2) :
    Calls Tryz.prog 61 #[.slice A n c, .slice A2 n2 c2] w fun e w' => e = .returned (.bool (decide (l = l2))) ∧ w' = w := by
  have k1 := h.conv; have k2 := h2.conv
  clear h h2
  go_enter Tryz.func61, Tryz.ntmps61
  go_wp2_with fail
  go_ret
  refine ⟨?_, rfl⟩
  show Ending.returned (Value.bool (l == l2)) = _
  rw [show (l == l2) = decide (l = l2) from by rw [Bool.eq_iff_iff]; simp]

/-! ### What a region has -/
def recB (S : List UInt8) (at_ words : Int) : List UInt8 := (S.drop (at_ * 8).toNat).take (words * 8).toNat
def recC (b : List UInt8) : Nat := (num (b.take 2)).toNat
def recQ (b : List UInt8) : Nat := (num ((b.drop 2).take 4)).toNat
def recY (b : List UInt8) : List UInt8 := (b.drop 8).take (recC b * 16)
/-- Whether the bytes of a region are a record, whose sets all may be. -/
def recOk (n at_ words : Int) (b : List UInt8) : Bool :=
  decide (1 ≤ recC b) && decide (1 ≤ recQ b) && decide (recC b * 16 + 8 ≤ b.length) && decide (b.take 8 = headL (recC b) (recQ b) (recY b)) && (setsL (recY b)).all (mayB n at_ words)
theorem recC_lt (b : List UInt8) : recC b < 65536 ∧ num (b.take 2) = recC b := by
  have h := num_bounds (b.take 2)
  have hp : pw ((b.take 2).length : Int) ≤ pw 2 := by
    have : (b.take 2).length ≤ 2 := by simp; omega
    rcases (show (b.take 2).length = 0 ∨ (b.take 2).length = 1 ∨ (b.take 2).length = 2 by omega) with e | e | e <;> rw [e] <;> decide
  rw [pw2] at hp
  unfold recC
  omega
theorem recQ_lt (b : List UInt8) : recQ b < 4294967296 ∧ num ((b.drop 2).take 4) = recQ b := by
  have h := num_bounds ((b.drop 2).take 4)
  have hp : pw (((b.drop 2).take 4).length : Int) ≤ pw 4 := by
    have : ((b.drop 2).take 4).length ≤ 4 := by simp; omega
    rcases (show ((b.drop 2).take 4).length = 0 ∨ ((b.drop 2).take 4).length = 1 ∨ ((b.drop 2).take 4).length = 2 ∨ ((b.drop 2).take 4).length = 3 ∨ ((b.drop 2).take 4).length = 4 by omega) with e | e | e | e | e <;> rw [e] <;> decide
  rw [pw4] at hp
  unfold recQ
  omega
theorem setsL_ok (l : List UInt8) : ∀ x ∈ setsL l, I64 x.1 ∧ U64 x.2 := by
  intro x hx
  obtain ⟨i, _, rfl⟩ := List.mem_map.1 hx
  refine ⟨wrap64_wf _, ?_⟩
  have h := num_bounds ((l.drop (i * 16 + 8)).take 8)
  have hp : pw (((l.drop (i * 16 + 8)).take 8).length : Int) ≤ pw 8 := by
    have : ((l.drop (i * 16 + 8)).take 8).length ≤ 8 := by simp; omega
    rcases (show ((l.drop (i * 16 + 8)).take 8).length = 0 ∨ ((l.drop (i * 16 + 8)).take 8).length = 1 ∨ ((l.drop (i * 16 + 8)).take 8).length = 2 ∨ ((l.drop (i * 16 + 8)).take 8).length = 3 ∨ ((l.drop (i * 16 + 8)).take 8).length = 4 ∨ ((l.drop (i * 16 + 8)).take 8).length = 5 ∨ ((l.drop (i * 16 + 8)).take 8).length = 6 ∨ ((l.drop (i * 16 + 8)).take 8).length = 7 ∨ ((l.drop (i * 16 + 8)).take 8).length = 8 by omega) with e | e | e | e | e | e | e | e | e <;> rw [e] <;> decide
  exact ⟨h.1, by show num _ < _; omega⟩

/-- A slice that reads as l, with its block. -/
def Blk (w : World) (lo : Nat) (v : Value) (l : List UInt8) : Prop :=
  ∃ q off c cs, v = .slice (some ⟨q, off, none⟩) l.length c ∧ lo ≤ q ∧ l.length ≤ c ∧ c ≤ maxLen ∧ w.heap[q]? = some (.cells cs 5 (0, 0)) ∧ ∀ i (h : i < l.length), cs[off + i]? = some (bv l[i])
theorem Blk.on {w w' : World} {lo : Nat} {v : Value} {l : List UInt8} (h : Blk w lo v l) (hb : Below w.heap.size w w') : Blk w' lo v l := by
  obtain ⟨q, off, c, cs, h1, h2, h3, h4, h5, h6⟩ := h
  exact ⟨q, off, c, cs, h1, h2, h3, h4, (hb.block _ (row_lt h5)).trans h5, h6⟩
theorem Blk.rd {w : World} {lo : Nat} {v : Value} {l : List UInt8} (h : Blk w lo v l) : ∃ q off c, v = .slice (some ⟨q, off, none⟩) l.length c ∧ Rd w w.heap.size (some ⟨q, off, none⟩) l.length c l := by
  obtain ⟨q, off, c, cs, h1, h2, h3, h4, h5, h6⟩ := h
  exact ⟨q, off, c, h1, rfl, h3, h4, (fun h => by cases h), fun _ => ⟨q, off, rfl, row_lt h5, fun i hi => by rw [row_cell h5]; exact h6 i hi⟩⟩

theorem setsItr {w : World} {lo b1 : Nat} {v : Value} {l : List UInt8} {m : Nat} (h : Blk w lo v l) (hb1 : w.heap[b1]? = some (.cells #[v] 22 (0, 0))) (hl : l.length = m * 16) (hm : 1 ≤ m) (hmax : l.length ≤ 1000000) :
    Itr w 77 #[.pointer (some ⟨b1, 0, none⟩)] (setsL l) KeepC := by
  obtain ⟨q, off, c, cs, rfl, h2, h3, h4, h5, h6⟩ := h
  exact ⟨sets_iter hb1 hl hm h3 h4 hmax h5 h6, enters_of Tryz.func77 (by kernel_rfl) rfl, fun h k => KeepC.trans h k, fun W l o o' _ h hc => KeepC.put W l o o' h hc, fun W W' _ h => h⟩

/-- What record answers. -/
def RecPost (R : Bool) (w : World) (Q : Nat) (y : List UInt8) (e : Ending) (w' : World) : Prop :=
  (if R = true then ∃ v, e = .returned (.tuple #[.int .i64 Q, v]) ∧ Blk w' w.heap.size v y else e = .returned (.tuple #[.int .i64 0, .slice none 0 0])) ∧ Below w.heap.size w w'
/-- What record reads ahead of its decisions. -/
structure RecPre (w w1 : World) (b : List UInt8) (q c : Nat) (v : Value) : Prop where
  hv : v = .slice (some ⟨q, 0, none⟩) b.length c
  hb : Below w.heap.size w w1
  hq : w.heap.size ≤ q
  hc : b.length ≤ c
  hm : c ≤ maxLen
  hcs : ∃ cs, w1.heap[q]? = some (.cells cs 5 (0, 0)) ∧ ∀ i (h : i < b.length), cs[0 + i]? = some (bv b[i])
section
variable {w : World} {B d g cap lb fb : Nat} {S : List UInt8} {L : Int → Option (List UInt8)} {F : Int → Bool}
theorem read_pre (h : Dev w B d g cap lb fb S L F) {at_ words n : Int} (hn : n = (S.length : Int) / 8) (h0 : 0 ≤ at_) (h1 : 1 ≤ words) (h2 : at_ + words ≤ n) :
    (recB S at_ words).length = (words * 8).toNat ∧ ∀ o, Calls Tryz.prog 24 #[.pointer (some ⟨d, 0, none⟩), .int .i64 (at_ * 8), .int .i64 (words * 8)] (w.alloc o) fun e w' => ∃ q c v, e = .returned (.tuple #[v, .int .i64 0]) ∧ RecPre (w.alloc o) w' (recB S at_ words) q c v := by
  have hl1 := h.len.1; have hl2 := h.len.2
  have hlen : (recB S at_ words).length = (words * 8).toNat := by unfold recB; rw [List.length_take, List.length_drop]; omega
  refine ⟨hlen, fun o => ?_⟩
  refine (read_ok (h.alloc o) (at_ * 8) (words * 8) (i64_iff.2 (by omega)) (i64_iff.2 (by omega)) (by unfold hE; rw [if_neg (by omega), if_neg (by omega)])).mono ?_
  rintro e w1 ⟨v, rfl, ho, hb⟩
  obtain ⟨q, c, cs, hv, k1, k2, k3, k4, k5⟩ := own_at ho (by show 0 < (recB S at_ words).length; rw [hlen]; omega)
  exact ⟨q, c, v, rfl, hv, hb, k1, k2, k3, cs, k4, k5⟩
end
theorem RecPre.part {w w1 : World} {b : List UInt8} {q c : Nat} {v : Value} (h : RecPre w w1 b q c v) {off n cc : Nat} (h1 : off + n ≤ b.length) (h2 : n ≤ cc) (h3 : cc ≤ maxLen) : Blk w1 w.heap.size (.slice (some ⟨q, off, none⟩) n cc) ((b.drop off).take n) := by
  obtain ⟨cs, k1, k2⟩ := h.hcs
  have hl : ((b.drop off).take n).length = n := by simp; omega
  refine ⟨q, off, cc, cs, by rw [hl], h.hq, by rw [hl]; exact h2, h3, k1, fun i hi => ?_⟩
  rw [hl] at hi
  have := k2 (off + i) (by omega)
  rw [Nat.zero_add] at this
  rw [this]; simp

section
variable {w : World} {B d g cap lb fb : Nat} {S : List UInt8} {L : Int → Option (List UInt8)} {F : Int → Bool}
set_option maxRecDepth 20000 in
set_option maxHeartbeats 4000000 in
theorem record_short (h : Dev w B d g cap lb fb S L F) {at_ words n : Int} (hn : n = (S.length : Int) / 8) (h0 : 0 ≤ at_) (h1 : 1 ≤ words) (h2 : at_ + words ≤ n) (hk : ¬ (1 ≤ recC (recB S at_ words) ∧ 1 ≤ recQ (recB S at_ words) ∧ recC (recB S at_ words) * 16 + 8 ≤ (recB S at_ words).length)) :
    Calls Tryz.prog 26 #[.agg (regC d at_ words)] w fun e w' => e = .returned (.tuple #[.int .i64 0, .slice none 0 0]) ∧ Below w.heap.size w w' := by
  obtain ⟨hlen, hread⟩ := read_pre h hn h0 h1 h2
  have hl2 := h.len.2
  obtain ⟨b, hb⟩ : ∃ b, b = recB S at_ words := ⟨_, rfl⟩
  rw [← hb] at hlen hread hk
  obtain ⟨m, hm⟩ : ∃ m, m = b.length := ⟨_, rfl⟩
  obtain ⟨hc1, hc2⟩ := recC_lt b
  obtain ⟨hq1, hq2⟩ := recQ_lt b
  obtain ⟨C, hC⟩ : ∃ C, C = recC b := ⟨_, rfl⟩
  obtain ⟨Q, hQ⟩ : ∃ Q, Q = recQ b := ⟨_, rfl⟩
  rw [← hC] at hc1 hc2 hk
  rw [← hQ] at hq1 hq2 hk
  rw [← hm] at hk
  have hm8 : 8 ≤ m := by omega
  have p1 : IntKind.i64.wrap (at_ * 8) = at_ * 8 := by rw [IntKind.wrap_i64]; omega
  have p2 : IntKind.i64.wrap (words * 8) = words * 8 := by rw [IntKind.wrap_i64]; omega
  have p3 : IntKind.i64.wrap (C : Int) = C := by rw [IntKind.wrap_i64]; omega
  have p4 : IntKind.i64.wrap ((C : Int) * 2) = (C : Int) * 2 := by rw [IntKind.wrap_i64]; omega
  have p5 : IntKind.i64.wrap ((C : Int) * 2 * 8) = (C : Int) * 2 * 8 := by rw [IntKind.wrap_i64]; omega
  have HR := hid hread; have HM := hid hm; have HC2 := hid hc2; have HQ2 := hid hq2; have HK := hid hk; have HC1 := hid hc1; have HQ1 := hid hq1
  clear h hread hb hlen hn hl2 hm hc2 hq2 hk hC hQ hc1 hq1 h2
  unfold regC
  go_enter Tryz.func26, Tryz.ntmps26
  go_wp2_with fail
  refine (HR.out _).mono ?_
  rintro e w1 ⟨q, c, v, rfl, hpre⟩
  obtain ⟨rfl, k1, k2, k3, k4, k5⟩ := hpre
  have HP : Hid (RecPre _ w1 b q c _) := ⟨rfl, k1, k2, k3, k4, k5⟩
  rw [← HM.out] at k3 ⊢
  have HB1 := hid k1
  clear k1 k2 k4 k5
  have hmc : m ≤ c := k3
  have hc8 : 8 ≤ c := by omega
  have HH : Hid (∀ w', Below w1.heap.size w1 w' → Rd w' w'.heap.size (some ⟨q, 0, none⟩) 8 c (b.take 8)) := fun w' hw => by
    have hp := (HP.out.part (off := 0) (n := 8) (cc := c) (by rw [← HM.out]; omega) hc8 HP.out.hm).on hw
    obtain ⟨q', off', c', e1, e2⟩ := hp.rd
    have hl8 : ((b.drop 0).take 8).length = 8 := by have := HM.out; simp; omega
    rw [hl8] at e1 e2
    cases e1
    simpa using e2
  have HE1 : Hid (num (List.take 2 (List.drop 0 (List.take 8 b))) = C) := by
    show num _ = _
    rw [List.drop_zero, List.take_take]; exact HC2.out
  have HE2 : Hid (num (List.take 4 (List.drop 2 (List.take 8 b))) = Q) := by
    show num _ = _
    rw [List.drop_take, List.take_take]; exact HQ2.out
  by_cases hq : c = 8
  · subst hq
    go_wp2_with fail
    go_region
    go_wp2_with fail
    refine (get_true _ 8 _ _ 0 2 _ (HH.out _ (Below.drew (B0 w1))) (by decide) (by omega) (by omega)).mono ?_
    rintro e w2 ⟨rfl, hb2⟩
    rw [HE1.out]
    go_wp2_with fail
    refine (get_true _ 8 _ _ 2 4 _ (HH.out _ (Bt (Below.drew (B0 w1)) hb2)) (by decide) (by omega) (by omega)).mono ?_
    rintro e w3 ⟨rfl, hb3⟩
    rw [HE2.out]
    have HB3 := hid (Bt (Bt (Below.drew (B0 w1)) hb2) hb3)
    by_cases z1 : C = 0
    · subst z1
      go_wp2_with fail
      go_ret2
      exact ⟨rfl, Bt (Bt (B1 w _) HB1.out) HB3.out⟩
    · by_cases z2 : Q = 0
      · subst z2
        go_wp2_with fail
        go_ret2
        exact ⟨rfl, Bt (Bt (B1 w _) HB1.out) HB3.out⟩
      · have z3 : decide (((m - 8 : Nat) : Int) < (C : Int) * 2 * 8) = true := by have := HK.out; simp; omega
        go_wp2_with fail
        go_ret2
        exact ⟨rfl, Bt (Bt (B1 w _) HB1.out) HB3.out⟩
  · have hq' : ¬ 8 = c := fun e => hq e.symm
    go_wp2_with fail
    go_region
    go_wp2_with fail
    refine (get_true _ 8 _ _ 0 2 _ (HH.out _ (Below.drew (B0 w1))) (by decide) (by omega) (by omega)).mono ?_
    rintro e w2 ⟨rfl, hb2⟩
    rw [HE1.out]
    go_wp2_with fail
    refine (get_true _ 8 _ _ 2 4 _ (HH.out _ (Bt (Below.drew (B0 w1)) hb2)) (by decide) (by omega) (by omega)).mono ?_
    rintro e w3 ⟨rfl, hb3⟩
    rw [HE2.out]
    have HB3 := hid (Bt (Bt (Below.drew (B0 w1)) hb2) hb3)
    by_cases z1 : C = 0
    · subst z1
      go_wp2_with fail
      go_ret2
      exact ⟨rfl, Bt (Bt (B1 w _) HB1.out) HB3.out⟩
    · by_cases z2 : Q = 0
      · subst z2
        go_wp2_with fail
        go_ret2
        exact ⟨rfl, Bt (Bt (B1 w _) HB1.out) HB3.out⟩
      · have z3 : decide (((m - 8 : Nat) : Int) < (C : Int) * 2 * 8) = true := by have := HK.out; simp; omega
        go_wp2_with fail
        go_ret2
        exact ⟨rfl, Bt (Bt (B1 w _) HB1.out) HB3.out⟩
set_option maxRecDepth 20000 in
set_option maxHeartbeats 8000000 in
theorem record_long (h : Dev w B d g cap lb fb S L F) {at_ words n : Int} (hn : n = (S.length : Int) / 8) (h0 : 0 ≤ at_) (h1 : 1 ≤ words) (h2 : at_ + words ≤ n) (hk : 1 ≤ recC (recB S at_ words) ∧ 1 ≤ recQ (recB S at_ words) ∧ recC (recB S at_ words) * 16 + 8 ≤ (recB S at_ words).length) :
    Calls Tryz.prog 26 #[.agg (regC d at_ words)] w <| RecPost (decide ((recB S at_ words).take 8 = headL (recC (recB S at_ words)) (recQ (recB S at_ words)) (recY (recB S at_ words))) && (setsL (recY (recB S at_ words))).all (mayB n at_ words)) w (recQ (recB S at_ words)) (recY (recB S at_ words)) := by
  obtain ⟨hlen, hread⟩ := read_pre h hn h0 h1 h2
  have hl2 := h.len.2
  obtain ⟨b, hb⟩ : ∃ b, b = recB S at_ words := ⟨_, rfl⟩
  rw [← hb] at hlen hread hk ⊢
  obtain ⟨m, hm⟩ : ∃ m, m = b.length := ⟨_, rfl⟩
  obtain ⟨hc1, hc2⟩ := recC_lt b
  obtain ⟨hq1, hq2⟩ := recQ_lt b
  obtain ⟨C, hC⟩ : ∃ C, C = recC b := ⟨_, rfl⟩
  obtain ⟨Q, hQ⟩ : ∃ Q, Q = recQ b := ⟨_, rfl⟩
  rw [← hC] at hc1 hc2 hk ⊢
  rw [← hQ] at hq1 hq2 hk ⊢
  obtain ⟨R0, hR0⟩ : ∃ R0, R0 = (decide (b.take 8 = headL C Q (recY b)) && (setsL (recY b)).all (mayB n at_ words)) := ⟨_, rfl⟩
  rw [← hR0]
  have HR0 := hid hR0
  clear hR0
  rw [← hm] at hk
  have hm8 : 8 ≤ m := by omega
  obtain ⟨N, hN⟩ : ∃ N : Nat, N = C * 16 := ⟨_, rfl⟩
  have HDV := hid h
  have HNN := hid hn; have HH2 := hid h2
  have hm24 : 24 ≤ m := by omega
  have hNm : N + 8 ≤ m := by omega
  have hN6 : N ≤ 1000000 := by omega
  have p1 : IntKind.i64.wrap (at_ * 8) = at_ * 8 := by rw [IntKind.wrap_i64]; omega
  have p2 : IntKind.i64.wrap (words * 8) = words * 8 := by rw [IntKind.wrap_i64]; omega
  have p3 : IntKind.i64.wrap (C : Int) = C := by rw [IntKind.wrap_i64]; omega
  have p4 : IntKind.i64.wrap ((C : Int) * 2) = (C : Int) * 2 := by rw [IntKind.wrap_i64]; omega
  have p5 : IntKind.i64.wrap ((C : Int) * 2 * 8) = (N : Int) := by rw [IntKind.wrap_i64]; omega
  have p6 : IntKind.i64.wrap (Q : Int) = Q := by rw [IntKind.wrap_i64]; omega
  have n1 : ((C : Int) == 0) = false := by rw [beq_eq_false_iff_ne]; omega
  have n2 : ((Q : Int) == 0) = false := by rw [beq_eq_false_iff_ne]; omega
  have HN := hid hN; have HN6 := hid hN6
  have HR := hid hread; have HM := hid hm; have HC2 := hid hc2; have HQ2 := hid hq2; have HK := hid hk; have HC1 := hid hc1; have HQ1 := hid hq1
  clear h hread hlen hn hl2 hm hc2 hq2 hk hc1 hq1 h2 hN hN6
  have HbS := hid hb; have HCe := hid hC; have HQe := hid hQ
  clear hb hC hQ
  unfold regC
  go_enter Tryz.func26, Tryz.ntmps26
  go_wp2_with fail
  refine (HR.out _).mono ?_
  rintro e w1 ⟨q, c, v, rfl, hpre⟩
  obtain ⟨rfl, k1, k2, k3, k4, k5⟩ := hpre
  have HP : Hid (RecPre _ w1 b q c _) := ⟨rfl, k1, k2, k3, k4, k5⟩
  rw [← HM.out] at k3 ⊢
  have HB1 := hid k1
  clear k1 k2 k4 k5
  have hmc : m ≤ c := k3
  have hc8 : 8 ≤ c := by omega
  have HH : Hid (∀ w', Below w1.heap.size w1 w' → Rd w' w'.heap.size (some ⟨q, 0, none⟩) 8 c (b.take 8)) := fun w' hw => by
    have hp := (HP.out.part (off := 0) (n := 8) (cc := c) (by rw [← HM.out]; omega) hc8 HP.out.hm).on hw
    obtain ⟨q', off', c', e1, e2⟩ := hp.rd
    have hl8 : ((b.drop 0).take 8).length = 8 := by have := HM.out; simp; omega
    rw [hl8] at e1 e2
    cases e1
    simpa using e2
  have HE1 : Hid (num (List.take 2 (List.drop 0 (List.take 8 b))) = C) := by
    show num _ = _
    rw [List.drop_zero, List.take_take]; exact HC2.out
  have HE2 : Hid (num (List.take 4 (List.drop 2 (List.take 8 b))) = Q) := by
    show num _ = _
    rw [List.drop_take, List.take_take]; exact HQ2.out
  have hq : ¬ c = 8 := by omega
  have hq' : ¬ 8 = c := by omega
  go_wp2_with fail
  go_region
  go_wp2_with fail
  refine (get_true _ 8 _ _ 0 2 _ (HH.out _ (Below.drew (B0 w1))) (by decide) (by omega) (by omega)).mono ?_
  rintro e w2 ⟨rfl, hb2⟩
  rw [HE1.out]
  go_wp2_with fail
  refine (get_true _ 8 _ _ 2 4 _ (HH.out _ (Bt (Below.drew (B0 w1)) hb2)) (by decide) (by omega) (by omega)).mono ?_
  rintro e w3 ⟨rfl, hb3⟩
  rw [HE2.out]
  have HB3 := hid (Bt (Bt (Below.drew (B0 w1)) hb2) hb3)
  have HY : Hid (Blk w3 (w.heap.size + 1) (.slice (some ⟨q, 8, none⟩) N (c - 8)) (recY b)) := by
    have := (HP.out.part (off := 8) (n := N) (cc := c - 8) (by rw [← HM.out]; omega) (by omega) (by have := HP.out.hm; omega)).on HB3.out
    rw [World.size_alloc] at this
    unfold recY
    rw [← HCe.out, ← HN.out]; exact this
  have HYL : Hid ((recY b).length = N) := by
    show _ = N
    unfold recY; rw [← HCe.out, ← HN.out, List.length_take, List.length_drop, ← HM.out]; omega
  have HH3 : Hid (Rd w3 w3.heap.size (some ⟨q, 0, none⟩) 8 c (b.take 8)) := HH.out _ HB3.out
  have z3 : decide (((m - 8 : Nat) : Int) < (N : Int)) = false := by simp; omega
  have z4 : N ≤ c - 8 := by omega
  go_wp2_with fail
  have HRY : Hid (∀ w', Ext w3 w' → Rd w' w'.heap.size (some ⟨q, 8, none⟩) N (c - 8) (recY b)) := fun w' hw => by
    obtain ⟨q', off', c', e1, e2⟩ := (HY.out.on hw).rd
    rw [HYL.out] at e1 e2
    cases e1; exact e2
  have HW3 : Hid (Below w.heap.size w w3) := Bt (Bt (B1 w _) HB1.out) HB3.out
  have HRB : Hid (∀ w', Ext w3 w' → w'.heap[w.heap.size]? = some (.cells #[.pointer (some ⟨d, 0, none⟩), .int .i64 at_, .int .i64 words] 73 (0, 0))) := fun w' hw => by
    have h1 := heap_alloc_new w (.cells #[.pointer (some ⟨d, 0, none⟩), .int .i64 at_, .int .i64 words] 73)
    have h2 := ((Bt HB1.out HB3.out).block _ (row_lt h1)).trans h1
    exact (Below.block hw _ (row_lt h2)).trans h2
  by_cases hhd : b.take 8 = headL C Q (recY b)
  · have hdt : decide (b.take 8 = headL C Q (recY b)) = true := by simp [hhd]
    have HR0 := HR0.out
    rw [hdt, Bool.true_and] at HR0
    have HRR := hid HR0
    have HDT := hid hdt
    clear hdt hhd
    clear HR0
    refine reg_begin (by kernel_rfl) (fun w0y hx0y hHeld => ?_)
    have HX := hid hx0y
    refine reg_take 0 (v := ?vb0) at0 (by kernel_rfl) (by kernel_rfl) (by kernel_rfl) (by rfl) ?hyb0 hHeld ?restb0
    case hyb0 => (intro w' hSw; go_simp; try with_reducible rfl)
    try simp only [Act.put, List.setIfInBounds_toArray, List.set_cons_zero, List.set_cons_succ]
    refine reg_take 1 (v := ?vb1) (atS at0) (by kernel_rfl) (by kernel_rfl) (by kernel_rfl) (by rfl) ?hyb1 hHeld ?restb1
    case hyb1 => (intro w' hSw; go_simp; try with_reducible rfl)
    try simp only [Act.put, List.setIfInBounds_toArray, List.set_cons_zero, List.set_cons_succ]
    refine reg_take 2 (v := ?vb2) (atS (atS at0)) (by kernel_rfl) (by kernel_rfl) (by kernel_rfl) (by rfl) ?hyb2 hHeld ?restb2
    case hyb2 => (intro w' hSw; go_simp; try with_reducible rfl)
    try simp only [Act.put, List.setIfInBounds_toArray, List.set_cons_zero, List.set_cons_succ]
    refine reg_take 3 (v := ?vb3) (atS (atS (atS at0))) (by kernel_rfl) (by kernel_rfl) (by kernel_rfl) (by rfl) ?hyb3 hHeld ?restb3
    case hyb3 => (intro w' hSw; go_simp; try with_reducible rfl)
    try simp only [Act.put, List.setIfInBounds_toArray, List.set_cons_zero, List.set_cons_succ]
    refine reg_take 4 (v := ?vb4) (atS (atS (atS (atS at0)))) (by kernel_rfl) (by kernel_rfl) (by kernel_rfl) (by rfl) ?hyb4 hHeld ?restb4
    case hyb4 => (intro w' hSw; go_simp; try with_reducible rfl)
    try simp only [Act.put, List.setIfInBounds_toArray, List.set_cons_zero, List.set_cons_succ]
    refine reg_take 5 (v := ?vb5) (atS5 at0) (by kernel_rfl) (by kernel_rfl) (by kernel_rfl) (by rfl) ?hyb5 hHeld ?restb5
    case hyb5 => (intro w' hSw; go_simp; try with_reducible rfl)
    try simp only [Act.put, List.setIfInBounds_toArray, List.set_cons_zero, List.set_cons_succ]
    refine wpAnyH_ready (rs := [6]) (by kernel_rfl) (by simp) ?_
    refine AllReadyH.cons (atS5 (atS at0)) (fun K hK => ?_) AllReadyH.nil
    go_simp
    refine (head_any C Q (by omega) (by have := HC1.out; omega) (by omega) (by have := HQ1.out; omega) (HRY.out _ HX.out)).mono ?_
    rintro e w6 ⟨v6, rfl, ho6, hb6⟩
    obtain ⟨A6, c6, rfl, hr6⟩ := ho6.rd
    have HR6 := hid hr6
    clear ho6 hr6
    go_wp2_with fail
    refine hK.out _ _ hb6 (fun hHeld => ?_)
    clear hK K
    try simp only [Act.put, List.setIfInBounds_toArray, List.set_cons_zero, List.set_cons_succ]
    refine reg_on hb6 (fun hHeld => ?_)
    refine wpAnyH_ready (rs := [7]) (by kernel_rfl) (by simp) ?_
    refine AllReadyH.cons (atS5 (atS (atS at0))) (fun K hK => ?_) AllReadyH.nil
    go_simp
    refine (bequal_any (HH3.out.on (Bt HX.out hb6)) HR6.out).mono ?_
    rintro e w7 ⟨rfl, rfl⟩
    rw [HDT.out]
    go_wp2_with fail
    refine hK.out _ _ (Ext.refl _) (fun hHeld => ?_)
    clear hK K
    try simp only [Act.put, List.setIfInBounds_toArray, List.set_cons_zero, List.set_cons_succ]
    have HX6 := hid (Bt HX.out hb6)
    have f0 : ∀ w', Ext w7 w' → w'.cell? ⟨w.heap.size, 0, none⟩ = some (.pointer (some ⟨d, 0, none⟩)) := fun w' hw => by rw [row_cell (HRB.out w' (Bt HX6.out hw))]; rfl
    have f1 : ∀ w', Ext w7 w' → w'.cell? ⟨w.heap.size, 1, none⟩ = some (.int .i64 at_) := fun w' hw => by rw [row_cell (HRB.out w' (Bt HX6.out hw))]; rfl
    have f2 : ∀ w', Ext w7 w' → w'.cell? ⟨w.heap.size, 2, none⟩ = some (.int .i64 words) := fun w' hw => by rw [row_cell (HRB.out w' (Bt HX6.out hw))]; rfl
    refine reg_take 8 (v := ?vb8) (atS5 (atS (atS (atS at0)))) (by kernel_rfl) (by kernel_rfl) (by kernel_rfl) (by rfl) ?hyb8 hHeld ?restb8
    case hyb8 => (intro w' hSw; go_simp; try with_reducible rfl)
    try simp only [Act.put, List.setIfInBounds_toArray, List.set_cons_zero, List.set_cons_succ]
    refine reg_take 9 (v := ?vb9) (atS5 (atS (atS (atS (atS at0))))) (by kernel_rfl) (by kernel_rfl) (by kernel_rfl) (by rfl) ?hyb9 hHeld ?restb9
    case hyb9 => (intro w' hSw; go_simp; try with_reducible rfl)
    try simp only [Act.put, List.setIfInBounds_toArray, List.set_cons_zero, List.set_cons_succ]
    refine reg_take 10 (v := ?vb10) (atS5 (atS5 at0)) (by kernel_rfl) (by kernel_rfl) (by kernel_rfl) (by rfl) ?hyb10 hHeld ?restb10
    case hyb10 => (intro w' hSw; go_simp; try with_reducible rfl)
    try simp only [Act.put, List.setIfInBounds_toArray, List.set_cons_zero, List.set_cons_succ]
    refine reg_take 11 (v := ?vb11) (atS5 (atS5 (atS at0))) (by kernel_rfl) (by kernel_rfl) (by kernel_rfl) (by rfl) ?hyb11 hHeld ?restb11
    case hyb11 => (intro w' hSw; go_simp; try with_reducible rfl)
    try simp only [Act.put, List.setIfInBounds_toArray, List.set_cons_zero, List.set_cons_succ]
    refine wpAnyH_ready (rs := [12]) (by kernel_rfl) (by simp) ?_
    refine AllReadyH.cons (atS5 (atS5 (atS (atS at0)))) (fun K hK => ?_) AllReadyH.nil
    go_simp
    refine (setsOf_make _ _ _).mono ?_
    rintro e w12 ⟨rfl, rfl⟩
    obtain ⟨W8, hW8⟩ : ∃ W8, W8 = w7.alloc (.cells #[.slice (some ⟨q, 8, none⟩) N (c - 8)] 22) := ⟨_, rfl⟩
    have hb8 : Below w7.heap.size w7 W8 := by rw [hW8]; exact B1 _ _
    have hc8b : W8.heap[w7.heap.size]? = some (.cells #[.slice (some ⟨q, 8, none⟩) N (c - 8)] 22 (0, 0)) := by rw [hW8]; exact heap_alloc_new _ _
    have HC8 := hid hc8b
    have HX8 := hid (Bt HX6.out hb8)
    rw [← hW8]
    clear hW8 hc8b
    go_wp2_with fail
    refine hK.out _ _ hb8 (fun hHeld => ?_)
    clear hK K
    try simp only [Act.put, List.setIfInBounds_toArray, List.set_cons_zero, List.set_cons_succ]
    refine reg_on hb8 (fun hHeld => ?_)
    refine wpAnyH_ready (rs := [13]) (by kernel_rfl) (by simp) ?_
    refine AllReadyH.cons (atS5 (atS5 (atS (atS (atS at0))))) (fun K hK => ?_) AllReadyH.nil
    go_simp
    refine (allows_any ((HDV.out.on HW3.out).on HX8.out) HNN.out h0 h1 HH2.out (setsItr (HY.out.on HX8.out) HC8.out (m := C) (by rw [HYL.out, HN.out]) (by have := HK.out; omega) (by rw [HYL.out]; exact HN6.out)) (setsL_ok _)).mono ?_
    rintro e w13 ⟨rfl, hb13⟩
    rw [← HRR.out]
    go_wp2_with fail
    refine hK.out _ _ hb13 (fun hHeld => ?_)
    clear hK K
    try simp only [Act.put, List.setIfInBounds_toArray, List.set_cons_zero, List.set_cons_succ]
    refine reg_on hb13 (fun hHeld => ?_)
    refine reg_take 14 (v := ?vb14) (atS5 (atS5 (atS (atS (atS (atS at0)))))) (by kernel_rfl) (by kernel_rfl) (by kernel_rfl) (by rfl) ?hyb14 hHeld ?restb14
    case hyb14 => (intro w' hSw; go_simp; try with_reducible rfl)
    try simp only [Act.put, List.setIfInBounds_toArray, List.set_cons_zero, List.set_cons_succ]
    refine reg_take 15 (v := ?vb15) (atS5 (atS5 (atS5 at0))) (by kernel_rfl) (by kernel_rfl) (by kernel_rfl) (by rfl) ?hyb15 hHeld ?restb15
    case hyb15 => (intro w' hSw; go_simp; try with_reducible rfl)
    try simp only [Act.put, List.setIfInBounds_toArray, List.set_cons_zero, List.set_cons_succ]
    refine wpAnyH_done (by kernel_rfl) ?_ _
    refine NoPanic.normal ?_
    have HZ := hid (Bt HX8.out hb13)
    cases R0 with
    | true =>
      go_wp2_with fail
      go_ret2
      refine ⟨?_, Bt HW3.out HZ.out⟩
      rw [if_pos rfl]
      refine ⟨_, rfl, ?_⟩
      obtain ⟨q1, o1, c1, cs1, k1, k2, k3⟩ := HY.out.on HZ.out
      exact ⟨q1, o1, c1, cs1, k1, by omega, k3⟩
    | false =>
      go_wp2_with fail
      go_ret2
      exact ⟨by rw [if_neg (by simp)]; rfl, Bt HW3.out HZ.out⟩
  · have hdt : decide (b.take 8 = headL C Q (recY b)) = false := by simp [hhd]
    have hr0 := HR0.out
    rw [hdt, Bool.false_and] at hr0
    subst hr0
    have HDT := hid hdt
    clear hdt hhd
    refine reg_begin (by kernel_rfl) (fun w0y hx0y hHeld => ?_)
    have HX := hid hx0y
    refine reg_take 0 (v := ?vc0) at0 (by kernel_rfl) (by kernel_rfl) (by kernel_rfl) (by rfl) ?hyc0 hHeld ?restc0
    case hyc0 => (intro w' hSw; go_simp; try with_reducible rfl)
    try simp only [Act.put, List.setIfInBounds_toArray, List.set_cons_zero, List.set_cons_succ]
    refine reg_take 1 (v := ?vc1) (atS at0) (by kernel_rfl) (by kernel_rfl) (by kernel_rfl) (by rfl) ?hyc1 hHeld ?restc1
    case hyc1 => (intro w' hSw; go_simp; try with_reducible rfl)
    try simp only [Act.put, List.setIfInBounds_toArray, List.set_cons_zero, List.set_cons_succ]
    refine reg_take 2 (v := ?vc2) (atS (atS at0)) (by kernel_rfl) (by kernel_rfl) (by kernel_rfl) (by rfl) ?hyc2 hHeld ?restc2
    case hyc2 => (intro w' hSw; go_simp; try with_reducible rfl)
    try simp only [Act.put, List.setIfInBounds_toArray, List.set_cons_zero, List.set_cons_succ]
    refine reg_take 3 (v := ?vc3) (atS (atS (atS at0))) (by kernel_rfl) (by kernel_rfl) (by kernel_rfl) (by rfl) ?hyc3 hHeld ?restc3
    case hyc3 => (intro w' hSw; go_simp; try with_reducible rfl)
    try simp only [Act.put, List.setIfInBounds_toArray, List.set_cons_zero, List.set_cons_succ]
    refine reg_take 4 (v := ?vc4) (atS (atS (atS (atS at0)))) (by kernel_rfl) (by kernel_rfl) (by kernel_rfl) (by rfl) ?hyc4 hHeld ?restc4
    case hyc4 => (intro w' hSw; go_simp; try with_reducible rfl)
    try simp only [Act.put, List.setIfInBounds_toArray, List.set_cons_zero, List.set_cons_succ]
    refine reg_take 5 (v := ?vc5) (atS5 at0) (by kernel_rfl) (by kernel_rfl) (by kernel_rfl) (by rfl) ?hyc5 hHeld ?restc5
    case hyc5 => (intro w' hSw; go_simp; try with_reducible rfl)
    try simp only [Act.put, List.setIfInBounds_toArray, List.set_cons_zero, List.set_cons_succ]
    refine wpAnyH_ready (rs := [6]) (by kernel_rfl) (by simp) ?_
    refine AllReadyH.cons (atS5 (atS at0)) (fun K hK => ?_) AllReadyH.nil
    go_simp
    refine (head_any C Q (by omega) (by have := HC1.out; omega) (by omega) (by have := HQ1.out; omega) (HRY.out _ HX.out)).mono ?_
    rintro e w6 ⟨v6, rfl, ho6, hb6⟩
    obtain ⟨A6, c6, rfl, hr6⟩ := ho6.rd
    have HR6 := hid hr6
    clear ho6 hr6
    go_wp2_with fail
    refine hK.out _ _ hb6 (fun hHeld => ?_)
    clear hK K
    try simp only [Act.put, List.setIfInBounds_toArray, List.set_cons_zero, List.set_cons_succ]
    refine reg_on hb6 (fun hHeld => ?_)
    refine wpAnyH_ready (rs := [7]) (by kernel_rfl) (by simp) ?_
    refine AllReadyH.cons (atS5 (atS (atS at0))) (fun K hK => ?_) AllReadyH.nil
    go_simp
    refine (bequal_any (HH3.out.on (Bt HX.out hb6)) HR6.out).mono ?_
    rintro e w7 ⟨rfl, rfl⟩
    rw [HDT.out]
    go_wp2_with fail
    refine hK.out _ _ (Ext.refl _) (fun hHeld => ?_)
    clear hK K
    try simp only [Act.put, List.setIfInBounds_toArray, List.set_cons_zero, List.set_cons_succ]
    refine reg_take 8 (v := ?vc8) (atS5 (atS (atS (atS at0)))) (by kernel_rfl) (by kernel_rfl) (by kernel_rfl) (by rfl) ?hyc8 hHeld ?restc8
    case hyc8 => (intro w' hSw; go_simp; try with_reducible rfl)
    try simp only [Act.put, List.setIfInBounds_toArray, List.set_cons_zero, List.set_cons_succ]
    refine reg_take 9 (v := ?vc9) (atS5 (atS (atS (atS (atS at0))))) (by kernel_rfl) (by kernel_rfl) (by kernel_rfl) (by rfl) ?hyc9 hHeld ?restc9
    case hyc9 => (intro w' hSw; go_simp; try with_reducible rfl)
    try simp only [Act.put, List.setIfInBounds_toArray, List.set_cons_zero, List.set_cons_succ]
    refine reg_skip 10 (atS5 (atS5 at0)) (by kernel_rfl) (by kernel_rfl) (by kernel_rfl) (by rfl) hHeld ?_
    try simp only [Act.put, List.setIfInBounds_toArray, List.set_cons_zero, List.set_cons_succ]
    refine reg_skip 11 (atS5 (atS5 (atS at0))) (by kernel_rfl) (by kernel_rfl) (by kernel_rfl) (by rfl) hHeld ?_
    try simp only [Act.put, List.setIfInBounds_toArray, List.set_cons_zero, List.set_cons_succ]
    refine reg_skip 12 (atS5 (atS5 (atS (atS at0)))) (by kernel_rfl) (by kernel_rfl) (by kernel_rfl) (by rfl) hHeld ?_
    try simp only [Act.put, List.setIfInBounds_toArray, List.set_cons_zero, List.set_cons_succ]
    refine reg_skip 13 (atS5 (atS5 (atS (atS (atS at0))))) (by kernel_rfl) (by kernel_rfl) (by kernel_rfl) (by rfl) hHeld ?_
    try simp only [Act.put, List.setIfInBounds_toArray, List.set_cons_zero, List.set_cons_succ]
    refine reg_skip 14 (atS5 (atS5 (atS (atS (atS (atS at0)))))) (by kernel_rfl) (by kernel_rfl) (by kernel_rfl) (by rfl) hHeld ?_
    try simp only [Act.put, List.setIfInBounds_toArray, List.set_cons_zero, List.set_cons_succ]
    refine reg_take 15 (v := ?vc15) (atS5 (atS5 (atS5 at0))) (by kernel_rfl) (by kernel_rfl) (by kernel_rfl) (by rfl) ?hyc15 hHeld ?restc15
    case hyc15 => (intro w' hSw; go_simp; try with_reducible rfl)
    try simp only [Act.put, List.setIfInBounds_toArray, List.set_cons_zero, List.set_cons_succ]
    refine wpAnyH_done (by kernel_rfl) ?_ _
    refine NoPanic.normal ?_
    have HZ := hid (Bt HX.out hb6)
    go_wp2_with fail
    go_ret2
    exact ⟨by rw [if_neg (by simp)]; rfl, Bt HW3.out HZ.out⟩
theorem record_any (h : Dev w B d g cap lb fb S L F) {at_ words n : Int} (hn : n = (S.length : Int) / 8) (h0 : 0 ≤ at_) (h1 : 1 ≤ words) (h2 : at_ + words ≤ n) :
    Calls Tryz.prog 26 #[.agg (regC d at_ words)] w <| RecPost (recOk n at_ words (recB S at_ words)) w (recQ (recB S at_ words)) (recY (recB S at_ words)) := by
  by_cases hk : 1 ≤ recC (recB S at_ words) ∧ 1 ≤ recQ (recB S at_ words) ∧ recC (recB S at_ words) * 16 + 8 ≤ (recB S at_ words).length
  · have e : recOk n at_ words (recB S at_ words) = (decide ((recB S at_ words).take 8 = headL (recC (recB S at_ words)) (recQ (recB S at_ words)) (recY (recB S at_ words))) && (setsL (recY (recB S at_ words))).all (mayB n at_ words)) := by
      unfold recOk; simp [hk.1, hk.2.1, hk.2.2]
    rw [e]; exact record_long h hn h0 h1 h2 hk
  · have e : recOk n at_ words (recB S at_ words) = false := by
      unfold recOk
      rw [Bool.and_eq_false_iff]; left
      rw [Bool.and_eq_false_iff]; left
      simp only [Bool.and_eq_false_iff, decide_eq_false_iff_not]
      omega
    rw [e]
    exact (record_short h hn h0 h1 h2 hk).mono fun e w' he => ⟨by rw [if_neg (by simp)]; exact he.1, he.2⟩
end
end Go.Proofs.YteggkojlpgkhbaaGreat
