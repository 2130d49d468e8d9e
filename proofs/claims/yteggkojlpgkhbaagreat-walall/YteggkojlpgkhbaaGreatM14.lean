/-
  A device behind a script, and the document's words of it.
  The document's answers for layer 4: rows of sets; Inside, Room, May, body, Record.
-/
import Derived.Test.YteggkojlpgkhbaaGreatM13

namespace Go.Proofs.YteggkojlpgkhbaaGreat
open Go.RowKit Go.Maps Go.Shelf
set_option linter.unusedVariables false

set_option maxHeartbeats 1000000 in
theorem rnew_bad {w : World} (b : List UInt8) (h : ¬ (b.length % 8 = 0 ∧ b.length ≤ 65536)) (hm : b.length ≤ maxLen) :
    Calls Tryz.prog 18 #[.string ⟨b.toArray⟩] w fun e w' => e = .returned (.tuple #[.slice none 0 0, .bool false]) ∧ w' = w := by
  unfold maxLen at hm
  generalize hn : b.length = n at h hm
  have HN := hid hn
  by_cases c1 : n % 8 = 0
  · have d1 : ((b.length : Int).tmod 8 != 0) = false := by rw [hn, Int.tmod_eq_emod_of_nonneg (by omega)]; simp; omega
    have d2 : ((b.length : Int) % 8 != 0) = false := by rw [hn]; simp; omega
    have d3 : decide (65536 < (b.length : Int)) = true := by rw [hn]; simp; omega
    have hbm : (b.length : Int) ≤ 9223372036854775807 := by rw [hn]; omega
    clear h c1 hm hn
    go_enter Tryz.func18, Tryz.ntmps18
    go_wp2_with fail
    go_ret2
    exact ⟨rfl, rfl⟩
  · have d1 : ((b.length : Int).tmod 8 != 0) = true := by rw [hn, Int.tmod_eq_emod_of_nonneg (by omega)]; simp; omega
    have d2 : ((b.length : Int) % 8 != 0) = true := by rw [hn]; simp; omega
    have hbm : (b.length : Int) ≤ 9223372036854775807 := by rw [hn]; omega
    clear h c1 hm hn
    go_enter Tryz.func18, Tryz.ntmps18
    go_wp2_with fail
    go_ret2
    exact ⟨rfl, rfl⟩

/-- A device and its words. -/
structure Both (B : Nat) (w : World) (d g cap lb fb base : Nat) (v : Value) (D : DS) : Prop where
  dev : DevS w B d g cap lb fb D
  ow : OwW w base v (wordsOf D)
  hb : base ≤ w.heap.size
  h1 : g < base
  h2 : lb < base
  h3 : fb < base
  h4 : d < base
theorem Both.on {B : Nat} {w w' : World} {d g cap lb fb base : Nat} {v : Value} {D : DS} (h : Both B w d g cap lb fb base v D) (hb : Below w.heap.size w w') : Both B w' d g cap lb fb base v D :=
  ⟨h.dev.on hb, h.ow.on hb, Nat.le_trans h.hb hb.size, h.h1, h.h2, h.h3, h.h4⟩
def Made4 (w w' : World) (e : Ending) : Prop :=
  (e = .returned (.tuple #[.pointer none, .slice none 0 0, .bool false]) ∧ Below w.heap.size w w') ∨
  ∃ d g cap lb fb base v D, e = .returned (.tuple #[.pointer (some ⟨d, 0, none⟩), v, .bool true]) ∧ Both w.heap.size w' d g cap lb fb base v D ∧ D.S.length ≤ 200 ∧ Below w.heap.size w w'
theorem opD_length {D : DS} (o : OpV) (hn : o.bs.length = o.nb) : (opD D o).S.length = D.S.length := by
  unfold opD
  split
  · split
    · rename_i he
      have := hE_ok he
      show (setL _ _ _).length = _
      rw [setL_length _ _ _ (by omega)]
    · rfl
  · split
    · split <;> rfl
    · split
      · rfl
      · split
        · exact (crS_length D.S D.L (fun k => !decide (k ∈ o.ks)) : _)
        · rfl

set_option maxRecDepth 20000 in
set_option maxHeartbeats 4000000 in
theorem made4_any {w : World} {ad : Addr} {A2 : Option Addr} {n c n2 c2 : Nat} {b : List UInt8} {l : List OpV} (hb : Rd w w.heap.size (some ad) n c b) (h : RdO w w.heap.size A2 n2 c2 l) :
    Calls Tryz.prog 4 #[.slice (some ad) n c, .slice A2 n2 c2] w fun e w' => Made4 w w' e := by
  have HL := hid h.1; have HCm := hid (Nat.le_trans h.2.1 h.2.2.1); have HBL := hid hb.1; have HBm := hid (Nat.le_trans hb.2.1 hb.2.2.1)
  have H := hid h; have HR := hid hb
  have hnm : (n : Int) ≤ 9223372036854775807 := by have := HBm.out; unfold maxLen at this; omega
  have hn2m : (n2 : Int) ≤ 9223372036854775807 := by have := HCm.out; unfold maxLen at this; omega
  clear h hb
  go_enter Tryz.func4, Tryz.ntmps4
  go_wp2_with fail
  go_loopw [7, 21] (fun s i wr => ∃ (j : Nat) (z : Int), j ≤ n2 ∧ i = .int .i64 j ∧ s = .int .i64 z ∧ Hid (Below w.heap.size w wr)) (fun _ i _ => n2 - (intOf i).toNat)
  case atStart => exact ⟨0, 0, by omega, rfl, rfl, B0 w⟩
  case round =>
    obtain ⟨j, z, hj, rfl, rfl, hb⟩ := hrel
    by_cases hlt : j < n2
    · obtain ⟨b, off, rfl, hbl, hc⟩ := H.out.2.2.2.2 (by omega)
      have hjl : j < l.length := by have := HL.out; omega
      have hjb : (j : Int) + 1 ≤ 9223372036854775807 := by omega
      obtain ⟨c0, c1, c2, c3, c4⟩ := (hc j hjl).below hb.out hbl
      generalize l[j] = o at c0 c1 c2 c3 c4
      obtain ⟨kind, at_, long, ab, nb, cb, bs, ak, nk, ck, ks⟩ := o
      simp only at c0 c1 c2 c3 c4
      clear hc hjl
      go_wp2_with fail
      exact ⟨⟨j + 1, _, by omega, by go_num, rfl, Ba hb.out _⟩, by simp [intOf]; omega⟩
    · obtain rfl : j = n2 := by omega
      have HB0 := hid hb.out
      obtain ⟨w1, hq⟩ : ∃ w1, w1 = wr := ⟨_, rfl⟩
      subst hq
      have hconv := (HR.out.on HB0.out).conv
      by_cases hl8 : n % 8 = 0 ∧ n ≤ 65536
      · obtain ⟨e8, hm⟩ := hl8
        have E8 := hid e8
        clear e8 hb
        go_wp2_with fail
        refine (of_ok (HR.out.on HB0.out) E8.out hm).mono ?_
        rintro e w2 ⟨d, g, cap, lb, fb, rfl, hd2, hb2⟩
        have HB2 := hid (Bt HB0.out hb2); have HD2 := hid hd2
        clear hb2 hd2 hconv
        have hconv := (HR.out.on HB2.out).conv
        go_wp2_with fail
        have HM8 : Hid (b.length = n / 8 * 8) := by show _ = _; have := HBL.out; have := E8.out; omega
        refine (rnew_ok b HM8.out (by omega)).mono ?_
        rintro e w3 ⟨v3, rfl, ho3, hb3⟩
        rw [new_words b HM8.out] at ho3
        have HBO : Hid (Both w.heap.size w3 d g cap lb fb w2.heap.size v3 (cl b)) := ⟨(HD2.out.on hb3).less (by have := HB0.out.size; omega), ho3, hb3.size, HD2.out.glt, HD2.out.llt, HD2.out.flt, HD2.out.dlt⟩
        have HB3 := hid (Bt HB2.out hb3)
        clear ho3 hb3 hconv HD2
        by_cases c1 : (n : Int) ≤ 200
        · by_cases c2 : (j : Int) ≤ 60
          · by_cases c3 : z ≤ 2000
            · have d1 : decide (200 < (n : Int)) = false := by simp; omega
              have d2 : decide (60 < (j : Int)) = false := by simp; omega
              have d3 : decide (2000 < z) = false := by simp; omega
              have HLEN : Hid ((cl b).S.length ≤ 200) := by show b.length ≤ 200; have := HBL.out; omega
              clear d1 d2 d3
              go_wp2_with fail
              go_loopw [12, 72] (fun r i wr => ∃ (k : Nat) (D : DS), k ≤ j ∧ i = .int .i64 k ∧ Hid (Both w.heap.size wr d g cap lb fb w2.heap.size r D) ∧ Hid (D.S.length ≤ 200) ∧ Hid (Below w.heap.size w wr)) (fun _ i _ => j - (intOf i).toNat)
              case atStart => exact ⟨0, _, by omega, rfl, HBO, HLEN, HB3⟩
              case round =>
                obtain ⟨k, D, hk, rfl, HBo, HLn, HBe⟩ := hrel
                by_cases hlt2 : k < j
                · obtain ⟨b', off, rfl, hbl, hc⟩ := H.out.2.2.2.2 (by omega)
                  have hkl : k < l.length := by have := HL.out; omega
                  have hkb : (k : Int) + 1 ≤ 9223372036854775807 := by omega
                  obtain ⟨c0, c1, c2, c3, c4⟩ := (hc k hkl).below HBe.out hbl
                  have hok := (H.out.2.2.2.1 _ (List.getElem_mem hkl)).below HBe.out
                  generalize l[k] = o at c0 c1 c2 c3 c4 hok
                  obtain ⟨kind, at_, long, ab, nb, cb, bs, ak, nk, ck, ks⟩ := o
                  simp only at c0 c1 c2 c3 c4
                  have HOK := hid hok
                  clear hc hkl hok
                  by_cases k1 : kind = 1
                  · subst k1
                    go_wp2_with fail
                    exact ⟨⟨k + 1, D, by omega, by go_num, hid (HBo.out.on (B1 _ _)), HLn, hid (Ba HBe.out _)⟩, by simp [intOf]; omega⟩
                  · have k1' : (kind == 1) = false := by simpa using k1
                    have HBx := hid (HBo.out.on (B1 wr (.cells #[.int .i64 kind, .int .i64 at_, .int .i64 long, .slice ab nb cb, .slice ak nk ck] 54)))
                    have HBz := hid (Ba HBe.out (.cells #[.int .i64 kind, .int .i64 at_, .int .i64 long, .slice ab nb cb, .slice ak nk ck] 54))
                    have HOx := hid ((HOK.out.below ((Below.refl w.heap.size wr).alloc HBe.out.size (.cells #[.int .i64 kind, .int .i64 at_, .int .i64 long, .slice ab nb cb, .slice ak nk ck] 54))).more (B' := (wr.alloc (.cells #[.int .i64 kind, .int .i64 at_, .int .i64 long, .slice ab nb cb, .slice ak nk ck] 54)).heap.size) (by have := HBe.out.size; simp; omega))
                    go_wp2_with fail
                    refine (do_any HBx.out.dev.good HBx.out.ow HBx.out.hb ⟨kind, at_, long, ab, nb, cb, bs, ak, nk, ck, ks⟩ HOx.out k1).mono ?_
                    rintro e w4 ⟨v4, er, rfl, ho4, hb4⟩
                    have HO4 := hid ho4; have HB4 := hid hb4
                    have HC4 : Hid (∀ i : Nat, w4.cell? ⟨wr.heap.size, i, none⟩ = (wr.alloc (.cells #[.int .i64 kind, .int .i64 at_, .int .i64 long, .slice ab nb cb, .slice ak nk ck] 54)).cell? ⟨wr.heap.size, i, none⟩) := fun i => hb4.cell (p := ⟨wr.heap.size, i, none⟩) (by simp)
                    have f0 := HC4.out 0; have f1 := HC4.out 1; have f2 := HC4.out 2; have f3 := HC4.out 3; have f4 := HC4.out 4
                    simp only [row_cell (heap_alloc_new wr _)] at f0 f1 f2 f3 f4
                    clear ho4 hb4
                    go_wp2_with fail
                    refine (does4_any (HBx.out.dev.on HB4.out) ⟨kind, at_, long, ab, nb, cb, bs, ak, nk, ck, ks⟩ ((HOx.out.below HB4.out).more HB4.out.size)).mono ?_
                    rintro e w5 ⟨rfl, hd5, hf5⟩
                    have HBn : Hid (Both w.heap.size w5 d g cap lb fb w2.heap.size v4 (opD D ⟨kind, at_, long, ab, nb, cb, bs, ak, nk, ck, ks⟩)) := ⟨hd5, HO4.out.fr hf5 HBo.out.h1 HBo.out.h2 HBo.out.h3, Nat.le_trans (Nat.le_trans HBx.out.hb HB4.out.size) hf5.size, HBo.out.h1, HBo.out.h2, HBo.out.h3, HBo.out.h4⟩
                    have HBw : Hid (Below w.heap.size w w5) := (Bt HBz.out HB4.out).trans ((HBx.out.dev.on HB4.out).below hf5)
                    have HLm : Hid ((opD D ⟨kind, at_, long, ab, nb, cb, bs, ak, nk, ck, ks⟩).S.length ≤ 200) := by show _ ≤ _; rw [opD_length _ HOK.out.2.2.2.1.1]; exact HLn.out
                    clear hd5 hf5 f0 f1 f2 f3 f4
                    go_wp2_with fail
                    exact ⟨⟨k + 1, _, by omega, by go_num, HBn, HLm, HBw⟩, by simp [intOf]; omega⟩
                · obtain rfl : k = j := by omega
                  go_wp2_with fail
                  refine bodyPost_ret (v := .tuple #[.pointer (some ⟨d, 0, none⟩), u12, .bool true]) (by simp [results, Tryz.results4, go_sem]) rfl (.inr ⟨d, g, cap, lb, fb, _, u12, D, rfl, HBo.out, HLn.out, HBe.out⟩)
            · have d3 : decide (2000 < z) = true := by simp; omega
              have d1 : decide (200 < (n : Int)) = false := by simp; omega
              have d2 : decide (60 < (j : Int)) = false := by simp; omega
              go_wp2_with fail
              refine bodyPost_ret (v := .tuple #[.pointer none, .slice none 0 0, .bool false]) (by simp [results, Tryz.results4, go_sem]) rfl (.inl ⟨rfl, HB3.out⟩)
          · have d1 : decide (200 < (n : Int)) = false := by simp; omega
            have d2 : decide (60 < (j : Int)) = true := by simp; omega
            go_wp2_with fail
            refine bodyPost_ret (v := .tuple #[.pointer none, .slice none 0 0, .bool false]) (by simp [results, Tryz.results4, go_sem]) rfl (.inl ⟨rfl, HB3.out⟩)
        · have d1 : decide (200 < (n : Int)) = true := by simp; omega
          go_wp2_with fail
          refine bodyPost_ret (v := .tuple #[.pointer none, .slice none 0 0, .bool false]) (by simp [results, Tryz.results4, go_sem]) rfl (.inl ⟨rfl, HB3.out⟩)
      · have HL8 := hid hl8
        clear hl8 hb
        go_wp2_with fail
        refine (of_bad HL8.out HBm.out).mono ?_
        rintro e w2 ⟨rfl, rfl⟩
        go_wp2_with fail
        refine (rnew_bad b (by rw [HBL.out]; exact HL8.out) (by rw [HBL.out]; exact HBm.out)).mono ?_
        rintro e w3 ⟨rfl, rfl⟩
        go_wp2_with fail
        refine bodyPost_ret (v := .tuple #[.pointer none, .slice none 0 0, .bool false]) (by simp [results, Tryz.results4, go_sem]) rfl (.inl ⟨rfl, HB0.out⟩)
end Go.Proofs.YteggkojlpgkhbaaGreat

namespace Go.Proofs.YteggkojlpgkhbaaGreat
open Go.RowKit Go.Maps Go.Shelf
set_option linter.unusedVariables false

def OwT (w : World) (base : Nat) (v : Value) (xs : List (Int × Int)) : Prop := w.ownsRow base 84 2 v xs.length (cellsS xs)
theorem OwT.nil (w : World) (base : Nat) : OwT w base (.slice none 0 0) [] := World.ownsRow_nil _ _ _ _
theorem OwT.on {w w' : World} {base : Nat} {v : Value} {xs : List (Int × Int)} (h : OwT w base v xs) (hb : Below w.heap.size w w') : OwT w' base v xs := by
  refine ⟨h.1, ?_⟩
  rcases h.2 with h1 | ⟨g, cap, cur, hv, hbase, hg, h3⟩
  · exact .inl h1
  · exact .inr ⟨g, cap, cur, hv, hbase, (hb.block g (row_lt hg)).trans hg, h3⟩
theorem OwT.shape {w : World} {base : Nat} {v : Value} {xs : List (Int × Int)} (h : OwT w base v xs) : ∃ A c, v = .slice A xs.length c := by
  rcases h.2 with ⟨h1, h2⟩ | ⟨g, cap, cur, hv, _⟩
  · exact ⟨none, 0, by rw [h2]; exact h1⟩
  · exact ⟨_, cap, hv⟩
theorem OwT.rd {w : World} {base : Nat} {A : Option Addr} {n c : Nat} {xs : List (Int × Int)} (h : OwT w base (.slice A n c) xs) (hx : ∀ x ∈ xs, I64 x.1 ∧ U64 x.2) : RdS w w.heap.size A n c xs ∧ n = xs.length := by
  rcases h.2 with ⟨h1, h2⟩ | ⟨g, cap, cur, hv, hbase, hg, h3, h4, h5, h6⟩
  · cases h1
    exact ⟨⟨by omega, by omega, by simp [maxLen], hx, fun h => by omega⟩, by omega⟩
  · cases hv
    refine ⟨⟨rfl, h3, h4, hx, fun _ => ⟨g, 0, rfl, row_lt hg, fun i hi => ?_⟩⟩, rfl⟩
    have k := cellsS_get xs i hi
    have t : ∀ j : Nat, j < xs.length * 2 → w.cell? ⟨g, j, none⟩ = (cellsS xs)[j]? := fun j hj => by
      rw [row_cell hg, ← h6, List.getElem?_take_of_lt hj, Array.getElem?_toList]
    rw [Nat.zero_add, t _ (by omega), t _ (by omega)]
    exact k
theorem infoT : (Tryz.prog.info? 84).map (fun i => (i.zero, i.size, i.bytes)) = some (some (.agg #[.int .i64 0, .int .u64 0]), 2, 16) := by kernel_rfl
theorem run_appT {w : World} {base : Nat} {v : Value} {xs : List (Int × Int)} (h : OwT w base v xs) {q : Nat} {x : Int × Int} (hq : w.heap[q]? = some (.cells #[.int .i64 x.1, .int .u64 x.2] 84 (0, 0))) (hlen : xs.length ≤ 1000000) (hb : base ≤ w.heap.size) (ty : TypeId) :
    ∃ v' w', (Builtin.append_ #[28, 28] ty #[v, .slice (some ⟨q, 0, none⟩) 1 1]).run Tryz.prog w = .ok v' w' ∧ OwT w' base v' (xs ++ [x]) ∧ w.grownBy w' v.ownBlock := by
  have hi8 := infoT
  cases hi : Tryz.prog.info? 84 with
  | none => rw [hi] at hi8; cases hi8
  | some i =>
    rw [hi] at hi8
    simp only [Option.map_some, Option.some.injEq, Prod.mk.injEq] at hi8
    obtain ⟨hz, hsz, hby⟩ := hi8
    obtain ⟨v', W', hr, ho, hg, hnil⟩ := run_append_own (P := Tryz.prog) w base 28 ty 84 i (.agg #[.int .i64 0, .int .u64 0]) 2 16 Tryz.underlying28 hi hz hsz hby rfl (by omega) v xs.length (cellsS xs) h ⟨q, 0, none⟩ 1 1 [.int .i64 x.1, .int .u64 x.2] rfl (fun j u hj => by rw [add_plain, Nat.zero_add, row_cell hq]; match j, hj with | 0, h => exact h | 1, h => exact h) (by intro u hu; simp at hu; rcases hu with rfl | rfl <;> rfl) (by unfold maxLen; omega) (by omega) hb
    refine ⟨v', W', hr, ?_, hg⟩
    unfold OwT
    have e1 : (xs ++ [x]).length = xs.length + 1 := by simp
    have e2 : cellsS (xs ++ [x]) = cellsS xs ++ [.int .i64 x.1, .int .u64 x.2] := by simp [cellsS]
    rw [e1, e2]; exact ho
theorem wpList_appT {w w' : World} {ops : Array Oper} {rest : List Oper} {o : Oper} {a : Act} {Q : Exit → Act → World → Prop} {v v' u : Value} (hgd : o.guard = none) (s x : Operand)
    (hop : o.op = .call { callee := .builtin .append, args := #[s, x], argTypes := #[28, 28] }) (hs : a.eval s = v) (hx : a.eval x = u)
    (hrun : (Builtin.append_ #[28, 28] o.type #[v, u]).run Tryz.prog w = .ok v' w') (hk : wpList Tryz.prog ops Q rest (a.put o.dst v') w') : wpList Tryz.prog ops Q (o :: rest) a w := by
  refine wpList_plain hgd fun K hK => ?_
  unfold Oper.wp execOp
  simp only [hop, resolve, invoke, builtin, Sem.run_bind, Sem.run_pure, Result.andThen_ok, List.map_toArray, List.map_cons, List.map_nil, hs, hx, hrun]
  exact hK _ _ hk

set_option maxHeartbeats 1000000 in
theorem rin4_any {w : World} {A : Option Addr} {n c : Nat} (at_ words : Int) (ha : I64 at_) (hw : I64 words) (hn : n ≤ 8192) :
    Calls Tryz.prog 7 #[.slice A n c, .agg #[.int .i64 at_, .int .i64 words]] w fun e w' => e = .returned (.int .i64 (rgE n at_ words)) ∧ Below w.heap.size w w' := by
  have ha2 := i64_iff.1 ha; have hw2 := i64_iff.1 hw
  have hni : (n : Int) ≤ 8192 := by omega
  clear ha hw hn
  by_cases c1 : words < 1
  · have e : rgE n at_ words = 1 := by unfold rgE; rw [if_pos c1]
    rw [e]
    go_enter Tryz.func7, Tryz.ntmps7
    go_wp2_with fail
    go_ret
    exact ⟨rfl, B1 _ _⟩
  have d1 : decide (words < 1) = false := by simp; omega
  by_cases c2 : at_ < 0
  · have e : rgE n at_ words = 30 := by unfold rgE; rw [if_neg c1, if_pos (.inl c2)]
    rw [e]
    go_enter Tryz.func7, Tryz.ntmps7
    go_wp2_with fail
    go_ret
    exact ⟨rfl, B1 _ _⟩
  have d2 : decide (at_ < 0) = false := by simp; omega
  by_cases c3 : (n : Int) < at_
  · have e : rgE n at_ words = 30 := by unfold rgE; rw [if_neg c1, if_pos (.inr (by omega))]
    have d3 : decide ((n : Int) < at_) = true := by simp; omega
    rw [e]
    go_enter Tryz.func7, Tryz.ntmps7
    go_wp2_with fail
    go_ret
    exact ⟨rfl, B1 _ _⟩
  have d3 : decide ((n : Int) < at_) = false := by simp; omega
  by_cases c4 : (n : Int) - at_ < words
  · have e : rgE n at_ words = 30 := by unfold rgE; rw [if_neg c1, if_pos (.inr c4)]
    have d4 : decide ((n : Int) - at_ < words) = true := by simp; omega
    rw [e]
    go_enter Tryz.func7, Tryz.ntmps7
    go_wp2_with fail
    go_ret
    exact ⟨rfl, B1 _ _⟩
  have d4 : decide ((n : Int) - at_ < words) = false := by simp; omega
  have e : rgE n at_ words = 0 := by unfold rgE; rw [if_neg c1, if_neg (by omega)]
  rw [e]
  go_enter Tryz.func7, Tryz.ntmps7
  go_wp2_with fail
  go_ret
  exact ⟨rfl, B1 _ _⟩

theorem rroom_any {w : World} (at_ words : Int) (h1 : 1 ≤ words) (h2 : words ≤ 8192) :
    Calls Tryz.prog 10 #[.agg #[.int .i64 at_, .int .i64 words]] w fun e w' => e = .returned (.int .i64 ((words - 1) / 2)) ∧ Below w.heap.size w w' := by
  go_enter Tryz.func10, Tryz.ntmps10
  go_wp2_with fail
  go_ret
  exact ⟨rfl, B1 _ _⟩

set_option maxHeartbeats 1000000 in
theorem rmay_any {w : World} {A : Option Addr} {n c : Nat} (at_ words : Int) (h0 : 0 ≤ at_) (h1 : 1 ≤ words) (h2 : at_ + words ≤ 8192) (hn : n ≤ 8192) (x : Int × Int) (hx : I64 x.1) :
    Calls Tryz.prog 29 #[.slice A n c, .agg #[.int .i64 at_, .int .i64 words], .agg #[.int .i64 x.1, .int .u64 x.2]] w fun e w' => e = .returned (.bool (mayB n at_ words x)) ∧ Below w.heap.size w w' := by
  obtain ⟨x1, x2⟩ := x
  have hx2 := i64_iff.1 hx
  simp only at hx hx2 ⊢
  clear hx
  have hni : (n : Int) ≤ 8192 := by omega
  have hb : mayB n at_ words (x1, x2) = (decide (0 ≤ x1) && decide (x1 < n) && !(decide (at_ ≤ x1) && decide (x1 < at_ + words))) := rfl
  clear hn
  by_cases c1 : 0 ≤ x1
  · have d1 : decide (0 ≤ x1) = true := by simpa using c1
    by_cases c2 : x1 < n
    · have d2 : decide (x1 < (n : Int)) = true := by simpa using c2
      by_cases c3 : x1 < at_
      · have d3 : decide (x1 < at_) = true := by simpa using c3
        have e : mayB n at_ words (x1, x2) = true := by rw [hb, d1, d2, decide_eq_false (show ¬ at_ ≤ x1 by omega)]; rfl
        rw [e]; clear hb e
        go_enter Tryz.func29, Tryz.ntmps29
        go_wp2_with fail
        go_ret
        exact ⟨rfl, Ba (B1 _ _) _⟩
      · have d3 : decide (x1 < at_) = false := by simpa using c3
        by_cases c4 : at_ + words ≤ x1
        · have d4 : decide (at_ + words ≤ x1) = true := by simpa using c4
          have e : mayB n at_ words (x1, x2) = true := by rw [hb, d1, d2, decide_eq_false (show ¬ x1 < at_ + words by omega)]; simp
          rw [e]; clear hb e
          go_enter Tryz.func29, Tryz.ntmps29
          go_wp2_with fail
          go_ret
          exact ⟨rfl, Ba (B1 _ _) _⟩
        · have d4 : decide (at_ + words ≤ x1) = false := by simpa using c4
          have e : mayB n at_ words (x1, x2) = false := by rw [hb, d1, d2, decide_eq_true (show at_ ≤ x1 by omega), decide_eq_true (show x1 < at_ + words by omega)]; rfl
          rw [e]; clear hb e
          go_enter Tryz.func29, Tryz.ntmps29
          go_wp2_with fail
          go_ret
          exact ⟨rfl, Ba (B1 _ _) _⟩
    · have d2 : decide (x1 < (n : Int)) = false := by simpa using c2
      have e : mayB n at_ words (x1, x2) = false := by rw [hb, d1, d2]; rfl
      rw [e]; clear hb e
      go_enter Tryz.func29, Tryz.ntmps29
      go_wp2_with fail
      go_ret
      exact ⟨rfl, Ba (B1 _ _) _⟩
  · have d1 : decide (0 ≤ x1) = false := by simpa using c1
    have e : mayB n at_ words (x1, x2) = false := by rw [hb, d1]; rfl
    rw [e]; clear hb e
    go_enter Tryz.func29, Tryz.ntmps29
    go_wp2_with fail
    go_ret
    exact ⟨rfl, Ba (B1 _ _) _⟩

theorem rput8 (n : Int) (h : U64 n) : rputL n 8 = le n 8 := by unfold rputL; rw [if_pos (fits8 n h)]; rfl
theorem rput2 (n : Int) (h0 : 0 ≤ n) (h : n < 65536) : rputL n 2 = le n 2 := by
  unfold rputL; rw [if_pos (by simp [fits, show isW 2 = true from rfl, pw2]; omega)]; rfl
theorem rput4n (n : Int) (h0 : 0 ≤ n) (h : n < 4294967296) : rputL n 4 = le n 4 := by
  unfold rputL; rw [if_pos (by simp [fits, show isW 4 = true from rfl, pw4]; omega)]; rfl

set_option maxRecDepth 20000 in
set_option maxHeartbeats 2000000 in
theorem rbody_any {w : World} {A : Option Addr} {n c : Nat} {xs : List (Int × Int)} (h : RdS w w.heap.size A n c xs) (hn : n ≤ 10000) (h0 : ∀ x ∈ xs, 0 ≤ x.1) :
    Calls Tryz.prog 64 #[.slice A n c] w fun e w' => e = .returned (.string ⟨(bodyL xs).toArray⟩) ∧ Below w.heap.size w w' := by
  have HL : Hid (xs.length = n) := h.1
  have hni : (n : Int) ≤ 10000 := by omega
  have H := hid h; have H0 := hid h0
  clear h hn h0
  go_enter Tryz.func64, Tryz.ntmps64
  go_wp2_with fail
  go_loopw [3, 4] (fun s i wr => ∃ (k : Nat) (X : List UInt8), k ≤ n ∧ i = .int .i64 k ∧ s = .string ⟨X.toArray⟩ ∧ Hid (X = bodyL (xs.take k)) ∧ Hid (Below w.heap.size w wr)) (fun _ i _ => n - (intOf i).toNat)
  case atStart => exact ⟨0, [], by omega, rfl, rfl, hid rfl, hid (B0 w)⟩
  case round =>
    obtain ⟨k, X, hk, rfl, rfl, HX, HB⟩ := hrel
    by_cases hlt : k < n
    · have hkl : k < xs.length := by have := HL.out; omega
      obtain ⟨b, off, rfl, hbl, hc⟩ := H.out.2.2.2.2 (by omega)
      obtain ⟨x, hx⟩ : ∃ x, x = xs[k] := ⟨_, rfl⟩
      have HXk : Hid (xs[k]? = some x) := by show _ = _; rw [hx]; exact List.getElem?_eq_getElem hkl
      have hxm : x ∈ xs := by rw [hx]; exact List.getElem_mem _
      have hx64 := H.out.2.2.2.1 x hxm
      have hx0 := H0.out x hxm
      have hc1 := (hc k hkl).1; have hc2 := (hc k hkl).2
      rw [← hx] at hc1 hc2
      have HC1 : Hid (∀ w', Below w.heap.size w w' → w'.cell? ⟨b, off + k * 2, none⟩ = some (.int .i64 x.1)) := fun w' h => (h.cell (p := ⟨b, off + k * 2, none⟩) hbl).trans hc1
      have HC2 : Hid (∀ w', Below w.heap.size w w' → w'.cell? ⟨b, off + k * 2 + 1, none⟩ = some (.int .u64 x.2)) := fun w' h => (h.cell (p := ⟨b, off + k * 2 + 1, none⟩) hbl).trans hc2
      have hx1 := i64_iff.1 hx64.1
      have HU1 : Hid (U64 x.1) := ⟨hx0, by rw [pw8]; omega⟩
      have HU2 := hid hx64.2
      have e1 : IntKind.u64.wrap x.1 = x.1 := u64_conv hx0 (by omega)
      have hXl : X.length ≤ 160000 := by rw [HX.out, bodyL_length, List.length_take]; omega
      clear hx hc hxm hx64 hc1 hc2
      obtain ⟨p, hp⟩ : ∃ p, p = le x.1 8 := ⟨_, rfl⟩
      obtain ⟨q, hq⟩ : ∃ q, q = le x.2 8 := ⟨_, rfl⟩
      have hp8 : p.length = 8 := by rw [hp]; exact le_length _ _
      have hq8 : q.length = 8 := by rw [hq]; exact le_length _ _
      have HPP := hid hp; have HQQ := hid hq
      have z1 : ¬ 9223372036854775807 < X.length + 8 := by omega
      have z2 : ¬ 9223372036854775807 < X.length + 8 + 8 := by omega
      clear hp hq
      have hk0 : (0 : Int) ≤ k := by omega
      have hkn : (k : Int) < n := by omega
      have htk : ((k : Int)).toNat = k := by omega
      go_wp2_with fail
      refine reg_begin (by kernel_rfl) (fun w0a hx0a hHeld => ?_)
      have p1 : ∀ w', Ext w0a w' → w'.cell? ⟨b, off + k * 2, none⟩ = some (.int .i64 x.1) := fun w' h => HC1.out w' (HB.out.trans ((hx0a.trans h).mono HB.out.size))
      have p2 : ∀ w', Ext w0a w' → w'.cell? ⟨b, off + k * 2 + 1, none⟩ = some (.int .u64 x.2) := fun w' h => HC2.out w' (HB.out.trans ((hx0a.trans h).mono HB.out.size))
      refine reg_take 0 (v := ?vb0) at0 (by kernel_rfl) (by kernel_rfl) (by kernel_rfl) (by rfl) ?hyb0 hHeld ?restb0
      case hyb0 => (intro w' hSw; go_simp; try with_reducible rfl)
      try simp only [Act.put, List.setIfInBounds_toArray, List.set_cons_zero, List.set_cons_succ]
      refine reg_take 1 (v := ?vb1) (atS at0) (by kernel_rfl) (by kernel_rfl) (by kernel_rfl) (by rfl) ?hyb1 hHeld ?restb1
      case hyb1 => (intro w' hSw; go_simp; try with_reducible rfl)
      try simp only [Act.put, List.setIfInBounds_toArray, List.set_cons_zero, List.set_cons_succ]
      refine reg_take 2 (v := ?vb2) (atS (atS at0)) (by kernel_rfl) (by kernel_rfl) (by kernel_rfl) (by rfl) ?hyb2 hHeld ?restb2
      case hyb2 => (intro w' hSw; go_simp; try with_reducible rfl)
      try simp only [Act.put, List.setIfInBounds_toArray, List.set_cons_zero, List.set_cons_succ]
      refine reg_take 3 (v := ?vb3) (atS (atS (atS at0))) (by kernel_rfl) (by kernel_rfl) (by kernel_rfl) (by rfl) ?hyb3 hHeld ?restb3
      case hyb3 => (intro w' hSw; go_simp; try with_reducible rfl)
      try simp only [Act.put, List.setIfInBounds_toArray, List.set_cons_zero, List.set_cons_succ]
      refine reg_take 4 (v := ?vb4) (atS (atS (atS (atS at0)))) (by kernel_rfl) (by kernel_rfl) (by kernel_rfl) (by rfl) ?hyb4 hHeld ?restb4
      case hyb4 => (intro w' hSw; go_simp; try with_reducible rfl)
      try simp only [Act.put, List.setIfInBounds_toArray, List.set_cons_zero, List.set_cons_succ]
      refine reg_take 5 (v := ?vb5) (atS5 at0) (by kernel_rfl) (by kernel_rfl) (by kernel_rfl) (by rfl) ?hyb5 hHeld ?restb5
      case hyb5 => (intro w' hSw; go_simp; try with_reducible rfl)
      try simp only [Act.put, List.setIfInBounds_toArray, List.set_cons_zero, List.set_cons_succ]
      refine reg_take 6 (v := ?vb6) (atS5 (atS at0)) (by kernel_rfl) (by kernel_rfl) (by kernel_rfl) (by rfl) ?hyb6 hHeld ?restb6
      case hyb6 => (intro w' hSw; go_simp; try with_reducible rfl)
      try simp only [Act.put, List.setIfInBounds_toArray, List.set_cons_zero, List.set_cons_succ]
      refine reg_take 9 (v := ?vb9) (atS5 (atS (atS (atS (atS at0))))) (by kernel_rfl) (by kernel_rfl) (by kernel_rfl) (by rfl) ?hyb9 hHeld ?restb9
      case hyb9 => (intro w' hSw; go_simp; try with_reducible rfl)
      try simp only [Act.put, List.setIfInBounds_toArray, List.set_cons_zero, List.set_cons_succ]
      refine reg_take 10 (v := ?vb10) (atS5 (atS5 at0)) (by kernel_rfl) (by kernel_rfl) (by kernel_rfl) (by rfl) ?hyb10 hHeld ?restb10
      case hyb10 => (intro w' hSw; go_simp; try with_reducible rfl)
      try simp only [Act.put, List.setIfInBounds_toArray, List.set_cons_zero, List.set_cons_succ]
      refine reg_take 11 (v := ?vb11) (atS5 (atS5 (atS at0))) (by kernel_rfl) (by kernel_rfl) (by kernel_rfl) (by rfl) ?hyb11 hHeld ?restb11
      case hyb11 => (intro w' hSw; go_simp; try with_reducible rfl)
      try simp only [Act.put, List.setIfInBounds_toArray, List.set_cons_zero, List.set_cons_succ]
      refine reg_take 12 (v := ?vb12) (atS5 (atS5 (atS (atS at0)))) (by kernel_rfl) (by kernel_rfl) (by kernel_rfl) (by rfl) ?hyb12 hHeld ?restb12
      case hyb12 => (intro w' hSw; go_simp; try with_reducible rfl)
      try simp only [Act.put, List.setIfInBounds_toArray, List.set_cons_zero, List.set_cons_succ]
      refine reg_take 13 (v := ?vb13) (atS5 (atS5 (atS (atS (atS at0))))) (by kernel_rfl) (by kernel_rfl) (by kernel_rfl) (by rfl) ?hyb13 hHeld ?restb13
      case hyb13 => (intro w' hSw; go_simp; try with_reducible rfl)
      try simp only [Act.put, List.setIfInBounds_toArray, List.set_cons_zero, List.set_cons_succ]
      refine wpAnyH_ready (rs := [7]) (by kernel_rfl) (by simp) ?_
      refine AllReadyH.cons (atS5 (atS (atS at0))) (fun K hK => ?_) AllReadyH.nil
      go_simp
      refine (rput_any 8 x.1 _ HU1.out).mono ?_
      rintro e w2 ⟨rfl, hb2⟩
      rw [rput8 _ HU1.out, ← HPP.out]
      have HB2 := hid hb2
      go_wp2_with fail
      refine hK.out _ _ HB2.out (fun hHeld => ?_)
      clear hK K
      try simp only [Act.put, List.setIfInBounds_toArray, List.set_cons_zero, List.set_cons_succ]
      refine reg_on HB2.out (fun hHeld => ?_)
      have p2 : ∀ w', Ext w2 w' → w'.cell? ⟨b, off + k * 2 + 1, none⟩ = some (.int .u64 x.2) := fun w' h => HC2.out w' (HB.out.trans ((hx0a.trans (HB2.out.trans (h.mono HB2.out.size))).mono HB.out.size))
      refine reg_take 8 (v := ?vb8) (atS5 (atS (atS (atS at0)))) (by kernel_rfl) (by kernel_rfl) (by kernel_rfl) (by rfl) ?hyb8 hHeld ?restb8
      case hyb8 => (intro w' hSw; go_simp; try with_reducible rfl)
      try simp only [Act.put, List.setIfInBounds_toArray, List.set_cons_zero, List.set_cons_succ]
      refine wpAnyH_ready (rs := [14]) (by kernel_rfl) (by simp) ?_
      refine AllReadyH.cons (atS5 (atS5 (atS (atS (atS (atS at0)))))) (fun K hK => ?_) AllReadyH.nil
      go_simp
      refine (rput_any 8 x.2 _ HU2.out).mono ?_
      rintro e w3 ⟨rfl, hb3⟩
      rw [rput8 _ HU2.out, ← HQQ.out]
      have HB3 := hid hb3
      go_wp2_with fail
      refine hK.out _ _ HB3.out (fun hHeld => ?_)
      clear hK K
      try simp only [Act.put, List.setIfInBounds_toArray, List.set_cons_zero, List.set_cons_succ]
      refine reg_on HB3.out (fun hHeld => ?_)
      refine reg_take 15 (v := ?vb15) (atS5 (atS5 (atS5 at0))) (by kernel_rfl) (by kernel_rfl) (by kernel_rfl) (by rfl) ?hyb15 hHeld ?restb15
      case hyb15 => (intro w' hSw; go_simp; try with_reducible rfl)
      try simp only [Act.put, List.setIfInBounds_toArray, List.set_cons_zero, List.set_cons_succ]
      refine reg_take 16 (v := ?vb16) (atS5 (atS5 (atS5 (atS at0)))) (by kernel_rfl) (by kernel_rfl) (by kernel_rfl) (by rfl) ?hyb16 hHeld ?restb16
      case hyb16 => (intro w' hSw; go_simp; try with_reducible rfl)
      try simp only [Act.put, List.setIfInBounds_toArray, List.set_cons_zero, List.set_cons_succ]
      refine wpAnyH_done (by kernel_rfl) ?_ _
      refine NoPanic.normal ?_
      clear p1 p2
      go_wp2_with fail
      exact ⟨⟨k + 1, X ++ p ++ q, by omega, by go_num, by rw [ByteArray.mk_append_mk, ByteArray.mk_append_mk], hid (by rw [bodyL_take HXk.out, HX.out, HPP.out, HQQ.out]), hid (HB.out.trans ((Bt (Bt hx0a HB2.out) HB3.out).mono HB.out.size))⟩, by simp [intOf]; omega⟩
    · obtain rfl : k = n := by omega
      have e : xs.take k = xs := by rw [← HL.out]; exact List.take_length
      rw [e] at HX
      obtain rfl := HX.out
      go_wp2_with fail
      go_ret
      exact ⟨rfl, HB.out⟩
end Go.Proofs.YteggkojlpgkhbaaGreat
