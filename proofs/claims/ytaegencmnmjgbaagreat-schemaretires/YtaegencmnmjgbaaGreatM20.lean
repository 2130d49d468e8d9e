/-
  Rows of moves, and of fields, that a call makes.
  The document's all of layer 8; changes in memory.
  The program's Name: a range over a text.
-/
import Derived.Test.YtaegencmnmjgbaaGreatM18
import Derived.Test.YtaegencmnmjgbaaGreatM19
import Derived.Test.YtaegencmnmjgbaaGreatM16
import Derived.Test.YtaegencmnmjgbaaGreatM17
import Derived.Laws.RangeAny
import Derived.LoopTactic

namespace Go.Proofs.YtaegencmnmjgbaaGreat
open Go.RowKit
set_option linter.unusedVariables false
def Mv.cells (m : Mv) : List Value := [.int .i64 m.fr, .int .i64 m.k, .int .u64 m.n, .string m.t]
def cellsMv (l : List Mv) : List Value := (l.map Mv.cells).flatten
theorem cellsMv_length (l : List Mv) : (cellsMv l).length = l.length * 4 := by
  induction l with
  | nil => rfl
  | cons o os ih => have : cellsMv (o :: os) = o.cells ++ cellsMv os := rfl; rw [this, List.length_append, ih]; simp [Mv.cells]; omega
theorem cellsMv_get : ∀ (os : List Mv) (i : Nat) (h : i < os.length), ∀ j, j < 4 → (cellsMv os)[i * 4 + j]? = (os[i].cells)[j]? := by
  intro os
  induction os with
  | nil => intro i h; simp at h
  | cons x os ih =>
    intro i h j hj
    have e : cellsMv (x :: os) = x.cells ++ cellsMv os := rfl
    have hl : x.cells.length = 4 := rfl
    rw [e]
    cases i with
    | zero => rw [List.getElem?_append_left (by omega), Nat.zero_mul, Nat.zero_add]; rfl
    | succ i =>
      rw [List.getElem?_append_right (by omega), hl, show (i + 1) * 4 + j - 4 = i * 4 + j by omega]
      exact ih i (by simpa using h) j hj
def OwM (w : World) (base : Nat) (ty : TypeId) (v : Value) (l : List Mv) : Prop := w.ownsRow base ty 4 v l.length (cellsMv l)
theorem OwM.nil (w : World) (base : Nat) (ty : TypeId) : OwM w base ty (.slice none 0 0) [] := World.ownsRow_nil _ _ _ _
section
variable {w w' : World} {base : Nat} {v : Value} {l : List Mv} {ty : TypeId}
theorem OwM.on (h : OwM w base ty v l) (hb : Below w.heap.size w w') : OwM w' base ty v l := by
  refine ⟨h.1, ?_⟩
  rcases h.2 with h1 | ⟨g, cap, cur, hv, hbase, hg, h3⟩
  · exact .inl h1
  · exact .inr ⟨g, cap, cur, hv, hbase, (hb.block g (row_lt hg)).trans hg, h3⟩
theorem OwM.less {base' : Nat} (h : OwM w base ty v l) (hb : base' ≤ base) : OwM w base' ty v l := by
  refine ⟨h.1, ?_⟩
  rcases h.2 with h1 | ⟨g, cap, cur, hv, hbase, hg⟩
  · exact .inl h1
  · exact .inr ⟨g, cap, cur, hv, Nat.le_trans hb hbase, hg⟩
theorem OwM.blk2 (h : OwM w base ty v l) : ∀ r, v.ownBlock = some r → base ≤ r ∧ ∃ cs, w.heap[r]? = some (.cells cs ty (0, 0)) := by
  intro j hj
  rcases h.2 with ⟨e, _⟩ | ⟨g, cap, cur, e, hbase, hg, _⟩
  · rw [e] at hj; simp [Value.ownBlock] at hj
  · rw [e] at hj; simp [Value.ownBlock] at hj; subst hj; exact ⟨hbase, _, hg⟩
theorem OwM.shape (h : OwM w base ty v l) : ∃ A n c, v = .slice A n c := by
  rcases h.2 with ⟨e, _⟩ | ⟨g, cap, cur, e, _⟩
  · exact ⟨_, _, _, e⟩
  · exact ⟨_, _, _, e⟩
theorem OwM.set (h : OwM w base ty v l) {g : Nat} (hb : g < base) (i : Nat) (u : Value) : OwM (w.setCell ⟨g, i, none⟩ u) base ty v l := by
  refine ⟨h.1, ?_⟩
  rcases h.2 with h1 | ⟨q, cap, cur, hv, hbase, hg, h3⟩
  · exact .inl h1
  · exact .inr ⟨q, cap, cur, hv, hbase, (Below.heap_setCell w ⟨g, i, none⟩ u q (show q ≠ g by omega)).trans hg, h3⟩
theorem OwM.rd (h : OwM w base ty v l) (hx : ∀ m ∈ l, I64 m.fr ∧ I64 m.k ∧ U64 m.n) : ∃ A cap, v = .slice A l.length cap ∧ RdM w w.heap.size A l.length cap l := by
  rcases h.2 with ⟨rfl, hn⟩ | ⟨g, cap, cur, rfl, hbase, hg, hnc, hm, hs, hl⟩
  · have : l = [] := List.eq_nil_of_length_eq_zero hn
    subst this
    exact ⟨none, 0, rfl, RdM.nil _ _⟩
  · refine ⟨some ⟨g, 0, none⟩, cap, rfl, rfl, hnc, hm, hx, fun hn => ⟨g, 0, rfl, row_lt hg, fun i hi => ?_⟩⟩
    have t : ∀ j, j < 4 → w.cell? ⟨g, 0 + i * 4 + j, none⟩ = (l[i].cells)[j]? := fun j hj => by
      rw [row_cell hg, Nat.zero_add, ← cellsMv_get l i hi j hj, ← hl, List.getElem?_take_of_lt (by omega), Array.getElem?_toList]
    exact ⟨t 0 (by omega), t 1 (by omega), t 2 (by omega), t 3 (by omega)⟩
end
theorem infoMd : (Tryz.prog.info? 150).map (fun i => (i.zero, i.size, i.bytes)) = some (some (.agg #[.int .i64 0, .int .i64 0, .int .u64 0, .string ⟨#[]⟩]), 4, 40) := by kernel_rfl
theorem infoMp : (Tryz.prog.info? 161).map (fun i => (i.zero, i.size, i.bytes)) = some (some (.agg #[.int .i64 0, .int .i64 0, .int .u64 0, .string ⟨#[]⟩]), 4, 40) := by kernel_rfl
theorem run_appMv {e sl : TypeId} (hU : Tryz.prog.underlying sl = some (.slice e)) (hi8 : (Tryz.prog.info? e).map (fun i => (i.zero, i.size, i.bytes)) = some (some (.agg #[.int .i64 0, .int .i64 0, .int .u64 0, .string ⟨#[]⟩]), 4, 40)) {w : World} {base : Nat} {v : Value} {l : List Mv} (h : OwM w base e v l) (m : Mv) (hlen : l.length ≤ 1000000) (hb : base ≤ w.heap.size) (ty : TypeId) :
    ∃ v' w', (Builtin.append_ #[sl, sl] ty #[v, .slice (some ⟨w.heap.size, 0, none⟩) 1 1]).run Tryz.prog (w.alloc (.cells #[.int .i64 m.fr, .int .i64 m.k, .int .u64 m.n, .string m.t] e)) = .ok v' w' ∧ OwM w' base e v' (l ++ [m]) ∧ (w.alloc (.cells #[.int .i64 m.fr, .int .i64 m.k, .int .u64 m.n, .string m.t] e)).grownBy w' v.ownBlock := by
  have hk : Below w.heap.size w (w.alloc (.cells #[.int .i64 m.fr, .int .i64 m.k, .int .u64 m.n, .string m.t] e)) := B1 _ _
  cases hi : Tryz.prog.info? e with
  | none => rw [hi] at hi8; cases hi8
  | some i =>
    rw [hi] at hi8
    simp only [Option.map_some, Option.some.injEq, Prod.mk.injEq] at hi8
    obtain ⟨hz, hsz, hby⟩ := hi8
    obtain ⟨v', W', hr, ho, hg, hnil⟩ := run_append_own (P := Tryz.prog) (w.alloc (.cells #[.int .i64 m.fr, .int .i64 m.k, .int .u64 m.n, .string m.t] e)) base sl ty e i (.agg #[.int .i64 0, .int .i64 0, .int .u64 0, .string ⟨#[]⟩]) 4 40 hU hi hz hsz hby rfl (by omega) v l.length (cellsMv l) (h.on hk) ⟨w.heap.size, 0, none⟩ 1 1 m.cells rfl (fun j u hj => by rw [add_plain, Nat.zero_add, row_cell (heap_alloc_new w _)]; match j, hj with | 0, h => exact h | 1, h => exact h | 2, h => exact h | 3, h => exact h) (by intro u hu; simp [Mv.cells] at hu; rcases hu with rfl | rfl | rfl | rfl <;> rfl) (by unfold maxLen; omega) (by omega) (Nat.le_trans hb hk.size)
    refine ⟨v', W', hr, ?_, hg⟩
    unfold OwM
    have e : cellsMv (l ++ [m]) = cellsMv l ++ m.cells := by simp [cellsMv]
    rw [List.length_append, e]; exact ho
theorem run_appFd2 {w : World} {base : Nat} {v : Value} {l : List Fd} (h : OwF w base v l) (f : Fd) (hlen : l.length ≤ 1000000) (hb : base ≤ w.heap.size) (ty : TypeId) :
    ∃ v' w', (Builtin.append_ #[32, 32] ty #[v, .slice (some ⟨w.heap.size, 0, none⟩) 1 1]).run Tryz.prog (w.alloc (.cells #[.string (bs f.nm), .int .i64 f.k, .int .i64 f.g] 68)) = .ok v' w' ∧ OwF w' base v' (l ++ [f]) ∧ (w.alloc (.cells #[.string (bs f.nm), .int .i64 f.k, .int .i64 f.g] 68)).grownBy w' v.ownBlock := by
  have hi8 := infoFd
  have hk : Below w.heap.size w (w.alloc (.cells #[.string (bs f.nm), .int .i64 f.k, .int .i64 f.g] 68)) := B1 _ _
  cases hi : Tryz.prog.info? 68 with
  | none => rw [hi] at hi8; cases hi8
  | some i =>
    rw [hi] at hi8
    simp only [Option.map_some, Option.some.injEq, Prod.mk.injEq] at hi8
    obtain ⟨hz, hsz, hby⟩ := hi8
    obtain ⟨v', W', hr, ho, hg, hnil⟩ := run_append_own (P := Tryz.prog) (w.alloc (.cells #[.string (bs f.nm), .int .i64 f.k, .int .i64 f.g] 68)) base 32 ty 68 i (.agg #[.string ⟨#[]⟩, .int .i64 0, .int .i64 0]) 3 32 Tryz.underlying32 hi hz hsz hby rfl (by omega) v l.length (cellsFd l) (h.on hk) ⟨w.heap.size, 0, none⟩ 1 1 f.cells rfl (fun j u hj => by rw [add_plain, Nat.zero_add, row_cell (heap_alloc_new w _)]; match j, hj with | 0, h => exact h | 1, h => exact h | 2, h => exact h) (by intro u hu; simp [Fd.cells] at hu; rcases hu with rfl | rfl | rfl <;> rfl) (by unfold maxLen; omega) (by omega) (Nat.le_trans hb hk.size)
    refine ⟨v', W', hr, ?_, hg⟩
    unfold OwF
    have e : cellsFd (l ++ [f]) = cellsFd l ++ f.cells := by simp [cellsFd]
    rw [List.length_append, e]; exact ho
section
variable {w w' : World} {base : Nat} {v : Value} {l : List Fd}
theorem OwF.blk2 (h : OwF w base v l) : ∀ r, v.ownBlock = some r → base ≤ r ∧ ∃ cs, w.heap[r]? = some (.cells cs 68 (0, 0)) := by
  intro j hj
  rcases h.2 with ⟨e, _⟩ | ⟨g, cap, cur, e, hbase, hg, _⟩
  · rw [e] at hj; simp [Value.ownBlock] at hj
  · rw [e] at hj; simp [Value.ownBlock] at hj; subst hj; exact ⟨hbase, _, hg⟩
theorem OwF.shape (h : OwF w base v l) : ∃ A n c, v = .slice A n c := by
  rcases h.2 with ⟨e, _⟩ | ⟨g, cap, cur, e, _⟩
  · exact ⟨_, _, _, e⟩
  · exact ⟨_, _, _, e⟩
theorem OwF.set (h : OwF w base v l) {g : Nat} (hb : g < base) (i : Nat) (u : Value) : OwF (w.setCell ⟨g, i, none⟩ u) base v l := by
  refine ⟨h.1, ?_⟩
  rcases h.2 with h1 | ⟨q, cap, cur, hv, hbase, hg, h3⟩
  · exact .inl h1
  · exact .inr ⟨q, cap, cur, hv, hbase, (Below.heap_setCell w ⟨g, i, none⟩ u q (show q ≠ g by omega)).trans hg, h3⟩
end
end Go.Proofs.YtaegencmnmjgbaaGreat

namespace Go.Proofs.YtaegencmnmjgbaaGreat
open Go.RowKit
set_option linter.unusedVariables false
theorem count_take {l : List Int} {x : Int} {j : Nat} {y : Int} (h : l[j]? = some y) : (l.take (j + 1)).count x = (l.take j).count x + (if y = x then 1 else 0) := by
  rw [List.take_add_one, h, List.count_append]
  by_cases c : y = x
  · simp [c]
  · simp [c]
set_option maxRecDepth 20000 in
set_option maxHeartbeats 4000000 in
theorem r8all_any {w : World} {A : Option Addr} {n c : Nat} {l : List Int} (h : RdI w w.heap.size A n c l) (hn : n ≤ 140737488351232) (m : Nat) (hm : m ≤ 1000000) :
    Calls Tryz.prog 180 #[.slice A n c, .int .i64 (m : Int)] w fun e w' => e = .returned (.bool (allB l m)) ∧ Below w.heap.size w w' := by
  have HL := hid h.1
  have H := hid h; clear h
  have hni : (n : Int) ≤ 140737488351232 := by omega
  have hmi : (m : Int) ≤ 1000000 := by omega
  go_enter Tryz.func180, Tryz.ntmps180
  go_wp2_with fail
  go_loopw [5] (fun i wr => ∃ j : Nat, j ≤ m ∧ i = .int .i64 j ∧ Hid (∀ x : Nat, x < j → l.count (x : Int) = 1) ∧ Hid (Below w.heap.size w wr)) (fun i _ => m - (intOf i).toNat)
  case atStart => exact ⟨0, by omega, rfl, hid (fun x hx => absurd hx (by omega)), B0 w⟩
  case round =>
    obtain ⟨j, hj, rfl, HA, HB⟩ := hrel
    by_cases hlt : j < m
    · have hji : (j : Int) < m := by omega
      have hj0 : (0 : Int) ≤ j := by omega
      go_wp2_with fail
      go_loopw [6, 7] (fun f i wr2 => ∃ q : Nat, q ≤ n ∧ i = .int .i64 q ∧ f = .int .i64 ((l.take q).count (j : Int) : Nat) ∧ Hid (Below w.heap.size w wr2)) (fun _ i _ => n - (intOf i).toNat)
      case atStart => exact ⟨0, by omega, rfl, by simp, HB⟩
      case round =>
        obtain ⟨q, hq, rfl, rfl, HB2⟩ := hrel
        by_cases hq2 : q < n
        · obtain ⟨b, off, rfl, hbl, hc⟩ := H.out.2.2.2.2 (by omega)
          have hql : q < l.length := by have := HL.out; omega
          obtain ⟨x, hx⟩ : ∃ x, x = l[q] := ⟨_, rfl⟩
          have hxq : l[q]? = some x := by rw [hx]; exact List.getElem?_eq_getElem hql
          have hcell : wr.cell? ⟨b, off + q, none⟩ = some (.int .i64 x) := by rw [hx]; exact (HB2.out.cell (p := ⟨b, off + q, none⟩) hbl).trans (hc q hql)
          have hqi : (q : Int) < n := by omega
          have hq0 : (0 : Int) ≤ q := by omega
          have hct := count_take (x := (j : Int)) hxq
          have hcl : (l.take q).count (j : Int) ≤ q := Nat.le_trans List.count_le_length (by rw [List.length_take]; omega)
          clear hc hx
          by_cases hxj : x = (j : Int)
          · have t1 : (x == (j : Int)) = true := by simpa using hxj
            rw [if_pos hxj] at hct
            have HCT := hid hct; have HCL := hid hcl
            obtain ⟨k, hk⟩ : ∃ k, k = (l.take q).count (j : Int) := ⟨_, rfl⟩
            rw [← hk] at HCT HCL ⊢
            have hw : IntKind.i64.wrap ((k : Int) + 1) = ((k + 1 : Nat) : Int) := by rw [IntKind.wrap_i64]; have := HCL.out; omega
            have HXJ := hid hxj
            clear hct hcl hxj hk
            go_wp2_with fail
            exact ⟨⟨q + 1, by omega, by go_num, by rw [HCT.out]; go_num, HB2⟩, by simp [intOf]; omega⟩
          · have t1 : (x == (j : Int)) = false := by simpa using hxj
            rw [if_neg hxj, Nat.add_zero] at hct
            have HCT := hid hct
            have HXJ := hid hxj
            clear hct hcl hxj
            go_wp2_with fail
            exact ⟨⟨q + 1, by omega, by go_num, by rw [HCT.out]; simp, HB2⟩, by simp [intOf]; omega⟩
        · obtain rfl : q = n := by omega
          have et : l.take q = l := by rw [← HL.out]; exact List.take_length
          rw [et]
          by_cases hone : l.count (j : Int) = 1
          · have t1 : ((l.count (j : Int) : Nat) : Int) = 1 := by omega
            rw [t1]
            go_wp2_with fail
            exact ⟨⟨j + 1, by omega, by go_num, hid (fun x hx => by
              by_cases e : x = j
              · subst e; exact hone
              · exact HA.out x (by omega)), HB2⟩, by simp [intOf]; omega⟩
          · have t1 : (((l.count (j : Int) : Nat) : Int) != 1) = true := by simp; omega
            have HE : Hid (allB l m = false) := hid (by
              cases hh : allB l m with
              | false => rfl
              | true => exact absurd ((allB_iff.1 hh).2 j hlt) hone)
            obtain ⟨k, hk⟩ : ∃ k : Int, k = ((l.count (j : Int) : Nat) : Int) := ⟨_, rfl⟩
            rw [← hk] at t1 ⊢
            clear hk hone
            go_wp2_with fail
            go_ret
            exact ⟨by rw [HE.out]; rfl, HB2.out⟩
    · obtain rfl : j = m := by omega
      have HE : Hid (allB l j = decide ((n : Int) = (j : Int))) := hid (by
        rw [Bool.eq_iff_iff, allB_iff, decide_eq_true_eq, HL.out]
        exact ⟨fun h => by omega, fun h => ⟨by omega, HA.out⟩⟩)
      go_wp2_with fail
      go_ret
      exact ⟨by rw [HE.out]; rfl, HB.out⟩
end Go.Proofs.YtaegencmnmjgbaaGreat

namespace Go.Proofs.YtaegencmnmjgbaaGreat
open Go.RowKit
set_option linter.unusedVariables false
theorem text_at {s : List UInt8} {j : Nat} (hj : j < s.length) : ∃ (r d : Nat), Utf8.decode (bs s) j = (r, d) ∧ 1 ≤ d ∧ r ≤ 2147483647 ∧ ((r < 128 ∧ r = s[j].toNat ∧ d = 1) ∨ (128 ≤ r ∧ 128 ≤ s[j].toNat)) := by
  have h2 : j < (bs s).size := by simpa [ByteArray.size] using hj
  have hb := bs_at hj h2
  refine ⟨(Utf8.decode (bs s) j).1, (Utf8.decode (bs s) j).2, rfl, ?_⟩
  by_cases ha : ((bs s)[j]'h2).toNat < 128
  · rw [decode_ascii (bs s) j h2 ha]
    rw [hb] at ha ⊢
    exact ⟨Nat.le_refl _, by omega, .inl ⟨ha, rfl, rfl⟩⟩
  · have h3 := decode_high (bs s) j h2 (by omega)
    rw [hb] at ha
    exact ⟨h3.2, decode_le _ _, .inr ⟨h3.1, by omega⟩⟩
theorem chB_hi {c : UInt8} (h : 128 ≤ c.toNat) : chB c = false := by
  simp [chB, ltB]; omega
theorem text_ch {s : List UInt8} {j r d : Nat} (hj : j < s.length) (h : (r < 128 ∧ r = s[j].toNat ∧ d = 1) ∨ (128 ≤ r ∧ 128 ≤ s[j].toNat)) :
    ltB s[j] = (decide (97 ≤ r) && decide (r ≤ 122)) ∧ chB s[j] = (decide (97 ≤ r) && decide (r ≤ 122) || (decide (48 ≤ r) && decide (r ≤ 57)) || decide (r = 95)) ∧ (chB s[j] = true → d = 1) := by
  rcases h with ⟨h1, h2, h3⟩ | ⟨h1, h2⟩
  · subst h2
    exact ⟨rfl, rfl, fun _ => h3⟩
  · refine ⟨?_, ?_, fun h => by rw [chB_hi h2] at h; cases h⟩
    · rw [Bool.eq_iff_iff]; simp [ltB]; omega
    · rw [chB_hi h2, Bool.eq_iff_iff]; simp; omega
theorem name_head {s : List UInt8} {c : UInt8} (h : 0 < s.length) (hc : c = s[0]) (hl : ltB c = true) : s.head?.any ltB = true := by
  cases s with
  | nil => simp at h
  | cons x s => subst hc; simpa using hl
set_option maxRecDepth 1000000 in
set_option maxHeartbeats 2000000 in
theorem p6name_any {w : World} (s : List UInt8) (hs : s.length ≤ 140737488351232) :
    Calls Tryz.prog 38 #[.string (bs s)] w fun e w' => e = .returned (.bool (nameB s)) ∧ Below w.heap.size w w' := by
  have hsz : ((bs s).size : Int) = s.length := rfl
  by_cases h0 : s = []
  · subst h0
    go_enter Tryz.func38, Tryz.ntmps38
    go_wp2_with fail
    go_ret
    exact ⟨rfl, B0 _⟩
  have e0 : s.isEmpty = false := by simpa using h0
  by_cases h15 : 15 < s.length
  · have e1 : decide ((15 : Int) < (s.length : Int)) = true := decide_eq_true (by omega)
    have HE : Hid (nameB s = false) := by
      show _ = _
      unfold nameB
      rw [show decide (s.length ≤ 15) = false from decide_eq_false (by omega)]; simp
    clear h0
    go_enter Tryz.func38, Tryz.ntmps38
    go_wp2_with fail
    go_ret
    exact ⟨by rw [HE.out]; rfl, B0 _⟩
  have e1 : decide ((15 : Int) < (s.length : Int)) = false := decide_eq_false (by omega)
  have H15 := hid h15; have HNE := hid h0
  clear h0 h15
  go_enter Tryz.func38, Tryz.ntmps38
  go_wp2_with fail
  go_loopw [] (fun wr => ∃ pos : Nat, pos ≤ s.length ∧ wr = w.iter (bs s) pos ∧ Hid ((s.take pos).all chB = true) ∧ Hid (0 < pos → s.head?.any ltB = true)) (fun wr => s.length - wr.iterPos w.heap.size)
  case atStart => exact ⟨0, by omega, rfl, hid (by simp), hid (fun h => absurd h (by omega))⟩
  case round =>
    obtain ⟨pos, hpos, rfl, HA, HH⟩ := hrel
    have HB : Hid (Below w.heap.size w (w.iter (bs s) pos)) := B1 w _
    by_cases hlt : pos < s.length
    · obtain ⟨r, d, hdec, hd1, hr31, hrc⟩ := text_at hlt
      obtain ⟨c, hc0⟩ : ∃ c, c = s[pos] := ⟨_, rfl⟩
      obtain ⟨tl, tc, td⟩ := text_ch hlt hrc
      rw [← hc0] at tl tc td hrc
      have HCC := hid hc0
      have hlt2 : pos < (bs s).size := hlt
      have hnx : ∀ ty, (Instr.next (.pointer (some ⟨w.heap.size, 0, none⟩)) true ty).run Tryz.prog (w.iter (bs s) pos) = .ok (.tuple #[.bool true, .int .i64 pos, .int .i32 (r : Int)]) (w.iter (bs s) (pos + d)) := fun ty => by
        have := run_next_any (P := Tryz.prog) w (bs s) pos ty hlt2
        rw [hdec] at this; exact this
      have HB2 : Hid (Below w.heap.size w (w.iter (bs s) (pos + d))) := B1 w _
      have HNX := hid hnx
      obtain ⟨x, hx⟩ : ∃ x : Int, x = r := ⟨_, rfl⟩
      rw [← hx] at hnx
      have HX := hid hx
      have HLT := hid hlt
      have TL := hid tl; have TC := hid tc; have TD := hid td
      have hx0 : 0 ≤ x := by omega
      clear HNX hdec hrc tl tc td hx hlt2 hr31 hc0
      rcases (by omega : (x < 48) ∨ (48 ≤ x ∧ x ≤ 57) ∨ (57 < x ∧ x < 95) ∨ (x = 95) ∨ (x = 96) ∨ (97 ≤ x ∧ x ≤ 122) ∨ (122 < x)) with hc | hc | hc | hc | hc | hc | hc
      · skip
        have f1 : decide ((97 : Int) ≤ x) = false := decide_eq_false (by omega)
        have f2 : decide (x ≤ 122) = true := decide_eq_true (by omega)
        have f3 : decide ((48 : Int) ≤ x) = false := decide_eq_false (by omega)
        have f4 : decide (x ≤ 57) = true := decide_eq_true (by omega)
        have f5 : (x == 95) = false := by rw [beq_eq_false_iff_ne]; omega
        have HL : Hid (ltB c = false) := by show _ = _; rw [TL.out, Bool.eq_iff_iff]; have := HX.out; simp; try omega
        have HC : Hid (chB c = false) := by show _ = _; rw [TC.out, Bool.eq_iff_iff]; have := HX.out; simp; try omega
        by_cases hz : pos = 0
        · subst hz
          have HE : Hid (nameB s = false) := name_no HLT.out HCC.out HC.out
          clear hc
          go_wp2_with fail
          go_ret
          exact ⟨by rw [HE.out]; rfl, B1 w _⟩
        · have hz1 : ((pos : Int) == 0) = false := by rw [beq_eq_false_iff_ne]; omega
          have HE : Hid (nameB s = false) := name_no HLT.out HCC.out HC.out
          clear hc
          go_wp2_with fail
          go_ret
          exact ⟨by rw [HE.out]; rfl, B1 w _⟩
      · skip
        have f1 : decide ((97 : Int) ≤ x) = false := decide_eq_false (by omega)
        have f2 : decide (x ≤ 122) = true := decide_eq_true (by omega)
        have f3 : decide ((48 : Int) ≤ x) = true := decide_eq_true (by omega)
        have f4 : decide (x ≤ 57) = true := decide_eq_true (by omega)
        have f5 : (x == 95) = false := by rw [beq_eq_false_iff_ne]; omega
        have HL : Hid (ltB c = false) := by show _ = _; rw [TL.out, Bool.eq_iff_iff]; have := HX.out; simp; try omega
        have HC : Hid (chB c = true) := by show _ = _; rw [TC.out, Bool.eq_iff_iff]; have := HX.out; simp; try omega
        by_cases hz : pos = 0
        · subst hz
          have HE : Hid (nameB s = false) := name_no0 HLT.out HCC.out HL.out
          clear hc
          go_wp2_with fail
          go_ret
          exact ⟨by rw [HE.out]; rfl, B1 w _⟩
        · have hz1 : ((pos : Int) == 0) = false := by rw [beq_eq_false_iff_ne]; omega
          have HD := TD.out HC.out
          clear hc
          go_wp2_with fail
          go_roundw
          case rel => exact ⟨pos + 1, HLT.out, rfl, hid (name_take HLT.out HCC.out HA.out HC.out), hid (fun _ => HH.out (by omega))⟩
          case measure => simp; omega
      · skip
        have f1 : decide ((97 : Int) ≤ x) = false := decide_eq_false (by omega)
        have f2 : decide (x ≤ 122) = true := decide_eq_true (by omega)
        have f3 : decide ((48 : Int) ≤ x) = true := decide_eq_true (by omega)
        have f4 : decide (x ≤ 57) = false := decide_eq_false (by omega)
        have f5 : (x == 95) = false := by rw [beq_eq_false_iff_ne]; omega
        have HL : Hid (ltB c = false) := by show _ = _; rw [TL.out, Bool.eq_iff_iff]; have := HX.out; simp; try omega
        have HC : Hid (chB c = false) := by show _ = _; rw [TC.out, Bool.eq_iff_iff]; have := HX.out; simp; try omega
        by_cases hz : pos = 0
        · subst hz
          have HE : Hid (nameB s = false) := name_no HLT.out HCC.out HC.out
          clear hc
          go_wp2_with fail
          go_ret
          exact ⟨by rw [HE.out]; rfl, B1 w _⟩
        · have hz1 : ((pos : Int) == 0) = false := by rw [beq_eq_false_iff_ne]; omega
          have HE : Hid (nameB s = false) := name_no HLT.out HCC.out HC.out
          clear hc
          go_wp2_with fail
          go_ret
          exact ⟨by rw [HE.out]; rfl, B1 w _⟩
      · skip
        have f1 : decide ((97 : Int) ≤ x) = false := decide_eq_false (by omega)
        have f2 : decide (x ≤ 122) = true := decide_eq_true (by omega)
        have f3 : decide ((48 : Int) ≤ x) = true := decide_eq_true (by omega)
        have f4 : decide (x ≤ 57) = false := decide_eq_false (by omega)
        have f5 : (x == 95) = true := by rw [beq_iff_eq]; omega
        have HL : Hid (ltB c = false) := by show _ = _; rw [TL.out, Bool.eq_iff_iff]; have := HX.out; simp; try omega
        have HC : Hid (chB c = true) := by show _ = _; rw [TC.out, Bool.eq_iff_iff]; have := HX.out; simp; try omega
        by_cases hz : pos = 0
        · subst hz
          have HE : Hid (nameB s = false) := name_no0 HLT.out HCC.out HL.out
          clear hc
          go_wp2_with fail
          go_ret
          exact ⟨by rw [HE.out]; rfl, B1 w _⟩
        · have hz1 : ((pos : Int) == 0) = false := by rw [beq_eq_false_iff_ne]; omega
          have HD := TD.out HC.out
          clear hc
          go_wp2_with fail
          go_roundw
          case rel => exact ⟨pos + 1, HLT.out, rfl, hid (name_take HLT.out HCC.out HA.out HC.out), hid (fun _ => HH.out (by omega))⟩
          case measure => simp; omega
      · skip
        have f1 : decide ((97 : Int) ≤ x) = false := decide_eq_false (by omega)
        have f2 : decide (x ≤ 122) = true := decide_eq_true (by omega)
        have f3 : decide ((48 : Int) ≤ x) = true := decide_eq_true (by omega)
        have f4 : decide (x ≤ 57) = false := decide_eq_false (by omega)
        have f5 : (x == 95) = false := by rw [beq_eq_false_iff_ne]; omega
        have HL : Hid (ltB c = false) := by show _ = _; rw [TL.out, Bool.eq_iff_iff]; have := HX.out; simp; try omega
        have HC : Hid (chB c = false) := by show _ = _; rw [TC.out, Bool.eq_iff_iff]; have := HX.out; simp; try omega
        by_cases hz : pos = 0
        · subst hz
          have HE : Hid (nameB s = false) := name_no HLT.out HCC.out HC.out
          clear hc
          go_wp2_with fail
          go_ret
          exact ⟨by rw [HE.out]; rfl, B1 w _⟩
        · have hz1 : ((pos : Int) == 0) = false := by rw [beq_eq_false_iff_ne]; omega
          have HE : Hid (nameB s = false) := name_no HLT.out HCC.out HC.out
          clear hc
          go_wp2_with fail
          go_ret
          exact ⟨by rw [HE.out]; rfl, B1 w _⟩
      · skip
        have f1 : decide ((97 : Int) ≤ x) = true := decide_eq_true (by omega)
        have f2 : decide (x ≤ 122) = true := decide_eq_true (by omega)
        have f3 : decide ((48 : Int) ≤ x) = true := decide_eq_true (by omega)
        have f4 : decide (x ≤ 57) = false := decide_eq_false (by omega)
        have f5 : (x == 95) = false := by rw [beq_eq_false_iff_ne]; omega
        have HL : Hid (ltB c = true) := by show _ = _; rw [TL.out, Bool.eq_iff_iff]; have := HX.out; simp; try omega
        have HC : Hid (chB c = true) := by show _ = _; rw [TC.out, Bool.eq_iff_iff]; have := HX.out; simp; try omega
        by_cases hz : pos = 0
        · subst hz
          have HD := TD.out HC.out
          clear hc
          go_wp2_with fail
          go_roundw
          case rel => exact ⟨0 + 1, HLT.out, rfl, hid (name_take HLT.out HCC.out HA.out HC.out), hid (fun _ => name_head HLT.out HCC.out HL.out)⟩
          case measure => simp; omega
        · skip
          have HD := TD.out HC.out
          clear hc
          go_wp2_with fail
          go_roundw
          case rel => exact ⟨pos + 1, HLT.out, rfl, hid (name_take HLT.out HCC.out HA.out HC.out), hid (fun _ => HH.out (by omega))⟩
          case measure => simp; omega
      · skip
        have f1 : decide ((97 : Int) ≤ x) = true := decide_eq_true (by omega)
        have f2 : decide (x ≤ 122) = false := decide_eq_false (by omega)
        have f3 : decide ((48 : Int) ≤ x) = true := decide_eq_true (by omega)
        have f4 : decide (x ≤ 57) = false := decide_eq_false (by omega)
        have f5 : (x == 95) = false := by rw [beq_eq_false_iff_ne]; omega
        have HL : Hid (ltB c = false) := by show _ = _; rw [TL.out, Bool.eq_iff_iff]; have := HX.out; simp; try omega
        have HC : Hid (chB c = false) := by show _ = _; rw [TC.out, Bool.eq_iff_iff]; have := HX.out; simp; try omega
        by_cases hz : pos = 0
        · subst hz
          have HE : Hid (nameB s = false) := name_no HLT.out HCC.out HC.out
          clear hc
          go_wp2_with fail
          go_ret
          exact ⟨by rw [HE.out]; rfl, B1 w _⟩
        · have hz1 : ((pos : Int) == 0) = false := by rw [beq_eq_false_iff_ne]; omega
          have HE : Hid (nameB s = false) := name_no HLT.out HCC.out HC.out
          clear hc
          go_wp2_with fail
          go_ret
          exact ⟨by rw [HE.out]; rfl, B1 w _⟩
    · obtain rfl : pos = s.length := by omega
      have hnlt : ¬ s.length < (bs s).size := by show ¬ s.length < s.length; omega
      have hnx : ∀ ty, (Instr.next (.pointer (some ⟨w.heap.size, 0, none⟩)) true ty).run Tryz.prog (w.iter (bs s) s.length) = .ok (.tuple #[.bool false]) (w.iter (bs s) s.length) := fun ty => run_next_end (P := Tryz.prog) w (bs s) s.length ty hnlt
      have HE : Hid (nameB s = true) := by
        show _ = _
        have h1 := HA.out; have h2 := H15.out; have h3 := HNE.out
        rw [List.take_length] at h1
        have h4 : 0 < s.length := by
          cases s with
          | nil => exact absurd rfl h3
          | cons x s => simp
        unfold nameB
        rw [h1, HH.out h4, show decide (1 ≤ s.length) = true from decide_eq_true h4, show decide (s.length ≤ 15) = true from decide_eq_true (by omega)]
        rfl
      clear hnlt hlt
      go_wp2_with fail
      go_ret
      exact ⟨by rw [HE.out]; rfl, HB.out⟩
end Go.Proofs.YtaegencmnmjgbaaGreat
