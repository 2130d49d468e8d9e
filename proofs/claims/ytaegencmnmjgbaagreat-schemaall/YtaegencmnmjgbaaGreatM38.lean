/-
  slices.Delete of one field, and of one move, in a row of the call's own.
  drop of layer 8.
-/
import Derived.Test.YtaegencmnmjgbaaGreatM36
import Derived.Test.YtaegencmnmjgbaaGreatM20
import Derived.Deep.RegionLaw
import Derived.Laws.IdiomCopy
import Derived.Deep.Cut
import Derived.Test.YtaegencmnmjgbaaGreatM37
import Derived.Test.YtaegencmnmjgbaaGreatM21

namespace Go.Proofs.YtaegencmnmjgbaaGreat
open Go.RowKit
set_option linter.unusedVariables false
set_option linter.unusedSimpArgs false
theorem splice_cons {L : List Value} {o : Nat} {v : Value} {r : List Value} (h : o + (r.length + 1) ≤ L.length) : splice (L.set o v) (o + 1) r = splice L o (v :: r) := by
  unfold splice
  have e1 : (L.set o v).take (o + 1) = L.take o ++ [v] := by
    rw [List.take_add_one, List.take_set_of_le (Nat.le_refl _), List.getElem?_set_self (by omega)]; rfl
  have e2 : (L.set o v).drop (o + 1 + r.length) = L.drop (o + (v :: r).length) := by
    rw [List.drop_set_of_lt (by omega), List.length_cons]; congr 1; omega
  rw [e1, e2]; simp
theorem row_setCells {g : Nat} {t : TypeId} : ∀ (vs : List Value) (o : Nat) {w : World} {cs : Array Value}, w.heap[g]? = some (.cells cs t (0, 0)) → o + vs.length ≤ cs.size → (w.setCells g o vs).heap[g]? = some (.cells (splice cs.toList o vs).toArray t (0, 0))
  | [], o, w, cs, h, hl => by
    have e : splice cs.toList o [] = cs.toList := by unfold splice; simp
    rw [e]; simpa [World.setCells] using h
  | v :: r, o, w, cs, h, hl => by
    have hl2 : o + (r.length + 1) ≤ cs.size := by simpa using hl
    rw [World.setCells, row_setCells r (o + 1) (row_set h o v) (by simp; omega), Array.toList_setIfInBounds, splice_cons (by simpa using hl2)]
theorem grown_setCells {g : Nat} : ∀ (vs : List Value) (o : Nat) {w w' : World}, w.grownBy w' (some g) → w.grownBy (w'.setCells g o vs) (some g)
  | [], _, _, _, h => h
  | v :: r, o, _, _, h => by rw [World.setCells]; exact grown_setCells r (o + 1) (grown_set h o v)
theorem splice_len {L : List Value} {o : Nat} {vs : List Value} (h : o + vs.length ≤ L.length) : (splice L o vs).length = L.length := length_splice _ _ _ h
theorem cellsFd_append (a b : List Fd) : cellsFd (a ++ b) = cellsFd a ++ cellsFd b := by simp [cellsFd]
theorem cellsFd_take (l : List Fd) (i : Nat) : cellsFd (l.take i) = (cellsFd l).take (i * 3) := by
  by_cases h : i ≤ l.length
  · have e : cellsFd l = cellsFd (l.take i) ++ cellsFd (l.drop i) := by rw [← cellsFd_append, List.take_append_drop]
    have h1 : (cellsFd (l.take i)).length = i * 3 := by rw [cellsFd_length, List.length_take, Nat.min_eq_left h]
    rw [e, ← h1, List.take_left]
  · rw [List.take_of_length_le (show l.length ≤ i by omega), List.take_of_length_le (show (cellsFd l).length ≤ i * 3 by rw [cellsFd_length]; omega)]
theorem cellsFd_drop (l : List Fd) (i : Nat) (h : i ≤ l.length) : cellsFd (l.drop i) = (cellsFd l).drop (i * 3) := by
  have e : cellsFd l = cellsFd (l.take i) ++ cellsFd (l.drop i) := by rw [← cellsFd_append, List.take_append_drop]
  have h1 : (cellsFd (l.take i)).length = i * 3 := by rw [cellsFd_length, List.length_take, Nat.min_eq_left h]
  rw [e, ← h1, List.drop_left]
theorem zeroFd : (Builtin.zeroCells (.agg #[.string ⟨#[]⟩, .int .i64 0, .int .i64 0] : Value).cells 1).toList = [.string ⟨#[]⟩, .int .i64 0, .int .i64 0] := by kernel_rfl
theorem run_clearFd {w : World} {g o c : Nat} {cs : Array Value} (h : w.heap[g]? = some (.cells cs 68 (0, 0))) (hl : o + 3 ≤ cs.size) (ty : TypeId) :
    (Builtin.clear_ #[32] ty #[.slice (some ⟨g, o, none⟩) 1 c]).run Tryz.prog w = .ok (.tuple #[]) (w.setCells g o [.string ⟨#[]⟩, .int .i64 0, .int .i64 0]) := by
  have hst := run_storeCells_cells (P := Tryz.prog) g o [.string ⟨#[]⟩, .int .i64 0, .int .i64 0] 0 w (fun j hj => by rw [Nat.add_zero, row_cell h, Array.getElem?_eq_getElem (by simp at hj; omega)]; rfl) (fun j hj => row_frozen h _) (by intro u hu; simp at hu; rcases hu with rfl | rfl | rfl <;> rfl)
  have hi8 := infoFd
  cases hi : Tryz.prog.info? 68 with
  | none => rw [hi] at hi8; cases hi8
  | some i =>
    rw [hi] at hi8
    simp only [Option.map_some, Option.some.injEq, Prod.mk.injEq] at hi8
    obtain ⟨hz, hsz, hby⟩ := hi8
    have hzv : (zeroValue 68).run Tryz.prog w = .ok (.agg #[.string ⟨#[]⟩, .int .i64 0, .int .i64 0]) w := by simp [zeroValue, typeInfo, hi, hz]
    simp [Builtin.clear_, run_underlying Tryz.underlying32, hzv, zeroFd, hst, Result.andThen]
set_option maxRecDepth 20000 in
set_option maxHeartbeats 8000000 in
theorem fdel_any {w : World} {B : Nat} {v : Value} {l : List Fd} (h : OwF w B v l) {i : Nat} (hi : i < l.length) (hm : l.length ≤ 1000000) :
    Calls Tryz.prog 192 #[v, .int .i64 (i : Int), .int .i64 ((i : Int) + 1)] w fun e w' => ∃ v', e = .returned v' ∧ OwF w' B v' (l.eraseIdx i) ∧ v'.ownBlock = v.ownBlock ∧ w.grownBy w' v.ownBlock := by
  rcases h.2 with ⟨rfl, hn⟩ | ⟨g, cap, cur, rfl, hbase, hg, hnc, hmx, hsz, hl⟩
  · omega
  · have HLT := hid h.1
    obtain ⟨n, hn⟩ : ∃ n, n = l.length := ⟨_, rfl⟩
    rw [← hn] at hnc hl hi hm ⊢
    have hcap : (cap : Int) ≤ 9223372036854775807 := by unfold maxLen at hmx; omega
    obtain ⟨news, hnews⟩ : ∃ news, news = (cellsFd l).drop ((i + 1) * 3) := ⟨_, rfl⟩
    have hlen : Hid (news.length = (n - (i + 1)) * 3) := hid (by rw [hnews, List.length_drop, cellsFd_length, ← hn, Nat.sub_mul])
    obtain ⟨A, hA, hsrc⟩ : ∃ A : Addr, (if cap = i + 1 then some (⟨g, 0, none⟩ : Addr) else some ⟨g, (i + 1) * 3, none⟩) = some A ∧ Hid (∀ t u, news[t]? = some u → w.drew.cell? (A.add t) = some u) := by
      by_cases c : cap = i + 1
      · refine ⟨⟨g, 0, none⟩, by simp [c], hid fun t u hu => ?_⟩
        have h00 : n - (i + 1) = 0 := by omega
        have h0 : news.length = 0 := by rw [hlen.out, h00, Nat.zero_mul]
        rw [List.length_eq_zero_iff.1 h0] at hu
        simp at hu
      · refine ⟨⟨g, (i + 1) * 3, none⟩, by simp [c], hid fun t u hu => ?_⟩
        have ht : t < (n - (i + 1)) * 3 := by rw [← hlen.out]; exact (List.getElem?_eq_some_iff.1 hu).1
        have e1 : w.drew.cell? ((⟨g, (i + 1) * 3, none⟩ : Addr).add t) = cur[(i + 1) * 3 + t]? := by rw [add_plain]; exact row_cell (w := w) hg _
        rw [e1, ← Array.getElem?_toList, ← List.getElem?_take_of_lt (i := (i + 1) * 3 + t) (j := n * 3) (by omega), hl, ← List.getElem?_drop, ← hnews]; exact hu
    have s2 : Hid (∀ u ∈ news, u.oneCell' = true) := hid fun u hu => by
      rw [hnews] at hu; exact cellsFd_one l u (List.mem_of_mem_drop hu)
    have hsz' : n * 3 ≤ cur.size := by rw [hsz]; exact Nat.mul_le_mul_right _ hnc
    have s3 : Hid (∀ t, t < news.length → (w.drew.cell? ⟨g, 0 + i * 3 + t, none⟩).isSome = true ∧ w.drew.frozen? ⟨g, 0 + i * 3 + t, none⟩ = false) := hid fun t ht => by
      rw [hlen.out] at ht
      refine ⟨?_, row_frozen (w := w) hg _⟩
      have e1 : w.drew.cell? ⟨g, 0 + i * 3 + t, none⟩ = cur[0 + i * 3 + t]? := row_cell (w := w) hg _
      rw [e1, Array.getElem?_eq_getElem (by omega)]; rfl
    have hin : ∃ i0, Tryz.prog.info? 68 = some i0 ∧ i0.size = 3 := by
      have hi8 := infoFd
      cases hq : Tryz.prog.info? 68 with
      | none => rw [hq] at hi8; cases hi8
      | some i1 => rw [hq] at hi8; simp only [Option.map_some, Option.some.injEq, Prod.mk.injEq] at hi8; exact ⟨i1, rfl, hi8.2.1⟩
    obtain ⟨i0, hi0, hi1⟩ := hin
    obtain ⟨W1, hW1⟩ : ∃ W1, W1 = w.drew.setCells g (0 + i * 3) news := ⟨_, rfl⟩
    have HR1 : Hid (W1.heap[g]? = some (.cells (splice cur.toList (0 + i * 3) news).toArray 68 (0, 0))) := by
      rw [hW1]; exact hid (row_setCells news _ (w := w.drew) hg (by rw [hlen.out]; have := Nat.sub_mul n (i + 1) 3; omega))
    have HS1 : Hid ((splice cur.toList (0 + i * 3) news).length = cur.size) := hid (by rw [splice_len (by rw [hlen.out]; have := Nat.sub_mul n (i + 1) 3; simp; omega)]; simp)
    have HC : Hid (∀ c ty, (Builtin.clear_ #[32] ty #[.slice (some ⟨g, (n - 1) * 3, none⟩) (n - (n - 1)) c]).run Tryz.prog W1 = .ok (.tuple #[]) (W1.setCells g ((n - 1) * 3) [.string ⟨#[]⟩, .int .i64 0, .int .i64 0])) := hid fun c ty => by rw [show n - (n - 1) = 1 by omega]; exact run_clearFd HR1.out (by rw [List.size_toArray, HS1.out]; omega) ty
    have HG : Hid (w.grownBy (W1.setCells g ((n - 1) * 3) [.string ⟨#[]⟩, .int .i64 0, .int .i64 0]) (some g)) := by
      rw [hW1]; exact hid (grown_setCells _ _ (grown_setCells news _ (w' := w.drew) ⟨rfl, rfl, rfl, Nat.le_refl _, fun _ _ _ => rfl⟩))
    have HO : Hid (w.grownBy (W1.setCells g ((n - 1) * 3) [.string ⟨#[]⟩, .int .i64 0, .int .i64 0]) (some g) → ∀ c, c = cap → OwF (W1.setCells g ((n - 1) * 3) [.string ⟨#[]⟩, .int .i64 0, .int .i64 0]) B (.slice (some ⟨g, 0, none⟩) (n - 1) c) (l.eraseIdx i)) := hid fun hgr c hc => by
      subst hc
      have hle : (l.eraseIdx i).length = n - 1 := by rw [List.length_eraseIdx, if_pos (by omega)]; omega
      show World.ownsRow _ _ _ _ _ (l.eraseIdx i).length _
      rw [hle]
      have hrow := row_setCells [.string ⟨#[]⟩, .int .i64 0, .int .i64 0] ((n - 1) * 3) HR1.out (by rw [List.size_toArray, HS1.out]; simp; omega)
      refine ⟨by rw [cellsFd_length, hle], .inr ⟨g, c, _, rfl, hbase, hrow, by omega, hmx, ?_, ?_⟩⟩
      · rw [List.size_toArray, List.toList_toArray, splice_len (show (n - 1) * 3 + 3 ≤ _ by rw [HS1.out]; omega), HS1.out, hsz]
      · rw [List.toList_toArray, List.toList_toArray]
        have e1 : (splice (splice cur.toList (0 + i * 3) news) ((n - 1) * 3) [.string ⟨#[]⟩, .int .i64 0, .int .i64 0]).take ((n - 1) * 3) = (splice cur.toList (0 + i * 3) news).take ((n - 1) * 3) := by
          have q1 : ((splice cur.toList (0 + i * 3) news).take ((n - 1) * 3)).length = (n - 1) * 3 := by rw [List.length_take, HS1.out]; omega
          rw [splice]
          conv => lhs; rw [← q1]
          rw [q1, List.take_append_of_le_length (Nat.le_of_eq q1.symm), List.take_take, Nat.min_self]
        rw [e1, Nat.zero_add]
        have e2 : news.length = (n - 1) * 3 - i * 3 := by rw [hlen.out]; have := Nat.sub_mul n (i + 1) 3; omega
        have q2 : (cur.toList.take (i * 3) ++ news).length = (n - 1) * 3 := by rw [List.length_append, List.length_take, e2, Array.length_toList]; omega
        unfold splice
        rw [← List.append_assoc, List.take_append_of_le_length (Nat.le_of_eq q2.symm), List.take_of_length_le (Nat.le_of_eq q2)]
        have e3 : cur.toList.take (i * 3) = (cellsFd l).take (i * 3) := by rw [← hl, List.take_take, Nat.min_eq_left (by omega)]
        rw [e3, hnews, List.eraseIdx_eq_take_drop_succ, cellsFd_append, cellsFd_take, cellsFd_drop _ _ (by omega)]
    have HW := hid hW1
    have hic : i ≤ cap := by omega
    have hic1 : i + 1 ≤ cap := by omega
    have hii : (i : Int) < n := by omega
    have hi0' : (0 : Int) ≤ i := by omega
    have hi1' : (0 : Int) ≤ (i : Int) + 1 := by omega
    have hi2' : (i : Int) + 1 ≤ n := by omega
    have hni : (n : Int) ≤ 1000000 := by omega
    have hnci : (n : Int) ≤ cap := by omega
    clear hW1 hn h hg hl hsz hsz' hnews
    go_enter Tryz.func192, Tryz.ntmps192
    go_wp2_with fail
    go_region_law (refine step_append_room rfl (.tmp 22) (.tmp 25) 32 rfl 68 i0 3 Tryz.underlying32 hi0 hi1 g 0 i cap (by simp [Act.eval, Act.put]) A (n - (i + 1)) (cap - (i + 1)) news (by simp [Act.eval, Act.put]) hlen.out hsrc.out s2.out (by omega) s3.out ?_; rw [← HW.out])
    have eL : i + (n - (i + 1)) = n - 1 := by omega
    have hcn : ¬ cap = n - 1 := by omega
    have hn1 : ((n - 1 : Nat) : Int) ≤ n := by omega
    have hcl := HC.out
    rw [eL]
    clear eL hi1' hi2' hlen hsrc s2 s3
    go_wp2_with fail
    go_ret
    exact ⟨_, rfl, HO.out HG.out _ rfl, rfl, HG.out⟩
theorem cellsMv_one (l : List Mv) : ∀ u ∈ cellsMv l, u.oneCell' = true := fun u hu => by
  unfold cellsMv at hu
  rw [List.mem_flatten] at hu
  obtain ⟨x, hx, hu⟩ := hu
  obtain ⟨m, _, rfl⟩ := List.mem_map.1 hx
  simp [Mv.cells] at hu; rcases hu with rfl | rfl | rfl | rfl <;> rfl
theorem cellsMv_append (a b : List Mv) : cellsMv (a ++ b) = cellsMv a ++ cellsMv b := by simp [cellsMv]
theorem cellsMv_take (l : List Mv) (i : Nat) : cellsMv (l.take i) = (cellsMv l).take (i * 4) := by
  by_cases h : i ≤ l.length
  · have e : cellsMv l = cellsMv (l.take i) ++ cellsMv (l.drop i) := by rw [← cellsMv_append, List.take_append_drop]
    have h1 : (cellsMv (l.take i)).length = i * 4 := by rw [cellsMv_length, List.length_take, Nat.min_eq_left h]
    rw [e, ← h1, List.take_left]
  · rw [List.take_of_length_le (show l.length ≤ i by omega), List.take_of_length_le (show (cellsMv l).length ≤ i * 4 by rw [cellsMv_length]; omega)]
theorem cellsMv_drop (l : List Mv) (i : Nat) (h : i ≤ l.length) : cellsMv (l.drop i) = (cellsMv l).drop (i * 4) := by
  have e : cellsMv l = cellsMv (l.take i) ++ cellsMv (l.drop i) := by rw [← cellsMv_append, List.take_append_drop]
  have h1 : (cellsMv (l.take i)).length = i * 4 := by rw [cellsMv_length, List.length_take, Nat.min_eq_left h]
  rw [e, ← h1, List.drop_left]
theorem zeroMv : (Builtin.zeroCells (.agg #[.int .i64 0, .int .i64 0, .int .u64 0, .string ⟨#[]⟩] : Value).cells 1).toList = [.int .i64 0, .int .i64 0, .int .u64 0, .string ⟨#[]⟩] := by kernel_rfl
theorem run_clearMv {w : World} {g o c : Nat} {cs : Array Value} (h : w.heap[g]? = some (.cells cs 161 (0, 0))) (hl : o + 4 ≤ cs.size) (ty : TypeId) :
    (Builtin.clear_ #[90] ty #[.slice (some ⟨g, o, none⟩) 1 c]).run Tryz.prog w = .ok (.tuple #[]) (w.setCells g o [.int .i64 0, .int .i64 0, .int .u64 0, .string ⟨#[]⟩]) := by
  have hst := run_storeCells_cells (P := Tryz.prog) g o [.int .i64 0, .int .i64 0, .int .u64 0, .string ⟨#[]⟩] 0 w (fun j hj => by rw [Nat.add_zero, row_cell h, Array.getElem?_eq_getElem (by simp at hj; omega)]; rfl) (fun j hj => row_frozen h _) (by intro u hu; simp at hu; rcases hu with rfl | rfl | rfl | rfl <;> rfl)
  have hi8 := infoMp
  cases hi : Tryz.prog.info? 161 with
  | none => rw [hi] at hi8; cases hi8
  | some i =>
    rw [hi] at hi8
    simp only [Option.map_some, Option.some.injEq, Prod.mk.injEq] at hi8
    obtain ⟨hz, hsz, hby⟩ := hi8
    have hzv : (zeroValue 161).run Tryz.prog w = .ok (.agg #[.int .i64 0, .int .i64 0, .int .u64 0, .string ⟨#[]⟩]) w := by simp [zeroValue, typeInfo, hi, hz]
    simp [Builtin.clear_, run_underlying Tryz.underlying90, hzv, zeroMv, hst, Result.andThen]
set_option maxRecDepth 20000 in
set_option maxHeartbeats 8000000 in
theorem mdel_any {w : World} {B : Nat} {v : Value} {l : List Mv} (h : OwM w B 161 v l) {i : Nat} (hi : i < l.length) (hm : l.length ≤ 1000000) :
    Calls Tryz.prog 193 #[v, .int .i64 (i : Int), .int .i64 ((i : Int) + 1)] w fun e w' => ∃ v', e = .returned v' ∧ OwM w' B 161 v' (l.eraseIdx i) ∧ v'.ownBlock = v.ownBlock ∧ w.grownBy w' v.ownBlock := by
  rcases h.2 with ⟨rfl, hn⟩ | ⟨g, cap, cur, rfl, hbase, hg, hnc, hmx, hsz, hl⟩
  · omega
  · have HLT := hid h.1
    obtain ⟨n, hn⟩ : ∃ n, n = l.length := ⟨_, rfl⟩
    rw [← hn] at hnc hl hi hm ⊢
    have hcap : (cap : Int) ≤ 9223372036854775807 := by unfold maxLen at hmx; omega
    obtain ⟨news, hnews⟩ : ∃ news, news = (cellsMv l).drop ((i + 1) * 4) := ⟨_, rfl⟩
    have hlen : Hid (news.length = (n - (i + 1)) * 4) := hid (by rw [hnews, List.length_drop, cellsMv_length, ← hn, Nat.sub_mul])
    obtain ⟨A, hA, hsrc⟩ : ∃ A : Addr, (if cap = i + 1 then some (⟨g, 0, none⟩ : Addr) else some ⟨g, (i + 1) * 4, none⟩) = some A ∧ Hid (∀ t u, news[t]? = some u → w.drew.cell? (A.add t) = some u) := by
      by_cases c : cap = i + 1
      · refine ⟨⟨g, 0, none⟩, by simp [c], hid fun t u hu => ?_⟩
        have h00 : n - (i + 1) = 0 := by omega
        have h0 : news.length = 0 := by rw [hlen.out, h00, Nat.zero_mul]
        rw [List.length_eq_zero_iff.1 h0] at hu
        simp at hu
      · refine ⟨⟨g, (i + 1) * 4, none⟩, by simp [c], hid fun t u hu => ?_⟩
        have ht : t < (n - (i + 1)) * 4 := by rw [← hlen.out]; exact (List.getElem?_eq_some_iff.1 hu).1
        have e1 : w.drew.cell? ((⟨g, (i + 1) * 4, none⟩ : Addr).add t) = cur[(i + 1) * 4 + t]? := by rw [add_plain]; exact row_cell (w := w) hg _
        rw [e1, ← Array.getElem?_toList, ← List.getElem?_take_of_lt (i := (i + 1) * 4 + t) (j := n * 4) (by omega), hl, ← List.getElem?_drop, ← hnews]; exact hu
    have s2 : Hid (∀ u ∈ news, u.oneCell' = true) := hid fun u hu => by
      rw [hnews] at hu; exact cellsMv_one l u (List.mem_of_mem_drop hu)
    have hsz' : n * 4 ≤ cur.size := by rw [hsz]; exact Nat.mul_le_mul_right _ hnc
    have s3 : Hid (∀ t, t < news.length → (w.drew.cell? ⟨g, 0 + i * 4 + t, none⟩).isSome = true ∧ w.drew.frozen? ⟨g, 0 + i * 4 + t, none⟩ = false) := hid fun t ht => by
      rw [hlen.out] at ht
      refine ⟨?_, row_frozen (w := w) hg _⟩
      have e1 : w.drew.cell? ⟨g, 0 + i * 4 + t, none⟩ = cur[0 + i * 4 + t]? := row_cell (w := w) hg _
      rw [e1, Array.getElem?_eq_getElem (by omega)]; rfl
    have hin : ∃ i0, Tryz.prog.info? 161 = some i0 ∧ i0.size = 4 := by
      have hi8 := infoMp
      cases hq : Tryz.prog.info? 161 with
      | none => rw [hq] at hi8; cases hi8
      | some i1 => rw [hq] at hi8; simp only [Option.map_some, Option.some.injEq, Prod.mk.injEq] at hi8; exact ⟨i1, rfl, hi8.2.1⟩
    obtain ⟨i0, hi0, hi1⟩ := hin
    obtain ⟨W1, hW1⟩ : ∃ W1, W1 = w.drew.setCells g (0 + i * 4) news := ⟨_, rfl⟩
    have HR1 : Hid (W1.heap[g]? = some (.cells (splice cur.toList (0 + i * 4) news).toArray 161 (0, 0))) := by
      rw [hW1]; exact hid (row_setCells news _ (w := w.drew) hg (by rw [hlen.out]; have := Nat.sub_mul n (i + 1) 4; omega))
    have HS1 : Hid ((splice cur.toList (0 + i * 4) news).length = cur.size) := hid (by rw [splice_len (by rw [hlen.out]; have := Nat.sub_mul n (i + 1) 4; simp; omega)]; simp)
    have HC : Hid (∀ c ty, (Builtin.clear_ #[90] ty #[.slice (some ⟨g, (n - 1) * 4, none⟩) (n - (n - 1)) c]).run Tryz.prog W1 = .ok (.tuple #[]) (W1.setCells g ((n - 1) * 4) [.int .i64 0, .int .i64 0, .int .u64 0, .string ⟨#[]⟩])) := hid fun c ty => by rw [show n - (n - 1) = 1 by omega]; exact run_clearMv HR1.out (by rw [List.size_toArray, HS1.out]; omega) ty
    have HG : Hid (w.grownBy (W1.setCells g ((n - 1) * 4) [.int .i64 0, .int .i64 0, .int .u64 0, .string ⟨#[]⟩]) (some g)) := by
      rw [hW1]; exact hid (grown_setCells _ _ (grown_setCells news _ (w' := w.drew) ⟨rfl, rfl, rfl, Nat.le_refl _, fun _ _ _ => rfl⟩))
    have HO : Hid (w.grownBy (W1.setCells g ((n - 1) * 4) [.int .i64 0, .int .i64 0, .int .u64 0, .string ⟨#[]⟩]) (some g) → ∀ c, c = cap → OwM (W1.setCells g ((n - 1) * 4) [.int .i64 0, .int .i64 0, .int .u64 0, .string ⟨#[]⟩]) B 161 (.slice (some ⟨g, 0, none⟩) (n - 1) c) (l.eraseIdx i)) := hid fun hgr c hc => by
      subst hc
      have hle : (l.eraseIdx i).length = n - 1 := by rw [List.length_eraseIdx, if_pos (by omega)]; omega
      show World.ownsRow _ _ _ _ _ (l.eraseIdx i).length _
      rw [hle]
      have hrow := row_setCells [.int .i64 0, .int .i64 0, .int .u64 0, .string ⟨#[]⟩] ((n - 1) * 4) HR1.out (by rw [List.size_toArray, HS1.out]; simp; omega)
      refine ⟨by rw [cellsMv_length, hle], .inr ⟨g, c, _, rfl, hbase, hrow, by omega, hmx, ?_, ?_⟩⟩
      · rw [List.size_toArray, List.toList_toArray, splice_len (show (n - 1) * 4 + 4 ≤ _ by rw [HS1.out]; omega), HS1.out, hsz]
      · rw [List.toList_toArray, List.toList_toArray]
        have e1 : (splice (splice cur.toList (0 + i * 4) news) ((n - 1) * 4) [.int .i64 0, .int .i64 0, .int .u64 0, .string ⟨#[]⟩]).take ((n - 1) * 4) = (splice cur.toList (0 + i * 4) news).take ((n - 1) * 4) := by
          have q1 : ((splice cur.toList (0 + i * 4) news).take ((n - 1) * 4)).length = (n - 1) * 4 := by rw [List.length_take, HS1.out]; omega
          rw [splice]
          conv => lhs; rw [← q1]
          rw [q1, List.take_append_of_le_length (Nat.le_of_eq q1.symm), List.take_take, Nat.min_self]
        rw [e1, Nat.zero_add]
        have e2 : news.length = (n - 1) * 4 - i * 4 := by rw [hlen.out]; have := Nat.sub_mul n (i + 1) 4; omega
        have q2 : (cur.toList.take (i * 4) ++ news).length = (n - 1) * 4 := by rw [List.length_append, List.length_take, e2, Array.length_toList]; omega
        unfold splice
        rw [← List.append_assoc, List.take_append_of_le_length (Nat.le_of_eq q2.symm), List.take_of_length_le (Nat.le_of_eq q2)]
        have e3 : cur.toList.take (i * 4) = (cellsMv l).take (i * 4) := by rw [← hl, List.take_take, Nat.min_eq_left (by omega)]
        rw [e3, hnews, List.eraseIdx_eq_take_drop_succ, cellsMv_append, cellsMv_take, cellsMv_drop _ _ (by omega)]
    have HW := hid hW1
    have hic : i ≤ cap := by omega
    have hic1 : i + 1 ≤ cap := by omega
    have hii : (i : Int) < n := by omega
    have hi0' : (0 : Int) ≤ i := by omega
    have hi1' : (0 : Int) ≤ (i : Int) + 1 := by omega
    have hi2' : (i : Int) + 1 ≤ n := by omega
    have hni : (n : Int) ≤ 1000000 := by omega
    have hnci : (n : Int) ≤ cap := by omega
    clear hW1 hn h hg hl hsz hsz' hnews
    go_enter Tryz.func193, Tryz.ntmps193
    go_wp2_with fail
    go_region_law (refine step_append_room rfl (.tmp 22) (.tmp 25) 90 rfl 161 i0 4 Tryz.underlying90 hi0 hi1 g 0 i cap (by simp [Act.eval, Act.put]) A (n - (i + 1)) (cap - (i + 1)) news (by simp [Act.eval, Act.put]) hlen.out hsrc.out s2.out (by omega) s3.out ?_; rw [← HW.out])
    have eL : i + (n - (i + 1)) = n - 1 := by omega
    have hcn : ¬ cap = n - 1 := by omega
    have hn1 : ((n - 1 : Nat) : Int) ≤ n := by omega
    have hcl := HC.out
    rw [eL]
    clear eL hi1' hi2' hlen hsrc s2 s3
    go_wp2_with fail
    go_ret
    exact ⟨_, rfl, HO.out HG.out _ rfl, rfl, HG.out⟩
end Go.Proofs.YtaegencmnmjgbaaGreat

namespace Go.Proofs.YtaegencmnmjgbaaGreat
open Go.RowKit
set_option linter.unusedVariables false
set_option linter.unusedSimpArgs false
def okF (l : List Fd) : Prop := ∀ f ∈ l, I64 f.k ∧ I64 f.g ∧ f.nm.length ≤ nmMax
theorem findN_lt {l : List Fd} {nm : List UInt8} {i : Nat} (h : findN l nm = some i) : i < l.length := by
  obtain ⟨f, hf, _⟩ := findN_get h
  exact (List.getElem?_eq_some_iff.1 hf).1
def byName (T : Tb) (nm : List UInt8) (g : Nat → Tb) : Tb × Int := match findN T.nw nm with
  | none => (Tb.none, 61)
  | some i => (g i, 0)
theorem byName_none {T : Tb} {nm : List UInt8} {g : Nat → Tb} (h : findN T.nw nm = none) : byName T nm g = (Tb.none, 61) := by unfold byName; rw [h]
theorem byName_some {T : Tb} {nm : List UInt8} {g : Nat → Tb} {i : Nat} (h : findN T.nw nm = some i) : byName T nm g = (g i, 0) := by unfold byName; rw [h]
def dropR (T : Tb) (nm : List UInt8) : Tb × Int := byName T nm fun i => ⟨T.o, T.nw.eraseIdx i, T.mv.eraseIdx i⟩
set_option maxRecDepth 20000 in
set_option maxHeartbeats 8000000 in
theorem drop_any {w : World} {B : Nat} {v : Value} {T : Tb} (h : OwT w B v T) (hl : T.nw.length ≤ 1000 ∧ T.mv.length = T.nw.length) (hf : okF T.nw) (nm : List UInt8) :
    Calls Tryz.prog 174 #[v, .string (bs nm)] w (DeedQ w B (dropR T nm).1 (dropR T nm).2) := by
  obtain ⟨v1, v2, v3, B2, rfl, hts⟩ := h.ts
  have hBw : B ≤ w.heap.size := Nat.le_trans hts.b2 hts.sz
  obtain ⟨w0, hw0⟩ : ∃ w0, w0 = (w.alloc (.cells #[v1, v2, v3] 92)).alloc (.cells #[.slice none 0 0, .slice none 0 0, .slice none 0 0] 92) := ⟨_, rfl⟩
  obtain ⟨p0, hp0⟩ : ∃ p0, p0 = w.heap.size := ⟨_, rfl⟩
  obtain ⟨p1, hp1⟩ : ∃ p1, p1 = w.heap.size + 1 := ⟨_, rfl⟩
  have HW0 := hid hw0; have HP0 := hid hp0; have HP1 := hid hp1
  have HB0 : Hid (Below w.heap.size w w0) := by rw [hw0]; exact hid (Ba (B1 _ _) _)
  have HT0 : Hid (TBx w0 p0 v1 v2 v3 92) := by rw [hw0, hp0]; exact hid ((tb_new w _ _ _ _).on (B1 _ _))
  have HZ0 : Hid (TBx w0 p1 (.slice none 0 0) (.slice none 0 0) (.slice none 0 0) 92) := by
    rw [hw0, hp1, ← World.size_alloc w (.cells #[v1, v2, v3] 92)]; exact hid (tb_new _ _ _ _ _)
  have HTS0 := hid (hts.on HB0.out)
  have HBB0 : Hid (BK w B w0) := hid (BK.start HB0.out hBw)
  have HBP : Hid ((B ≤ w.heap.size ∧ w.heap.size ≤ p0) ∧ (B ≤ w.heap.size ∧ w.heap.size ≤ p1) ∧ p1 ≠ p0) := hid (by omega)
  have HL := hid hl
  obtain ⟨⟨A, n1, c1, rfl⟩, ⟨A2, n2, c2, rfl⟩, ⟨A3, n3, c3, rfl⟩⟩ := hts.shapes
  have hrd : RdF w0 w0.heap.size A2 n2 c2 T.nw := by
    obtain ⟨A', c', e, hr⟩ := HTS0.out.n.rd hf
    cases e; exact hr
  have HRD := hid hrd
  obtain ⟨a0, a1, a2⟩ := HT0.out.cells
  clear h hts hw0 hp0 hp1 hrd hf hl hBw
  go_enter Tryz.func174, Tryz.ntmps174
  go_upto_region 1 with fail
  rw [← HW0.out, ← HP1.out, ← HP0.out]
  go_wp2_with fail
  refine (p6find_any HRD.out nm).mono ?_
  rintro e w1 ⟨rfl, hb1⟩
  have HTS1 := hid (HTS0.out.on hb1)
  have HT1 := hid (HT0.out.on hb1)
  have HZ1 := hid (HZ0.out.on hb1)
  have HB1 : Hid (BK w B w1) := hid (HBB0.out.on (Nat.le_trans HTS0.out.b2 HTS0.out.sz) hb1)
  clear hb1 a0 a1 a2
  obtain ⟨a0, a1, a2⟩ := HT1.out.cells
  obtain ⟨z0, z1, z2⟩ := HZ1.out.cells
  have y0 := HZ1.out.frozen 0; have y1 := HZ1.out.frozen 1; have y2 := HZ1.out.frozen 2
  cases hfi : findN T.nw nm with
  | none =>
    rw [findI_none hfi]
    have HE : Hid (dropR T nm = (Tb.none, 61)) := hid (byName_none hfi)
    clear hfi
    go_wp2_with fail
    rw [HE.out]
    exact ret_TBpe (by rfl) (by rfl) (HZ1.out.set3 _ _ _) (by rfl) (by rfl) ⟨_, rfl, OwT.none _ _ (by simp only [size_set]; exact Nat.le_trans HTS1.out.b2 HTS1.out.sz), HB1.out.set3 HBP.out.2.1 _ _ _⟩
  | some i =>
    rw [findI_some hfi]
    have hin : i < T.nw.length := findN_lt hfi
    have HIN := hid hin
    have HE : Hid (dropR T nm = (⟨T.o, T.nw.eraseIdx i, T.mv.eraseIdx i⟩, 0)) := hid (byName_some hfi)
    have hdi : decide ((i : Int) < 0) = false := decide_eq_false (by omega)
    have hi1000 : (i : Int) < 1000 := by have := HL.out.1; omega
    have hi0 : (0 : Int) ≤ i := by omega
    clear hfi hin
    go_wp2_with fail
    refine (fdel_any HTS1.out.n HIN.out (by have := HL.out.1; omega)).mono ?_
    rintro e w2 ⟨v2', rfl, ho2, _, hg2⟩
    have HTS2 := hid (HTS1.out.newF hg2 ho2)
    have HT2 := hid (HT1.out.byF HTS1.out hg2)
    have HZ2 := hid (HZ1.out.byF HTS1.out hg2)
    have HB2 := hid (HTS1.out.bkF HB1.out hg2)
    obtain ⟨A4, n4, c4, rfl⟩ := ho2.shape
    obtain ⟨W2, hW2⟩ : ∃ W2, W2 = w2.setCell ⟨p0, 1, none⟩ (.slice A4 n4 c4) := ⟨_, rfl⟩
    have HTW2 : Hid (TBx W2 p0 (.slice A n1 c1) (.slice A4 n4 c4) (.slice A3 n3 c3) 92) := by rw [hW2]; exact hid (HT2.out.set1 _)
    have HZW2 : Hid (TBx W2 p1 (.slice none 0 0) (.slice none 0 0) (.slice none 0 0) 92) := by rw [hW2]; exact hid (HZ2.out.other HBP.out.2.2 _ _)
    have HTSW2 : Hid (TS W2 B B2 (.slice A n1 c1) (.slice A4 n4 c4) (.slice A3 n3 c3) ⟨T.o, T.nw.eraseIdx i, T.mv⟩) := by rw [hW2]; exact hid (HTS2.out.box HT2.out 1 _)
    have HBW2 : Hid (BK w B W2) := by rw [hW2]; exact hid (HB2.out.setN HBP.out.1 1 _)
    have HWW2 := hid hW2
    have fz := HT2.out.frozen 1
    have d1 := HT2.out.cells.2.1
    clear ho2 hg2 hW2 a0 a1 a2 z0 z1 z2 y0 y1 y2
    obtain ⟨a0, a1, a2⟩ := HTW2.out.cells
    go_upto_region 5 with fail
    rw [← HWW2.out]
    go_wp2_with fail
    refine (mdel_any HTSW2.out.m (i := i) (by have := HL.out.2; have := HIN.out; show i < T.mv.length; omega) (by have := HL.out; show T.mv.length ≤ _; omega)).mono ?_
    rintro e w3 ⟨v3', rfl, ho3, _, hg3⟩
    have HTS3 := hid (HTSW2.out.newM hg3 ho3)
    have HT3 := hid (HTW2.out.byM HTSW2.out hg3)
    have HZ3 := hid (HZW2.out.byM HTSW2.out hg3)
    have HB3 := hid (HTSW2.out.bkM HBW2.out hg3)
    obtain ⟨A5, n5, c5, rfl⟩ := ho3.shape
    obtain ⟨W3, hW3⟩ : ∃ W3, W3 = w3.setCell ⟨p0, 2, none⟩ (.slice A5 n5 c5) := ⟨_, rfl⟩
    have HTW3 : Hid (TBx W3 p0 (.slice A n1 c1) (.slice A4 n4 c4) (.slice A5 n5 c5) 92) := by rw [hW3]; exact hid (HT3.out.set2 _)
    have HZW3 : Hid (TBx W3 p1 (.slice none 0 0) (.slice none 0 0) (.slice none 0 0) 92) := by rw [hW3]; exact hid (HZ3.out.other HBP.out.2.2 _ _)
    have HTSW3 : Hid (TS W3 B B2 (.slice A n1 c1) (.slice A4 n4 c4) (.slice A5 n5 c5) ⟨T.o, T.nw.eraseIdx i, T.mv.eraseIdx i⟩) := by rw [hW3]; exact hid (HTS3.out.box HT3.out 2 _)
    have HBW3 : Hid (BK w B W3) := by rw [hW3]; exact hid (HB3.out.setN HBP.out.1 2 _)
    have HWW3 := hid hW3
    have fz2 := HT3.out.frozen 2
    have d2 := HT3.out.cells.2.2
    clear ho3 hg3 hW3 a0 a1 a2 fz d1
    obtain ⟨a0, a1, a2⟩ := HTW3.out.cells
    obtain ⟨z0, z1, z2⟩ := HZW3.out.cells
    have y0 := HZW3.out.frozen 0; have y1 := HZW3.out.frozen 1; have y2 := HZW3.out.frozen 2
    go_upto_region 6 with fail
    rw [← HWW3.out]
    go_wp2_with fail
    rw [HE.out]
    exact ret_TBpe (by rfl) (by rfl) (HZW3.out.set3 _ _ _) (by rfl) (by rfl) ⟨_, rfl, (HTSW3.out.box3 HZW3.out _ _ _).owt, HBW3.out.set3 HBP.out.2.1 _ _ _⟩
end Go.Proofs.YtaegencmnmjgbaaGreat
