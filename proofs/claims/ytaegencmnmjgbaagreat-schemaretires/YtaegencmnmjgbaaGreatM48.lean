/-
  Rows of tables in memory: slices of them; a row of the call's own all of whose cells are slices; append.
  Maps with names as keys, read as functions.
  What the calls of layer 9 make of types: mathematics.
  An object's values, as they are got: mathematics.
-/
import Derived.Test.YtaegencmnmjgbaaGreatM47
import Derived.Test.YtaegencmnmjgbaaGreatM20
import Derived.Test.YtaegencmnmjgbaaGreatM36
import Derived.Test.YtaegencmnmjgbaaGreatM42
import Derived.Test.YtaegencmnmjgbaaGreatM6
import Derived.StringKeys
import Derived.Maps.OwnOps
import Derived.Maps.OwnSet
import Derived.Maps.RangeWalk
import Derived.Maps.Ext
import Derived.Deep.MidRow
import Derived.Deep.WholeRow

namespace Go.Proofs.YtaegencmnmjgbaaGreat
open Go.RowKit
set_option linter.unusedVariables false
set_option linter.unusedSimpArgs false
def RdTb (w : World) (B : Nat) (A : Option Addr) (n cap : Nat) (L : List Tb) : Prop :=
  L.length = n ∧ n ≤ cap ∧ cap ≤ maxLen ∧ (0 < n → ∃ b off, A = some ⟨b, off, none⟩ ∧ b < B ∧ ∀ (i : Nat) T, L[i]? = some T → ∃ v1 v2 v3, w.cell? ⟨b, off + i * 3, none⟩ = some v1 ∧ w.cell? ⟨b, off + i * 3 + 1, none⟩ = some v2 ∧ w.cell? ⟨b, off + i * 3 + 2, none⟩ = some v3 ∧ RdT w B (.agg #[v1, v2, v3]) T)
section
variable {w w' : World} {B B' n cap : Nat} {A : Option Addr} {L : List Tb}
theorem RdT.below {v : Value} {T : Tb} (h : RdT w B v T) (hb : Below B w w') : RdT w' B v T := by
  obtain ⟨A, n, c, A2, n2, c2, A3, n3, c3, e, h1, h2, h3⟩ := h
  exact ⟨A, n, c, A2, n2, c2, A3, n3, c3, e, h1.below hb, h2.below hb, h3.below hb⟩
theorem RdT.more {v : Value} {T : Tb} (h : RdT w B v T) (hB : B ≤ B') : RdT w B' v T := by
  obtain ⟨A, n, c, A2, n2, c2, A3, n3, c3, e, h1, h2, h3⟩ := h
  exact ⟨A, n, c, A2, n2, c2, A3, n3, c3, e, h1.more hB, h2.more hB, h3.more hB⟩
theorem RdTb.below (h : RdTb w B A n cap L) (hb : Below B w w') : RdTb w' B A n cap L :=
  ⟨h.1, h.2.1, h.2.2.1, fun hn => by
    obtain ⟨b, off, e, hlt, hc⟩ := h.2.2.2 hn
    refine ⟨b, off, e, hlt, fun i T hi => ?_⟩
    obtain ⟨v1, v2, v3, c1, c2, c3, hr⟩ := hc i T hi
    exact ⟨v1, v2, v3, (hb.cell (p := ⟨b, _, none⟩) hlt).trans c1, (hb.cell (p := ⟨b, _, none⟩) hlt).trans c2, (hb.cell (p := ⟨b, _, none⟩) hlt).trans c3, hr.below hb⟩⟩
theorem RdTb.more (h : RdTb w B A n cap L) (hB : B ≤ B') : RdTb w B' A n cap L :=
  ⟨h.1, h.2.1, h.2.2.1, fun hn => by
    obtain ⟨b, off, e, hlt, hc⟩ := h.2.2.2 hn
    refine ⟨b, off, e, Nat.lt_of_lt_of_le hlt hB, fun i T hi => ?_⟩
    obtain ⟨v1, v2, v3, c1, c2, c3, hr⟩ := hc i T hi
    exact ⟨v1, v2, v3, c1, c2, c3, hr.more hB⟩⟩
theorem RdTb.on (h : RdTb w w.heap.size A n cap L) (hb : Below w.heap.size w w') : RdTb w' w'.heap.size A n cap L := (h.below hb).more hb.size
theorem RdTb.nil (w : World) (B : Nat) : RdTb w B none 0 0 [] := ⟨rfl, by omega, by simp [maxLen], fun h => by omega⟩
theorem RdTb.at (h : RdTb w B A n cap L) {i : Nat} {T : Tb} (hi : L[i]? = some T) : i < n ∧ ∃ b off, A = some ⟨b, off, none⟩ ∧ b < B ∧ ∃ v1 v2 v3, RdT w B (.agg #[v1, v2, v3]) T ∧
    ∀ w', Below B w w' → w'.cell? ⟨b, off + i * 3, none⟩ = some v1 ∧ w'.cell? ⟨b, off + i * 3 + 1, none⟩ = some v2 ∧ w'.cell? ⟨b, off + i * 3 + 2, none⟩ = some v3 := by
  have hl : i < L.length := (List.getElem?_eq_some_iff.1 hi).1
  obtain ⟨b, off, e, hlt, hc⟩ := h.2.2.2 (by have := h.1; omega)
  obtain ⟨v1, v2, v3, c1, c2, c3, hr⟩ := hc i T hi
  exact ⟨by have := h.1; omega, b, off, e, hlt, v1, v2, v3, hr, fun w' hb => ⟨(hb.cell (p := ⟨b, _, none⟩) hlt).trans c1, (hb.cell (p := ⟨b, _, none⟩) hlt).trans c2, (hb.cell (p := ⟨b, _, none⟩) hlt).trans c3⟩⟩
theorem RdTb.drop (h : RdTb w B A n cap L) {k c : Nat} (hk : k < n) (hc : n - k ≤ c) (hcm : c ≤ maxLen) {b off : Nat} (hA : A = some ⟨b, off, none⟩) : RdTb w B (some ⟨b, off + k * 3, none⟩) (n - k) c (L.drop k) := by
  refine ⟨by have := h.1; simp; omega, hc, hcm, fun h0 => ?_⟩
  obtain ⟨b', off', e, hlt, hcc⟩ := h.2.2.2 (by omega)
  rw [hA] at e; cases e
  refine ⟨b, off + k * 3, rfl, hlt, fun i T hi => ?_⟩
  rw [List.getElem?_drop] at hi
  have := hcc (k + i) T hi
  rw [Nat.add_mul, ← Nat.add_assoc] at this
  exact this
end
def slv (v : Value) : Prop := ∃ A n c, v = .slice A n c
abbrev V3 := Value × Value × Value
def slv3 (p : V3) : Prop := slv p.1 ∧ slv p.2.1 ∧ slv p.2.2
def cellsV3 (ps : List V3) : List Value := (ps.map fun p => [p.1, p.2.1, p.2.2]).flatten
theorem cellsV3_length (l : List V3) : (cellsV3 l).length = l.length * 3 := by
  induction l with
  | nil => rfl
  | cons o os ih => have : cellsV3 (o :: os) = [o.1, o.2.1, o.2.2] ++ cellsV3 os := rfl; rw [this, List.length_append, ih]; simp; omega
theorem cellsV3_get : ∀ (os : List V3) (i : Nat) (h : i < os.length), ∀ j, j < 3 → (cellsV3 os)[i * 3 + j]? = ([os[i].1, os[i].2.1, os[i].2.2])[j]? := by
  intro os
  induction os with
  | nil => intro i h; simp at h
  | cons x os ih =>
    intro i h j hj
    have e : cellsV3 (x :: os) = [x.1, x.2.1, x.2.2] ++ cellsV3 os := rfl
    have hl : ([x.1, x.2.1, x.2.2] : List Value).length = 3 := rfl
    rw [e]
    cases i with
    | zero => rw [List.getElem?_append_left (by omega), Nat.zero_mul, Nat.zero_add]; rfl
    | succ i =>
      rw [List.getElem?_append_right (by omega), hl, show (i + 1) * 3 + j - 3 = i * 3 + j by omega]
      exact ih i (by simpa using h) j hj
def TRow (w : World) (g cap : Nat) (ps : List V3) : Prop :=
  ps.length ≤ cap ∧ cap ≤ maxLen ∧ ∃ cur : Array Value, w.heap[g]? = some (.cells cur 92 (0, 0)) ∧ cur.size = cap * 3 ∧ cur.toList.take (ps.length * 3) = cellsV3 ps ∧ ∀ v ∈ cur.toList, slv v
section
variable {w w' : World} {g cap : Nat} {ps : List V3}
theorem TRow.lt (h : TRow w g cap ps) : g < w.heap.size := by obtain ⟨_, _, cur, hg, _⟩ := h; exact row_lt hg
theorem TRow.cong (h : TRow w g cap ps) (hb : w'.heap[g]? = w.heap[g]?) : TRow w' g cap ps := by
  obtain ⟨h1, h2, cur, hg, h3⟩ := h; exact ⟨h1, h2, cur, hb.trans hg, h3⟩
theorem TRow.isSl {i : Nat} {v : Value} (h : TRow w g cap ps) (hc : w.cell? ⟨g, i, none⟩ = some v) : slv v := by
  obtain ⟨h1, h2, cur, hg, h3, h4, h5⟩ := h
  rw [row_cell hg] at hc
  exact h5 v (by rw [Array.getElem?_eq_some_iff] at hc; obtain ⟨hi, rfl⟩ := hc; simp)
theorem TRow.at (h : TRow w g cap ps) {i : Nat} {p : V3} (hi : ps[i]? = some p) : w.cell? ⟨g, i * 3, none⟩ = some p.1 ∧ w.cell? ⟨g, i * 3 + 1, none⟩ = some p.2.1 ∧ w.cell? ⟨g, i * 3 + 2, none⟩ = some p.2.2 := by
  obtain ⟨h1, h2, cur, hg, h3, h4, h5⟩ := h
  obtain ⟨hl, rfl⟩ := List.getElem?_eq_some_iff.1 hi
  have t : ∀ j, j < 3 → w.cell? ⟨g, i * 3 + j, none⟩ = ([ps[i].1, ps[i].2.1, ps[i].2.2])[j]? := fun j hj => by
    rw [row_cell hg, ← cellsV3_get ps i hl j hj, ← h4, List.getElem?_take_of_lt (by omega), Array.getElem?_toList]
  exact ⟨t 0 (by omega), t 1 (by omega), t 2 (by omega)⟩
theorem TRow.info : (Tryz.prog.info? 92).map (fun i => (i.zero, i.size, i.bytes)) = some (some (.agg #[.slice none 0 0, .slice none 0 0, .slice none 0 0]), 3, 72) := by kernel_rfl
theorem slv_nil : slv (.slice none 0 0) := ⟨_, _, _, rfl⟩
theorem slv_mem {p : V3} (h : slv3 p) : ∀ u ∈ [p.1, p.2.1, p.2.2], slv u ∧ u.oneCell' = true := by
  obtain ⟨⟨A, n, c, e1⟩, ⟨A2, n2, c2, e2⟩, A3, n3, c3, e3⟩ := h
  intro u hu
  simp only [List.mem_cons, List.not_mem_nil, or_false] at hu
  rcases hu with rfl | rfl | rfl
  · rw [e1]; exact ⟨⟨_, _, _, rfl⟩, rfl⟩
  · rw [e2]; exact ⟨⟨_, _, _, rfl⟩, rfl⟩
  · rw [e3]; exact ⟨⟨_, _, _, rfl⟩, rfl⟩
theorem run_appTb (h : TRow w g cap ps) {p : V3} (hp : slv3 p) (hlen : ps.length ≤ 1000000) (ty : TypeId) :
    ∃ g' cap' w', (Builtin.append_ #[81, 81] ty #[.slice (some ⟨g, 0, none⟩) ps.length cap, .slice (some ⟨w.heap.size, 0, none⟩) 1 1]).run Tryz.prog (w.alloc (.cells #[p.1, p.2.1, p.2.2] 92)) = .ok (.slice (some ⟨g', 0, none⟩) (ps.length + 1) cap') w' ∧
      TRow w' g' cap' (ps ++ [p]) ∧ (g' = g ∨ w.heap.size ≤ g') ∧ (w.alloc (.cells #[p.1, p.2.1, p.2.2] 92)).grownBy w' (some g) := by
  have hi8 := TRow.info
  cases hi : Tryz.prog.info? 92 with
  | none => rw [hi] at hi8; cases hi8
  | some i =>
    rw [hi] at hi8
    simp only [Option.map_some, Option.some.injEq, Prod.mk.injEq] at hi8
    obtain ⟨hz, hsz, hby⟩ := hi8
    obtain ⟨W, hW⟩ : ∃ W, W = w.alloc (.cells #[p.1, p.2.1, p.2.2] 92) := ⟨_, rfl⟩
    have hWs : W.heap.size = w.heap.size + 1 := by rw [hW]; simp
    have hnew : W.heap[w.heap.size]? = some (.cells #[p.1, p.2.1, p.2.2] 92 (0, 0)) := by rw [hW]; exact heap_alloc_new w _
    have hT := h.cong (w' := W) (by rw [hW]; exact (B1 w _).block g h.lt)
    rw [← hW]
    obtain ⟨h1, h2, cur, hg, h3, h4, h5⟩ := hT
    have hl : ([p.1, p.2.1, p.2.2] : List Value).length = 1 * i.size := by rw [hsz]; rfl
    have hnews : ∀ j u, ([p.1, p.2.1, p.2.2] : List Value)[j]? = some u → W.cell? ((⟨w.heap.size, 0, none⟩ : Addr).add j) = some u := fun j u hj => by
      rw [add_plain, Nat.zero_add, row_cell hnew]; match j, hj with | 0, h => exact h | 1, h => exact h | 2, h => exact h
    have hps := slv_mem hp
    have e3 : cellsV3 (ps ++ [p]) = cellsV3 ps ++ [p.1, p.2.1, p.2.2] := by simp [cellsV3]
    by_cases hroom : ps.length + 1 ≤ cap
    · have hfit : ps.length * i.size + ([p.1, p.2.1, p.2.2] : List Value).length ≤ cur.size := by rw [hsz, h3]; simp only [List.length_cons, List.length_nil]; omega
      have hr := run_append_room (P := Tryz.prog) W 81 ty 92 i Tryz.underlying81 hi g ps.length cap cur hg ⟨w.heap.size, 0, none⟩ 1 1 [p.1, p.2.1, p.2.2] hl hnews (fun u hu => (hps u hu).2) hroom hfit
      rw [hsz] at hr
      refine ⟨g, cap, _, hr, ⟨by simpa using hroom, h2, _, setRow_heap W g cur _ _ _ hg, ?_, ?_, ?_⟩, .inl rfl, ⟨rfl, rfl, rfl, by simp, fun k _ hk => setRow_other W g k _ (fun e => hk (by simp [e]))⟩⟩
      · simp only [List.size_toArray, List.length_append, List.length_take, List.length_drop, Array.length_toList, List.length_cons, List.length_nil]
        omega
      · rw [e3, h4]
        have hcl := cellsV3_length ps
        rw [List.take_append_of_le_length (by simp only [List.length_append, List.length_cons, List.length_nil]; omega)]
        exact List.take_of_length_le (by simp only [List.length_append, List.length_cons, List.length_nil]; omega)
      · intro v hv
        simp only [List.mem_append] at hv
        rcases hv with (hv | hv) | hv
        · exact h5 v (List.mem_of_mem_take hv)
        · exact (hps v hv).1
        · exact h5 v (List.mem_of_mem_drop hv)
    · have hr := run_append_grow (P := Tryz.prog) W 81 ty 92 i _ Tryz.underlying81 hi hz ⟨g, 0, none⟩ ps.length cap (cellsV3 ps) (by rw [hsz]; exact cellsV3_length ps) (fun j v hj => by
          rw [add_plain, Nat.zero_add, row_cell hg]
          rw [← h4] at hj
          have hlt : j < ps.length * 3 := by
            by_cases hlt : j < ps.length * 3
            · exact hlt
            · rw [List.getElem?_eq_none (by simp; omega)] at hj; cases hj
          rw [List.getElem?_take_of_lt hlt, Array.getElem?_toList] at hj; exact hj) ⟨w.heap.size, 0, none⟩ 1 1 [p.1, p.2.1, p.2.2] hl hnews (by omega) (by omega) (growslice_fits (by omega) (by rw [hby]; omega))
      have hge := grownCap_ge W (ps.length + 1) cap 92
      refine ⟨_, _, _, hr, ⟨by simpa using hge, grownCap_le_maxLen W (ps.length + 1) cap 92 (by unfold maxLen; omega), _, heap_alloc_new W.drew _, ?_, ?_, ?_⟩, .inr (by show w.heap.size ≤ W.heap.size; omega), ⟨rfl, rfl, rfl, by simp, fun k hk _ => heap_alloc_old W.drew _ hk⟩⟩
      · simp only [Array.size_append, List.size_toArray, size_zeroCells, cellsV3_length]
        show ps.length * 3 + 3 + (grownCap W (ps.length + 1) cap 92 - (ps.length + 1)) * 3 = _
        omega
      · simp only [Array.toList_append, List.append_assoc]
        rw [e3, ← List.append_assoc, List.length_append, Nat.add_mul, ← cellsV3_length ps]
        exact List.take_left' (by simp)
      · intro v hv
        simp only [Array.toList_append, List.mem_append] at hv
        rcases hv with (hv | hv) | hv
        · obtain ⟨q, hq, hv⟩ : ∃ q ∈ ps, v ∈ [q.1, q.2.1, q.2.2] := by
            have : v ∈ cellsV3 ps := by simpa using hv
            unfold cellsV3 at this
            rw [List.mem_flatten] at this
            obtain ⟨l, hl, hv⟩ := this
            obtain ⟨q, hq, rfl⟩ := List.mem_map.1 hl
            exact ⟨q, hq, hv⟩
          have : v ∈ cur.toList := by
            have hv' : v ∈ cellsV3 ps := by unfold cellsV3; rw [List.mem_flatten]; exact ⟨_, List.mem_map.2 ⟨q, hq, rfl⟩, hv⟩
            rw [← h4] at hv'; exact List.mem_of_mem_take hv'
          exact h5 v this
        · exact (hps v (by simpa using hv)).1
        · simp only [Builtin.zeroCells, Array.toList_map, List.mem_map] at hv
          obtain ⟨j, _, rfl⟩ := hv
          have hm : j % 3 = 0 ∨ j % 3 = 1 ∨ j % 3 = 2 := by omega
          have hj : j % (Value.cells (.agg #[.slice none 0 0, .slice none 0 0, .slice none 0 0])).size = j % 3 := rfl
          rw [hj]
          rcases hm with e | e | e <;> rw [e] <;> exact ⟨none, 0, 0, rfl⟩
end
end Go.Proofs.YtaegencmnmjgbaaGreat

namespace Go.Proofs.YtaegencmnmjgbaaGreat
open Go.RowKit Go.Maps
set_option linter.unusedVariables false
theorem kS : Keyed Tryz.prog 9 := string_keyed Tryz.underlying9
def SK (k : List UInt8) : Prop := k.length ≤ maxLen
theorem keyS {k : List UInt8} (h : SK k) : keyOf Tryz.prog 9 (.string (bs k)) = some (.string k) := by
  have := WideMaps.keyOf_string_mk (P := Tryz.prog) (k := 9) Tryz.underlying9 (s := bs k) h
  simpa [bs] using this
def Ms (w : World) (b n : Nat) (f : List UInt8 → Option Value) : Prop :=
  ∃ D : DataW Value, w.ownsMap Tryz.prog 9 RV b n D ∧ (∀ k, SK k → ∀ z, D.atKey (.string k) z = vw (f k) z) ∧ ∀ k, f k ≠ none → SK k
def updS {α : Type} (f : List UInt8 → Option α) (k : List UInt8) (v : α) : List UInt8 → Option α := fun j => if j = k then some v else f j
section
variable {w w' : World} {b n : Nat} {f : List UInt8 → Option Value} {k : List UInt8} {v : Value}
theorem Ms.made (w : World) : Ms (w.alloc (.map #[] 0)) w.heap.size 0 (fun _ => none) :=
  ⟨.map [], World.ownsMap_made _ _ _ _, fun k hk z => rfl, fun k hk => absurd rfl hk⟩
theorem Ms.lt (h : Ms w b n f) : b < w.heap.size := by obtain ⟨D, ho, _⟩ := h; exact ho.lt
theorem Ms.mono {m : Nat} (h : Ms w b n f) (hm : n ≤ m) : Ms w b m f := by obtain ⟨D, ho, h2⟩ := h; exact ⟨D, ho.mono hm, h2⟩
theorem Ms.isMap (h : Ms w b n f) : ∃ es c, w.heap[b]? = some (.map es c) := by obtain ⟨D, ⟨es, c, hb, _⟩, _⟩ := h; exact ⟨es, c, hb⟩
theorem Ms.cong (h : Ms w b n f) (hb : w'.heap[b]? = w.heap[b]?) : Ms w' b n f := by
  obtain ⟨D, ⟨es, c, h0, h1⟩, h2⟩ := h
  exact ⟨D, ⟨es, c, hb.trans h0, h1⟩, h2⟩
theorem Ms.ext {g : List UInt8 → Option Value} (h : Ms w b n f) (e : ∀ k, f k = g k) : Ms w b n g := by
  have : f = g := funext e
  subst this; exact h
theorem Ms.kept {row : Option Nat} (h : Ms w b n f) (hg : w.grownBy w' row) (hne : some b ≠ row) : Ms w' b n f := h.cong (hg.block b h.lt hne)
theorem Ms.alloc (h : Ms w b n f) (o : Obj) : Ms (w.alloc o) b n f := h.kept (World.grownBy_alloc w o none) (by simp)
theorem Ms.look_ok {t e : TypeId} {z : Value} (h : Ms w b n f) (ht : Tryz.prog.underlying t = some (.map 9 e)) (hz : (zeroValue e).run Tryz.prog w = .ok z w) (hk : SK k) :
    (Instr.lookup t (.map (some b)) (.string (bs k)) true).run Tryz.prog w = .ok (.tuple #[(f k).getD z, .bool (f k).isSome]) w := by
  obtain ⟨D, ho, h1, h2⟩ := h
  obtain ⟨v, ps, hr, hv⟩ := ho.look_ok kS ht hz (zd := .held z) (zp := []) rfl (keyS hk)
  rw [hr, has_vw (h1 k hk)]
  rw [h1 k hk] at hv
  simp only [RV, Option.some.injEq, Prod.mk.injEq] at hv
  cases hf : f k with
  | none => rw [hf] at hv; simp only [vw, DataW.held.injEq] at hv; rw [hv.1]; rfl
  | some u => rw [hf] at hv; simp only [vw, DataW.held.injEq] at hv; rw [hv.1]; rfl
theorem Ms.look {t e : TypeId} {z : Value} (h : Ms w b n f) (ht : Tryz.prog.underlying t = some (.map 9 e)) (hz : (zeroValue e).run Tryz.prog w = .ok z w) (hk : SK k) :
    (Instr.lookup t (.map (some b)) (.string (bs k)) false).run Tryz.prog w = .ok ((f k).getD z) w := by
  obtain ⟨D, ho, h1, h2⟩ := h
  obtain ⟨v, ps, hr, hv⟩ := ho.lookup kS ht hz (zd := .held z) (zp := []) rfl (keyS hk)
  rw [hr]
  rw [h1 k hk] at hv
  simp only [RV, Option.some.injEq, Prod.mk.injEq] at hv
  cases hf : f k with
  | none => rw [hf] at hv; simp only [vw, DataW.held.injEq] at hv; rw [hv.1]; rfl
  | some u => rw [hf] at hv; simp only [vw, DataW.held.injEq] at hv; rw [hv.1]; rfl
theorem lit_neS {j k : List UInt8} (h : j ≠ k) : (Lit.string j) ≠ (Lit.string k) := by intro e; cases e; exact h rfl
theorem Ms.store {t e : TypeId} (h : Ms w b n f) (ht : Tryz.prog.underlying t = some (.map 9 e)) (hn : n < maxLen) (hk : SK k) (v : Value) :
    ∃ w', (Instr.mapUpdate t (.map (some b)) (.string (bs k)) v).run Tryz.prog w = .ok () w' ∧ Ms w' b (n + 1) (updS f k v) ∧ w.mapTurned w' b := by
  obtain ⟨D, ho, h1, h2⟩ := h
  obtain ⟨w', hr, ho', hm⟩ := ho.store kS ht hn (keyS hk) (d := .held v) (ps := []) rfl
  refine ⟨w', hr, ⟨_, ho', fun j hj z => ?_, fun j hj => ?_⟩, hm⟩
  · by_cases e : j = k
    · subst e; rw [atKey_put_same (k := .string j) ho.isMap trivial]; simp [updS, vw]
    · rw [atKey_put_other (lit_neS e), h1 j hj]; simp [updS, e]
  · by_cases e : j = k
    · subst e; exact hk
    · exact h2 j (by simpa [updS, e] using hj)
end
end Go.Proofs.YtaegencmnmjgbaaGreat

namespace Go.Proofs.YtaegencmnmjgbaaGreat
open Go.RowKit
set_option linter.unusedVariables false
set_option linter.unusedSimpArgs false
def okTy (t : Ty) : Prop := nameB t.nm = true ∧ 1 ≤ t.lo ∧ t.hi ≤ 64 ∧ t.fs.length = t.ts.length + 1 ∧ (∀ f ∈ t.fs, rightL f = true) ∧
  ∀ (i : Nat) T, t.ts[i]? = some T → rightT T = true ∧ (∀ m ∈ T.mv, U64 m.n) ∧ t.fs[i]? = some T.o ∧ t.fs[i + 1]? = some T.nw
def okC (l : List Ty) : Prop := rise l ∧ l.length ≤ 16 ∧ ∀ t ∈ l, okTy t
def defS (l : List Ty) (nm : List UInt8) (f : List Fd) : List Ty × Int :=
  if nameB nm = true ∧ rightL f = true then if findT l nm ≠ none ∨ 16 ≤ l.length then (l, 91) else (putT l ⟨nm, 1, [f], []⟩, 0) else (l, 60)
def moreT (t : Ty) (T : Tb) : Ty := ⟨t.nm, t.lo, t.fs ++ [T.nw], t.ts ++ [T]⟩
def chgS (l : List Ty) (nm : List UInt8) (cs : List Ch) : List Ty × Int × Int :=
  match findT l nm with
  | none => (l, 0, 90)
  | some k => match l[k]? with
    | none => (l, 0, 90)
    | some t => if 64 ≤ t.hi then (l, 0, 91) else if (all8 t.last cs).2 ≠ 0 then (l, 0, (all8 t.last cs).2) else (l.set k (moreT t (all8 t.last cs).1), t.hi + 1, 0)
def soleT (t : Ty) : Ty := ⟨t.nm, t.hi, t.fs.drop t.ts.length, []⟩
def retS (l : List Ty) (nm : List UInt8) (live : List Int) : List Ty × Int × Int :=
  match findT l nm with
  | none => (l, 0, 90)
  | some k => match l[k]? with
    | none => (l, 0, 90)
    | some t => if live.any (fun v => decide (t.lo ≤ v) && decide (v < t.hi)) then (l, 0, 93) else (l.set k (soleT t), t.ts.length, 0)
theorem okC_nil : okC [] := ⟨List.Pairwise.nil, by simp, by simp⟩
theorem okTy_one {nm : List UInt8} {f : List Fd} (hn : nameB nm = true) (hf : rightL f = true) : okTy ⟨nm, 1, [f], []⟩ :=
  ⟨hn, by show (1 : Int) ≤ 1; omega, by show (1 : Int) + (1 : Nat) - 1 ≤ 64; omega, rfl, fun g hg => by simp at hg; rw [hg]; exact hf, fun i T h => by simp at h⟩
theorem okTy.last {t : Ty} (h : okTy t) : t.fs[t.ts.length]? = some t.last ∧ rightL t.last = true := by
  have hl := h.2.2.2.1
  have hne : t.fs ≠ [] := fun e => by rw [e] at hl; simp at hl
  have e : t.fs[t.ts.length]? = some t.last := by
    unfold Ty.last
    rw [List.getLastD_eq_getLast?, List.getLast?_eq_getElem?, hl, Nat.add_sub_cancel]
    obtain ⟨f, hf⟩ : ∃ f, t.fs[t.ts.length]? = some f := ⟨_, List.getElem?_eq_getElem (by omega)⟩
    rw [hf]; rfl
  exact ⟨e, h.2.2.2.2.1 _ (List.mem_of_getElem? e)⟩
theorem okTy_more {t : Ty} (h : okTy t) {cs : List Ch} (hc : ∀ c ∈ cs, chOk c) (h0 : (all8 t.last cs).2 = 0) (hh : t.hi < 64) : okTy (moreT t (all8 t.last cs).1) := by
  obtain ⟨hl, hr⟩ := h.last
  obtain ⟨g1, g2, g3⟩ := all8_rightT h0 hr hc
  obtain ⟨e1, e2, e3, e4, e5, e6⟩ := h
  refine ⟨e1, e2, ?_, ?_, ?_, ?_⟩
  · unfold Ty.hi at hh ⊢; unfold moreT
    simp only [List.length_append, List.length_singleton]
    omega
  · unfold moreT; simp only [List.length_append, List.length_singleton]; omega
  · intro f hf
    unfold moreT at hf
    rcases List.mem_append.1 hf with hf | hf
    · exact e5 f hf
    · simp at hf; rw [hf]; exact (rightT_iff.1 g1).2.1
  · intro i T hT
    unfold moreT at hT ⊢
    dsimp only at hT ⊢
    by_cases c : i < t.ts.length
    · rw [List.getElem?_append_left c] at hT
      obtain ⟨a, b, d, e⟩ := e6 i T hT
      exact ⟨a, b, by rw [List.getElem?_append_left (by omega)]; exact d, by rw [List.getElem?_append_left (by omega)]; exact e⟩
    · rw [List.getElem?_append_right (by omega)] at hT
      have hi : i = t.ts.length := by
        by_cases c2 : i - t.ts.length = 0
        · omega
        · rw [List.getElem?_eq_none (by simp; omega)] at hT; cases hT
      subst hi
      rw [Nat.sub_self] at hT
      simp at hT
      subst hT
      exact ⟨g1, g3, by rw [List.getElem?_append_left (by omega), g2]; exact hl, by rw [List.getElem?_append_right (by omega), e4, Nat.sub_self]; rfl⟩
theorem okTy_sole {t : Ty} (h : okTy t) : okTy (soleT t) ∧ (soleT t).fs = [t.last] ∧ (soleT t).hi = t.hi := by
  obtain ⟨hl, hr⟩ := h.last
  obtain ⟨e1, e2, e3, e4, e5, e6⟩ := h
  have e : t.fs.drop t.ts.length = [t.last] := by
    have hlt : t.ts.length < t.fs.length := by omega
    rw [List.drop_eq_getElem_cons hlt, List.drop_eq_nil_of_le (by omega)]
    rw [(List.getElem?_eq_some_iff.1 hl).2]
  have eh : (soleT t).hi = t.hi := by
    show t.hi + ((t.fs.drop t.ts.length).length : Int) - 1 = t.hi
    rw [e, List.length_singleton]; omega
  refine ⟨⟨e1, ?_, by rw [eh]; exact e3, ?_, ?_, ?_⟩, e, eh⟩
  · show 1 ≤ t.hi; unfold Ty.hi; omega
  · show (t.fs.drop t.ts.length).length = 0 + 1; rw [e]; rfl
  · intro f hf
    have hf' : f ∈ t.fs.drop t.ts.length := hf
    rw [e] at hf'; simp at hf'; rw [hf']; exact hr
  · intro i T hT; exact absurd hT (by simp [soleT])
theorem okC_set {l : List Ty} (h : okC l) {k : Nat} {t u : Ty} (hk : l[k]? = some t) (hn : u.nm = t.nm) (hu : okTy u) : okC (l.set k u) :=
  ⟨set_rise h.1 hk hn, by rw [List.length_set]; exact h.2.1, fun x hx => by
    rcases List.mem_or_eq_of_mem_set hx with hx | rfl
    · exact h.2.2 x hx
    · exact hu⟩
theorem defS_ok {l : List Ty} (h : okC l) (nm : List UInt8) (f : List Fd) : okC (defS l nm f).1 := by
  unfold defS
  by_cases c : nameB nm = true ∧ rightL f = true
  · rw [if_pos c]
    by_cases d : findT l nm ≠ none ∨ 16 ≤ l.length
    · rw [if_pos d]; exact h
    · rw [if_neg d]
      have d1 : findT l nm = none := Classical.byContradiction fun e => d (.inl e)
      have d2 : l.length < 16 := by
        rcases Nat.lt_or_ge l.length 16 with e | e
        · exact e
        · exact absurd (.inr e) d
      refine ⟨put_rise h.1 (atT_none (findT_none.1 d1)), by rw [put_len]; omega, fun x hx => ?_⟩
      rcases put_mem.1 hx with rfl | hx
      · exact okTy_one c.1 c.2
      · exact h.2.2 x hx
  · rw [if_neg c]; exact h
theorem chgS_ok {l : List Ty} (h : okC l) (nm : List UInt8) {cs : List Ch} (hc : ∀ c ∈ cs, chOk c) : okC (chgS l nm cs).1 := by
  unfold chgS
  cases hf : findT l nm with
  | none => exact h
  | some k =>
    dsimp only
    cases hk : l[k]? with
    | none => exact h
    | some t =>
      dsimp only
      have ht := h.2.2 t (List.mem_of_getElem? hk)
      by_cases a : 64 ≤ t.hi
      · rw [if_pos a]; exact h
      · rw [if_neg a]
        by_cases b : (all8 t.last cs).2 ≠ 0
        · rw [if_pos b]; exact h
        · rw [if_neg b]
          exact okC_set h hk rfl (okTy_more ht hc (Classical.byContradiction fun e => b e) (by omega))
theorem retS_ok {l : List Ty} (h : okC l) (nm : List UInt8) (live : List Int) : okC (retS l nm live).1 := by
  unfold retS
  cases hf : findT l nm with
  | none => exact h
  | some k =>
    dsimp only
    cases hk : l[k]? with
    | none => exact h
    | some t =>
      dsimp only
      split
      · exact h
      · exact okC_set h hk rfl (okTy_sole (h.2.2 t (List.mem_of_getElem? hk))).1
theorem defS_same {l : List Ty} {nm : List UInt8} {f : List Fd} (h : (defS l nm f).2 ≠ 0) : (defS l nm f).1 = l := by
  unfold defS at h ⊢
  split
  · split
    · rfl
    · rename_i c d; rw [if_pos c, if_neg d] at h; exact absurd rfl h
  · rfl
theorem chgS_same {l : List Ty} {nm : List UInt8} {cs : List Ch} (h : (chgS l nm cs).2.2 ≠ 0) : (chgS l nm cs).1 = l ∧ (chgS l nm cs).2.1 = 0 := by
  unfold chgS at h ⊢
  cases hf : findT l nm with
  | none => exact ⟨rfl, rfl⟩
  | some k =>
    rw [hf] at h
    dsimp only at h ⊢
    cases hk : l[k]? with
    | none => exact ⟨rfl, rfl⟩
    | some t =>
      rw [hk] at h
      dsimp only at h ⊢
      by_cases a : 64 ≤ t.hi
      · rw [if_pos a]; exact ⟨rfl, rfl⟩
      · rw [if_neg a] at h ⊢
        by_cases b : (all8 t.last cs).2 ≠ 0
        · rw [if_pos b]; exact ⟨rfl, rfl⟩
        · rw [if_neg b] at h; exact absurd rfl h
theorem retS_same {l : List Ty} {nm : List UInt8} {live : List Int} (h : (retS l nm live).2.2 ≠ 0) : (retS l nm live).1 = l ∧ (retS l nm live).2.1 = 0 := by
  unfold retS at h ⊢
  cases hf : findT l nm with
  | none => exact ⟨rfl, rfl⟩
  | some k =>
    rw [hf] at h
    dsimp only at h ⊢
    cases hk : l[k]? with
    | none => exact ⟨rfl, rfl⟩
    | some t =>
      rw [hk] at h
      dsimp only at h ⊢
      by_cases a : live.any (fun v => decide (t.lo ≤ v) && decide (v < t.hi)) = true
      · rw [if_pos a]; exact ⟨rfl, rfl⟩
      · rw [if_neg a] at h; exact absurd rfl h
end Go.Proofs.YtaegencmnmjgbaaGreat

namespace Go.Proofs.YtaegencmnmjgbaaGreat
open Go.RowKit
set_option linter.unusedVariables false
set_option linter.unusedSimpArgs false
def cutF (s : List UInt8) (f : Fd) (p : Int) : List UInt8 := (s.drop p.toNat).take f.long.toNat
def valO (s : List UInt8) (l : List Fd) : List Va := (l.zip (layP 0 l)).map fun x => ⟨x.1.k, decN x.1.k (cutF s x.1 x.2), decT x.1.k (cutF s x.1 x.2)⟩
def okO (s : List UInt8) (l : List Fd) : Bool := decide ((s.length : Int) = layN l) && (l.zip (layP 0 l)).all fun x => decB (cutF s x.1 x.2) x.1.k x.1.g
def GotV (s : List UInt8) (l : List Fd) (vs : List Va) : Prop := ∀ (i : Nat) f v, l[i]? = some f → vs[i]? = some v → getR s l f.nm = .tuple #[.agg #[.int .i64 v.k, .int .u64 v.n, .string v.t], .int .i64 0]
theorem objA_got {l : List Fd} {vs : List Va} (hr : rightL l = true) (h : okV l vs) : GotV (objA l vs) l vs := fun _ _ _ hf hv => objA_get hr h hf hv
theorem valO_length (s : List UInt8) (l : List Fd) : (valO s l).length = l.length := by
  unfold valO; rw [List.length_map, List.length_zip, layP_length, Nat.min_self]
theorem valO_get {s : List UInt8} {l : List Fd} {i : Nat} {f : Fd} {p : Int} (hf : l[i]? = some f) (hp : (layP 0 l)[i]? = some p) : (valO s l)[i]? = some ⟨f.k, decN f.k (cutF s f p), decT f.k (cutF s f p)⟩ := by
  unfold valO; rw [List.getElem?_map, zip_get hf hp]; rfl
theorem okO_at {s : List UInt8} {l : List Fd} (h : okO s l = true) {i : Nat} {f : Fd} {p : Int} (hf : l[i]? = some f) (hp : (layP 0 l)[i]? = some p) : decB (cutF s f p) f.k f.g = true := by
  unfold okO at h
  rw [Bool.and_eq_true, List.all_eq_true] at h
  exact h.2 (f, p) (List.mem_of_getElem? (zip_get hf hp))
theorem okO_len {s : List UInt8} {l : List Fd} (h : okO s l = true) : (s.length : Int) = layN l := by
  unfold okO at h
  rw [Bool.and_eq_true] at h
  exact of_decide_eq_true h.1
theorem okO_get {s : List UInt8} {l : List Fd} (hr : rightL l = true) (h : okO s l = true) {i : Nat} {f : Fd} {p : Int} (hf : l[i]? = some f) (hp : (layP 0 l)[i]? = some p) :
    getR s l f.nm = .tuple #[.agg #[.int .i64 f.k, .int .u64 (decN f.k (cutF s f p)), .string (decT f.k (cutF s f p))], .int .i64 0] := by
  rw [getR_some ⟨hr, okO_len h⟩ ((rightL_iff.1 hr).2 i f hf).2.2 hf hp]
  exact decR_ok (okO_at h hf hp)
theorem okO_vals {s : List UInt8} {l : List Fd} (hr : rightL l = true) (h : okO s l = true) : okV l (valO s l) ∧ GotV s l (valO s l) := by
  refine ⟨⟨by rw [valO_length]; exact Nat.le_refl _, fun i f v hf hv => ?_⟩, fun i f v hf hv => ?_⟩
  · obtain ⟨p, hp⟩ : ∃ p, (layP 0 l)[i]? = some p := ⟨_, layP_get hf 0⟩
    rw [valO_get hf hp] at hv
    cases hv
    have hd := okO_at h hf hp
    unfold decB at hd
    rw [Bool.and_eq_true] at hd
    exact ⟨hd.1, decN_U64 _ _⟩
  · obtain ⟨p, hp⟩ : ∃ p, (layP 0 l)[i]? = some p := ⟨_, layP_get hf 0⟩
    rw [valO_get hf hp] at hv
    cases hv
    exact okO_get hr h hf hp
theorem okO_yes {s : List UInt8} {l : List Fd} (hlen : (s.length : Int) = layN l) (h : ∀ (i : Nat) f p, l[i]? = some f → (layP 0 l)[i]? = some p → decB (cutF s f p) f.k f.g = true) : okO s l = true := by
  unfold okO
  rw [Bool.and_eq_true, List.all_eq_true]
  refine ⟨decide_eq_true hlen, fun x hx => ?_⟩
  obtain ⟨i, hi⟩ := List.getElem?_of_mem hx
  obtain ⟨h1, h2⟩ := zip_at hi
  exact h i x.1 x.2 h1 h2
theorem okO_no {s : List UInt8} {l : List Fd} {i : Nat} {f : Fd} {p : Int} (hf : l[i]? = some f) (hp : (layP 0 l)[i]? = some p) (h : decB (cutF s f p) f.k f.g = false) : okO s l = false := by
  cases ho : okO s l with
  | false => rfl
  | true => rw [okO_at ho hf hp] at h; cases h
theorem okO_short {s : List UInt8} {l : List Fd} (h : (s.length : Int) ≠ layN l) : okO s l = false := by
  unfold okO; rw [decide_eq_false h]; rfl
theorem objA_ok {l : List Fd} {vs : List Va} (hr : rightL l = true) (h : okV l vs) : okO (objA l vs) l = true := by
  refine okO_yes (objA_len hr h) fun i f p hf hp => ?_
  obtain ⟨v, hv, _, _⟩ := h.at hf
  have h1 := objA_get hr h hf hv
  rw [getR_some ⟨hr, objA_len hr h⟩ ((rightL_iff.1 hr).2 i f hf).2.2 hf hp] at h1
  cases hd : decB (cutF (objA l vs) f p) f.k f.g with
  | true => rfl
  | false =>
    have h2 := decR_no hd
    unfold cutF at h2
    rw [h2] at h1
    simp at h1
end Go.Proofs.YtaegencmnmjgbaaGreat
