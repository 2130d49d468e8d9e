/-
  From what a law's arguments hold to what its walk is told: slices of calls, a call by value, slices of numbers.
-/
import Derived.Test.YtfekholamkidkaaLift
import Derived.Test.YtfekholamkidkaaPmO
import Derived.Deep.Slices
import Derived.Deep.Fields
import Derived.ChangeSame
namespace Go.Proofs.Ytfekholamkidkaa
open Go.ChangeShapes Go.WideShapes Go.ChangeAt Go.RowKit Go.Deep
set_option linter.unusedVariables false

section
variable {H : Type} {enc : TypeId × Value → H} {W : World} {fuel : Nat} {x : DataW H × List MemPlace}

theorem rd_of_trod {v : Value} (h : DataW.trod enc Try.prog W 0 (fun _ => true) true fuel 28 [v] = some x) : ∃ a len cap l, v = .slice a len cap ∧ Rd W W.heap.size a len cap l := by
  rcases open_ints Try.underlying28 Try.underlying5 (by kernel_rfl) h with ⟨hcs, _⟩ | ⟨a, l, c, zs, hcs, _, hl, hm, hz, _, hcell, hwz⟩
  · simp at hcs
    exact ⟨none, 0, 0, [], hcs, Rd.nil _ _⟩
  · simp at hcs
    obtain ⟨l', hl'⟩ := rd_of_cells hl hm (by simpa using hz) hcell hwz
    exact ⟨some a, l, c, l', hcs, hl'⟩

theorem rdI_of_cells {a : Addr} {len cap : Nat} {zs : List Int} (hl : len ≤ cap) (hm : cap ≤ maxLen) (hz : zs.length = cap)
    (hcell : ∀ i, i < zs.length → W.cell? (a.add i) = some (.int .i64 (zs.getD i 0))) (hwz : ∀ n ∈ zs, (Lit.int .i64 n).wf = true) :
    RdI W W.heap.size (some a) len cap (zs.take len) := by
  refine ⟨by simp; omega, hl, hm, fun y hy => hwz y (List.mem_of_mem_take hy), fun hn => ?_⟩
  obtain ⟨b, off, spot⟩ := a
  have h0 := hcell 0 (by omega)
  have hspot : spot = none := by simpa [Addr.add] using World.cell?_spot h0
  subst hspot
  refine ⟨b, off, rfl, ?_, fun i hi => ?_⟩
  · rw [add_plain] at h0
    by_cases hb : b < W.heap.size
    · exact hb
    · simp [World.cell?, Array.getElem?_eq_none (show W.heap.size ≤ b by omega)] at h0
  · simp at hi
    have h1 := hcell i (by omega)
    rw [add_plain] at h1
    rw [h1]
    simp [List.getD_eq_getElem?_getD, show i < zs.length by omega]

theorem rdI_of_trod {v : Value} (h : DataW.trod enc Try.prog W 0 (fun _ => true) true fuel 30 [v] = some x) : ∃ a len cap l, v = .slice a len cap ∧ RdI W W.heap.size a len cap l := by
  rcases open_ints Try.underlying30 Try.underlying3 (by kernel_rfl) h with ⟨hcs, _⟩ | ⟨a, l, c, zs, hcs, _, hl, hm, hz, _, hcell, hwz⟩
  · simp at hcs
    exact ⟨none, 0, 0, [], hcs, RdI.nil _ _⟩
  · simp at hcs
    exact ⟨some a, l, c, _, hcs, rdI_of_cells hl hm (by simpa using hz) hcell hwz⟩

theorem one3 : Try.prog.cellsOf 3 = 1 := by kernel_rfl
theorem one28 : Try.prog.cellsOf 28 = 1 := by kernel_rfl
theorem one30 : Try.prog.cellsOf 30 = 1 := by kernel_rfl
theorem five : Try.prog.cellsOf 35 = 5 := by kernel_rfl

theorem op_of_trod {cs : List Value} (h : DataW.trod enc Try.prog W 0 (fun _ => true) true fuel 35 cs = some x) :
    ∃ o : OpV, o.ok W W.heap.size ∧ cs = [.int .i64 o.kind, .int .i64 o.at_, .int .i64 o.long, .slice o.ab o.nb o.cb, .slice o.ak o.nk o.ck] := by
  obtain ⟨xs, n, _, _, hlen, hxl, hf⟩ := DataW.trod_struct Try.underlying35 h
  rw [five] at hlen
  match cs, hlen with
  | [c0, c1, c2, c3, c4], _ =>
    match xs, hxl with
    | [y0, y1, y2, y3, y4], _ =>
      have g0 : DataW.trod enc Try.prog W 0 (fun _ => true) true n 3 (List.take (Try.prog.cellsOf 3) (List.drop 0 [c0, c1, c2, c3, c4])) = some y0 := hf 0 _ rfl
      rw [one3] at g0
      change DataW.trod enc Try.prog W 0 (fun _ => true) true n 3 [c0] = some y0 at g0
      have g1 : DataW.trod enc Try.prog W 0 (fun _ => true) true n 3 (List.take (Try.prog.cellsOf 3) (List.drop 1 [c0, c1, c2, c3, c4])) = some y1 := hf 1 _ rfl
      rw [one3] at g1
      change DataW.trod enc Try.prog W 0 (fun _ => true) true n 3 [c1] = some y1 at g1
      have g2 : DataW.trod enc Try.prog W 0 (fun _ => true) true n 3 (List.take (Try.prog.cellsOf 3) (List.drop 2 [c0, c1, c2, c3, c4])) = some y2 := hf 2 _ rfl
      rw [one3] at g2
      change DataW.trod enc Try.prog W 0 (fun _ => true) true n 3 [c2] = some y2 at g2
      have g3 : DataW.trod enc Try.prog W 0 (fun _ => true) true n 28 (List.take (Try.prog.cellsOf 28) (List.drop 3 [c0, c1, c2, c3, c4])) = some y3 := hf 3 _ rfl
      rw [one28] at g3
      change DataW.trod enc Try.prog W 0 (fun _ => true) true n 28 [c3] = some y3 at g3
      have g4 : DataW.trod enc Try.prog W 0 (fun _ => true) true n 30 (List.take (Try.prog.cellsOf 30) (List.drop 4 [c0, c1, c2, c3, c4])) = some y4 := hf 4 _ rfl
      rw [one30] at g4
      change DataW.trod enc Try.prog W 0 (fun _ => true) true n 30 [c4] = some y4 at g4
      obtain ⟨a0, q0, _, w0⟩ := DataW.trod_int Try.underlying3 g0
      obtain ⟨a1, q1, _, w1⟩ := DataW.trod_int Try.underlying3 g1
      obtain ⟨a2, q2, _, w2⟩ := DataW.trod_int Try.underlying3 g2
      obtain ⟨a3, n3, k3, l3, q3, w3⟩ := rd_of_trod g3
      obtain ⟨a4, n4, k4, l4, q4, w4⟩ := rdI_of_trod g4
      simp at q0 q1 q2
      subst q0; subst q1; subst q2; subst q3; subst q4
      exact ⟨⟨a0, a1, a2, a3, n3, k3, l3, a4, n4, k4, l4⟩, ⟨w0, w1, w2, w3, w4⟩, rfl⟩

theorem rdO_of_trod {v : Value} (h : DataW.trod enc Try.prog W 0 (fun _ => true) true fuel 33 [v] = some x) : ∃ a len cap l, v = .slice a len cap ∧ RdO W W.heap.size a len cap l := by
  rcases open_slice Try.underlying33 h with ⟨hcs, _⟩ | ⟨a, len, cap, m, n, D, Pl, hcs, _, hl, hm, hmm, _, hi⟩
  · simp at hcs
    exact ⟨none, 0, 0, [], hcs, rfl, by omega, by simp [maxLen], by simp, fun h => by omega⟩
  · simp at hcs
    have hmc : m = cap := by simpa using hmm
    rw [five] at hi
    have hch : ∀ i, i < len → ∃ o : OpV, o.ok W W.heap.size ∧ ∃ cs', W.cells? 0 (a.add (i * 5)) 5 = some cs' ∧ cs' = [.int .i64 o.kind, .int .i64 o.at_, .int .i64 o.long, .slice o.ab o.nb o.cb, .slice o.ak o.nk o.ck] := by
      intro i hil
      obtain ⟨cs', hc, ht⟩ := hi i (by omega)
      obtain ⟨o, ho, e⟩ := op_of_trod ht
      exact ⟨o, ho, cs', hc, e⟩
    have hex : ∃ f : Nat → OpV, ∀ i, i < len → (f i).ok W W.heap.size ∧ ∃ cs', W.cells? 0 (a.add (i * 5)) 5 = some cs' ∧ cs' = [.int .i64 (f i).kind, .int .i64 (f i).at_, .int .i64 (f i).long, .slice (f i).ab (f i).nb (f i).cb, .slice (f i).ak (f i).nk (f i).ck] := by
      refine ⟨fun i => if hi : i < len then (hch i hi).choose else ⟨0, 0, 0, none, 0, 0, [], none, 0, 0, []⟩, fun i hi => ?_⟩
      simp only [hi, dif_pos]
      exact (hch i hi).choose_spec
    obtain ⟨f, hf⟩ := hex
    refine ⟨some a, len, cap, (List.range len).map f, hcs, by simp, hl, hm, ?_, fun hn => ?_⟩
    · intro o ho
      obtain ⟨i, hi, rfl⟩ := List.mem_map.1 ho
      exact (hf i (List.mem_range.1 hi)).1
    · obtain ⟨b, off, spot⟩ := a
      have hcell : ∀ i, i < len → ∀ j, j < 5 → W.cell? ((Addr.mk b off spot).add (i * 5 + j)) = [Value.int .i64 (f i).kind, .int .i64 (f i).at_, .int .i64 (f i).long, .slice (f i).ab (f i).nb (f i).cb, .slice (f i).ak (f i).nk (f i).ck][j]? := by
        intro i hi j hj
        obtain ⟨_, cs', hc, e⟩ := hf i hi
        obtain ⟨_, _, hat⟩ := World.cells?_some hc
        have := hat j hj
        rw [Go.Deep.add_add, e] at this
        exact this
      have h0 := hcell 0 hn 0 (by omega)
      have hspot : spot = none := by
        have := World.cell?_spot (v := .int .i64 (f 0).kind) (by simpa using h0)
        simpa [Addr.add] using this
      subst hspot
      refine ⟨b, off, rfl, ?_, fun i hi => ?_⟩
      · simp only [add_plain] at h0
        by_cases hb : b < W.heap.size
        · exact hb
        · simp [World.cell?, Array.getElem?_eq_none (show W.heap.size ≤ b by omega)] at h0
      · simp at hi
        have c := fun j hj => hcell i hi j hj
        simp only [add_plain] at c
        have c0 := c 0 (by omega); have c1 := c 1 (by omega); have c2 := c 2 (by omega); have c3 := c 3 (by omega); have c4 := c 4 (by omega)
        simp only [List.getElem_map, List.getElem_range, OpC]
        refine ⟨by simpa using c0, ?_, ?_, ?_, ?_⟩
        · rw [Nat.add_assoc]; simpa using c1
        · rw [Nat.add_assoc]; simpa using c2
        · rw [Nat.add_assoc]; simpa using c3
        · rw [Nat.add_assoc]; simpa using c4
end
end Go.Proofs.Ytfekholamkidkaa
