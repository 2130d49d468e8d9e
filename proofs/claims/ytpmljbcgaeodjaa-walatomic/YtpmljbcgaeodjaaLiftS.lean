/-
  From what a law's arguments hold to what its walk is told: slices of sets, slices of these, slices of numbers.
-/
import Derived.Test.YtpmljbcgaeodjaaLift
import Derived.Test.YtpmljbcgaeodjaaWalI
import Derived.Deep.Slices
import Derived.Deep.Fields
import Derived.ChangeSame
namespace Go.Proofs.Ytpmljbcgaeodjaa
open Go.ChangeShapes Go.WideShapes Go.ChangeAt Go.RowKit Go.Deep
set_option linter.unusedVariables false

section
variable {H : Type} {enc : TypeId × Value → H} {W : World} {fuel : Nat} {x : DataW H × List MemPlace}

theorem rdI_of_cells {a : Addr} {len cap : Nat} {zs : List Int} (hl : len ≤ cap) (hm : cap ≤ maxLen) (hz : zs.length = cap)
    (hcell : ∀ i, i < zs.length → W.cell? (a.add i) = some (.int .i64 (zs.getD i 0))) (hwz : ∀ n ∈ zs, (Lit.int .i64 n).wf = true) :
    RdI W W.heap.size (some a) len cap (zs.take len) := by
  refine ⟨by simp; omega, hl, hm, fun y hy => hwz y (List.mem_of_mem_take hy), fun hn => ?_⟩
  obtain ⟨b, off, spot⟩ := a
  have h0 := hcell 0 (by omega)
  have hspot : spot = none := by simpa [Addr.add] using World.cell?_spot h0
  subst hspot
  refine ⟨b, off, rfl, ?_, fun i hi => ?_⟩
  · rw [add_plain] at h0
    by_cases hb : b < W.heap.size
    · exact hb
    · simp [World.cell?, Array.getElem?_eq_none (show W.heap.size ≤ b by omega)] at h0
  · simp at hi
    have h1 := hcell i (by omega)
    rw [add_plain] at h1
    rw [h1]
    simp [List.getD_eq_getElem?_getD, show i < zs.length by omega]

theorem rdI_of_trod {v : Value} (h : DataW.trod enc Try.prog W 0 (fun _ => true) true fuel 23 [v] = some x) : ∃ a len cap l, v = .slice a len cap ∧ RdI W W.heap.size a len cap l := by
  rcases open_ints Try.underlying23 Try.underlying3 (by kernel_rfl) h with ⟨hcs, _⟩ | ⟨a, l, c, zs, hcs, _, hl, hm, hz, _, hcell, hwz⟩
  · simp at hcs
    exact ⟨none, 0, 0, [], hcs, RdI.nil _ _⟩
  · simp at hcs
    exact ⟨some a, l, c, _, hcs, rdI_of_cells hl hm (by simpa using hz) hcell hwz⟩

theorem s_one : Try.prog.cellsOf 3 = 1 := by kernel_rfl
theorem s_one64 : Try.prog.cellsOf 40 = 1 := by kernel_rfl
theorem s_two : Try.prog.cellsOf 42 = 2 := by kernel_rfl

set_option maxRecDepth 20000 in
theorem set_of_trod {cs : List Value} (h : DataW.trod enc Try.prog W 0 (fun _ => true) true fuel 42 cs = some x) :
    ∃ s : Int × Int, (I64 s.1 ∧ U64 s.2) ∧ cs = [.int .i64 s.1, .int .u64 s.2] := by
  obtain ⟨xs, n, _, _, hlen, hxl, hf⟩ := DataW.trod_struct Try.underlying42 h
  rw [s_two] at hlen
  match cs, hlen with
  | [c0, c1], _ =>
    match xs, hxl with
    | [y0, y1], _ =>
      have g0 : DataW.trod enc Try.prog W 0 (fun _ => true) true n 3 (List.take (Try.prog.cellsOf 3) (List.drop 0 [c0, c1])) = some y0 := hf 0 _ rfl
      rw [s_one] at g0
      change DataW.trod enc Try.prog W 0 (fun _ => true) true n 3 [c0] = some y0 at g0
      have g1 : DataW.trod enc Try.prog W 0 (fun _ => true) true n 40 (List.take (Try.prog.cellsOf 40) (List.drop 1 [c0, c1])) = some y1 := hf 1 _ rfl
      rw [s_one64] at g1
      change DataW.trod enc Try.prog W 0 (fun _ => true) true n 40 [c1] = some y1 at g1
      obtain ⟨a0, q0, _, w0⟩ := DataW.trod_int Try.underlying3 g0
      obtain ⟨a1, q1, _, w1⟩ := DataW.trod_int Try.underlying40 g1
      simp at q0 q1
      subst q0; subst q1
      exact ⟨(a0, a1), ⟨w0, U64.of_wf w1⟩, rfl⟩

set_option maxRecDepth 20000 in
theorem rdS_of_trod {v : Value} (h : DataW.trod enc Try.prog W 0 (fun _ => true) true fuel 22 [v] = some x) : ∃ a len cap l, v = .slice a len cap ∧ RdS W W.heap.size a len cap l := by
  rcases open_slice Try.underlying22 h with ⟨hcs, _⟩ | ⟨a, len, cap, m, n, D, Pl, hcs, _, hl, hm, hmm, _, hi⟩
  · simp at hcs
    exact ⟨none, 0, 0, [], hcs, rfl, by omega, by simp [maxLen], by simp, fun h => by omega⟩
  · simp at hcs
    have hmc : m = cap := by simpa using hmm
    rw [s_two] at hi
    have hch : ∀ i, i < len → ∃ o : Int × Int, (I64 o.1 ∧ U64 o.2) ∧ ∃ cs', W.cells? 0 (a.add (i * 2)) 2 = some cs' ∧ cs' = [.int .i64 o.1, .int .u64 o.2] := by
      intro i hil
      obtain ⟨cs', hc, ht⟩ := hi i (by omega)
      obtain ⟨o, ho, e⟩ := set_of_trod ht
      exact ⟨o, ho, cs', hc, e⟩
    have hex : ∃ f : Nat → Int × Int, ∀ i, i < len → (I64 (f i).1 ∧ U64 (f i).2) ∧ ∃ cs', W.cells? 0 (a.add (i * 2)) 2 = some cs' ∧ cs' = [.int .i64 (f i).1, .int .u64 (f i).2] := by
      refine ⟨fun i => if hi : i < len then (hch i hi).choose else (0, 0), fun i hi => ?_⟩
      simp only [hi, dif_pos]
      exact (hch i hi).choose_spec
    obtain ⟨f, hf⟩ := hex
    refine ⟨some a, len, cap, (List.range len).map f, hcs, by simp, hl, hm, ?_, fun hn => ?_⟩
    · intro o ho
      obtain ⟨i, hi, rfl⟩ := List.mem_map.1 ho
      exact (hf i (List.mem_range.1 hi)).1
    · obtain ⟨b, off, spot⟩ := a
      have hcell : ∀ i, i < len → ∀ j, j < 2 → W.cell? ((Addr.mk b off spot).add (i * 2 + j)) = [Value.int .i64 (f i).1, .int .u64 (f i).2][j]? := by
        intro i hi j hj
        obtain ⟨_, cs', hc, e⟩ := hf i hi
        obtain ⟨_, _, hat⟩ := World.cells?_some hc
        have := hat j hj
        rw [Go.Deep.add_add, e] at this
        exact this
      have h0 := hcell 0 hn 0 (by omega)
      have hspot : spot = none := by
        have := World.cell?_spot (v := .int .i64 (f 0).1) (by simpa using h0)
        simpa [Addr.add] using this
      subst hspot
      refine ⟨b, off, rfl, ?_, fun i hi => ?_⟩
      · simp only [add_plain] at h0
        by_cases hb : b < W.heap.size
        · exact hb
        · simp [World.cell?, Array.getElem?_eq_none (show W.heap.size ≤ b by omega)] at h0
      · simp at hi
        have c := fun j hj => hcell i hi j hj
        simp only [add_plain] at c
        have c0 := c 0 (by omega); have c1 := c 1 (by omega)
        simp only [List.getElem_map, List.getElem_range]
        refine ⟨by simpa using c0, ?_⟩
        rw [Nat.add_assoc]; simpa using c1

/-- .. and how long it is in the reading. -/
theorem len_of_trod {v : Value} (h : DataW.trod enc Try.prog W 0 (fun _ => true) true fuel 22 [v] = some x) : (∃ elems spare a len cap, x.1 = .slice elems spare ∧ v = .slice a len cap ∧ elems.length + spare.length = cap ∧ len ≤ cap) ∨ v = .slice none 0 0 := by
  rcases open_slice Try.underlying22 h with ⟨hcs, _⟩ | ⟨a, len, cap, m, n, D, Pl, hcs, _, hl, hm, hmm, hx, hi⟩
  · simp at hcs; exact .inr hcs
  · simp at hcs
    have hmc : m = cap := by simpa using hmm
    left
    refine ⟨_, _, some a, len, cap, by rw [hx], hcs, ?_, hl⟩
    simp; omega

/-- A slice of slices of sets. -/
structure SlS where
  a : Option Addr
  n : Nat
  c : Nat
  l : List (Int × Int)
def RdSS (w : World) (B : Nat) (A : Option Addr) (n cap : Nat) (l : List SlS) : Prop :=
  l.length = n ∧ n ≤ cap ∧ cap ≤ maxLen ∧ (∀ s ∈ l, RdS w B s.a s.n s.c s.l) ∧
    (0 < n → ∃ b off, A = some ⟨b, off, none⟩ ∧ b < B ∧ ∀ i (h : i < l.length), w.cell? ⟨b, off + i, none⟩ = some (.slice l[i].a l[i].n l[i].c))
theorem s_oneS : Try.prog.cellsOf 22 = 1 := by kernel_rfl
set_option maxRecDepth 20000 in
theorem rdSS_of_trod {v : Value} (h : DataW.trod enc Try.prog W 0 (fun _ => true) true fuel 48 [v] = some x) : ∃ a len cap l, v = .slice a len cap ∧ RdSS W W.heap.size a len cap l := by
  rcases open_slice Try.underlying48 h with ⟨hcs, _⟩ | ⟨a, len, cap, m, n, D, Pl, hcs, _, hl, hm, hmm, _, hi⟩
  · simp at hcs
    exact ⟨none, 0, 0, [], hcs, rfl, by omega, by simp [maxLen], by simp, fun h => by omega⟩
  · simp at hcs
    have hmc : m = cap := by simpa using hmm
    rw [s_oneS] at hi
    have hch : ∀ i, i < len → ∃ o : SlS, RdS W W.heap.size o.a o.n o.c o.l ∧ W.cell? (a.add i) = some (.slice o.a o.n o.c) := by
      intro i hil
      obtain ⟨cs', hc, ht⟩ := hi i (by omega)
      obtain ⟨hlen, _, hat⟩ := World.cells?_some hc
      match cs', hlen with
      | [c0], _ =>
        obtain ⟨a', n', k', l', e, hr⟩ := rdS_of_trod ht
        have := hat 0 (by omega)
        rw [Go.Deep.add_add, Nat.mul_one, Nat.add_zero] at this
        exact ⟨⟨a', n', k', l'⟩, hr, by rw [this, e]; rfl⟩
    have hex : ∃ f : Nat → SlS, ∀ i, i < len → RdS W W.heap.size (f i).a (f i).n (f i).c (f i).l ∧ W.cell? (a.add i) = some (.slice (f i).a (f i).n (f i).c) := by
      refine ⟨fun i => if hi : i < len then (hch i hi).choose else ⟨none, 0, 0, []⟩, fun i hi => ?_⟩
      simp only [hi, dif_pos]
      exact (hch i hi).choose_spec
    obtain ⟨f, hf⟩ := hex
    refine ⟨some a, len, cap, (List.range len).map f, hcs, by simp, hl, hm, ?_, fun hn => ?_⟩
    · intro o ho
      obtain ⟨i, hi, rfl⟩ := List.mem_map.1 ho
      exact (hf i (List.mem_range.1 hi)).1
    · obtain ⟨b, off, spot⟩ := a
      have h0 := (hf 0 hn).2
      have hspot : spot = none := by
        have := World.cell?_spot h0
        simpa [Addr.add] using this
      subst hspot
      refine ⟨b, off, rfl, ?_, fun i hi => ?_⟩
      · simp only [add_plain] at h0
        by_cases hb : b < W.heap.size
        · exact hb
        · simp [World.cell?, Array.getElem?_eq_none (show W.heap.size ≤ b by omega)] at h0
      · simp at hi
        have c := (hf i hi).2
        simp only [add_plain] at c
        simp only [List.getElem_map, List.getElem_range]
        exact c
end
end Go.Proofs.Ytpmljbcgaeodjaa
