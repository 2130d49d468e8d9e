/-
  From what a law's arguments hold to what its walk is told: the calls of a script.
  Types as bytes (layer 9): no two have the same: mathematics.
  The bytes of versions: numberBytes, pieceBytes, versionBytes.
  The program's Check, value and Apply of layer 7, of objects whose values are right.
-/
import Derived.Test.YtaegencmnmjgbaaGreatM6
import Derived.Test.YtaegencmnmjgbaaGreatM5
import Derived.Test.YtaegencmnmjgbaaGreatM60
import Derived.Test.YtaegencmnmjgbaaGreatM48
import Derived.Test.YtaegencmnmjgbaaGreatM19
import Derived.Test.YtaegencmnmjgbaaGreatM57
import Derived.Test.YtaegencmnmjgbaaGreatM26
import Derived.Test.YtaegencmnmjgbaaGreatM47
import Derived.Test.YtaegencmnmjgbaaGreatM36
import Derived.Test.YtaegencmnmjgbaaGreatM23
import Derived.Test.YtaegencmnmjgbaaGreatM25
import Derived.Test.YtaegencmnmjgbaaGreatM34
import Derived.Test.YtaegencmnmjgbaaGreatM37

namespace Go.Proofs.YtaegencmnmjgbaaGreat
open Go.ChangeShapes Go.WideShapes Go.ChangeAt Go.RowKit Go.Deep
set_option linter.unusedVariables false
def ChA (w : World) (c : Ch) (A : Option Addr) (n cp : Nat) : Prop := (I64 c.op ∧ I64 c.to.k ∧ I64 c.to.g ∧ I64 c.dk ∧ U64 c.dn) ∧ shC c ∧ RdI w w.heap.size A n cp c.od
section
variable {H : Type} {enc : TypeId × Value → H} {W : World} {fuel : Nat} {x : DataW H × List MemPlace}
theorem f_one9 : Tryz.prog.cellsOf 73 = 9 := by kernel_rfl
theorem f_onel : Tryz.prog.cellsOf 52 = 1 := by kernel_rfl
theorem weights_in {e : TypeId} : ∀ (l : List (DataW H)) (d : DataW H) (k : Nat), d ∈ l → k ∈ d.weights Tryz.prog e → k ∈ DataW.weightsAll Tryz.prog e l := by
  intro l
  induction l with
  | nil => intro d k hd; cases hd
  | cons y l ih =>
    intro d k hd hk
    simp only [DataW.weightsAll, List.mem_append]
    rcases List.mem_cons.1 hd with rfl | hd
    · exact .inl hk
    · exact .inr (ih d k hd hk)
theorem rdIC_of_cells {a : Addr} {len cap : Nat} {zs : List Int} (hl : len ≤ cap) (hm : cap ≤ maxLen) (hz : zs.length = cap)
    (hcell : ∀ i, i < zs.length → W.cell? (a.add i) = some (.int .i64 (zs.getD i 0))) (hwz : ∀ n ∈ zs, (Lit.int .i64 n).wf = true) :
    RdI W W.heap.size (some a) len cap (zs.take len) := by
  refine ⟨by simp; omega, hl, hm, fun y hy => hwz y (List.mem_of_mem_take hy), fun hn => ?_⟩
  obtain ⟨b, off, spot⟩ := a
  have h0 := hcell 0 (by omega)
  have hspot : spot = none := by simpa [Addr.add] using World.cell?_spot h0
  subst hspot
  refine ⟨b, off, rfl, ?_, fun i hi => ?_⟩
  · rw [add_plain] at h0
    by_cases hb : b < W.heap.size
    · exact hb
    · simp [World.cell?, Array.getElem?_eq_none (show W.heap.size ≤ b by omega)] at h0
  · simp at hi
    have h1 := hcell i (by omega)
    rw [add_plain] at h1
    rw [h1]
    simp [List.getD_eq_getElem?_getD, show i < zs.length by omega]
theorem rdIC_of_trod {v : Value} (h : DataW.trod enc Tryz.prog W 0 (fun _ => true) true fuel 52 [v] = some x) (hz : ∀ n ∈ x.1.weights Tryz.prog 52, n ≤ reachBytes) : ∃ a len cap l, v = .slice a len cap ∧ RdI W W.heap.size a len cap l ∧ l.length ≤ nmMax := by
  rcases open_ints Tryz.underlying52 Tryz.underlying3 (by kernel_rfl) h with ⟨hcs, _⟩ | ⟨a, l, c, zs, hcs, _, hl, hm, hzl, hx, hcell, hwz⟩
  · simp at hcs
    exact ⟨none, 0, 0, [], hcs, RdI.nil _ _, by simp⟩
  · simp at hcs
    have hzc : zs.length = c := by simpa using hzl
    refine ⟨some a, l, c, _, hcs, rdIC_of_cells hl hm hzc hcell hwz, ?_⟩
    rw [hx] at hz
    have hb : Tryz.prog.bytesOf 3 = 8 := by kernel_rfl
    have := hz (((lits .i64 (zs.take l) : List (DataW H)).length + (lits .i64 (zs.drop l) : List (DataW H)).length) * Tryz.prog.bytesOf 3) (by simp [DataW.weights, Tryz.underlying52])
    rw [hb] at this
    simp only [lits, List.length_map, List.length_take, List.length_drop] at this
    rw [List.length_take]
    unfold reachBytes at this
    unfold nmMax
    omega
theorem rdI_of_trodC {v : Value} (h : DataW.trod enc Tryz.prog W 0 (fun _ => true) true fuel 52 [v] = some x) : ∃ a len cap l, v = .slice a len cap ∧ RdI W W.heap.size a len cap l := by
  rcases open_ints Tryz.underlying52 Tryz.underlying3 (by kernel_rfl) h with ⟨hcs, _⟩ | ⟨a, l, c, zs, hcs, _, hl, hm, hzl, hx, hcell, hwz⟩
  · simp at hcs
    exact ⟨none, 0, 0, [], hcs, RdI.nil _ _⟩
  · simp at hcs
    exact ⟨some a, l, c, _, hcs, rdIC_of_cells hl hm (by simpa using hzl) hcell hwz⟩
set_option maxRecDepth 20000 in
theorem vl2_of_trod {cs : List Value} (h : DataW.trod enc Tryz.prog W 0 (fun _ => true) true fuel 71 cs = some x) :
    ∃ (k n : Int) (t : ByteArray), (I64 k ∧ U64 n) ∧ cs = [.int .i64 k, .int .u64 n, .string t] ∧ t.size ∈ x.1.weights Tryz.prog 71 := by
  obtain ⟨xs, n, _, hx, hlen, hxl, hf⟩ := DataW.trod_struct Tryz.underlying71 h
  rw [f_vl] at hlen
  match cs, hlen with
  | [c0, c1, c2], _ =>
    match xs, hxl with
    | [y0, y1, y2], _ =>
      have g0 : DataW.trod enc Tryz.prog W 0 (fun _ => true) true n 3 (List.take (Tryz.prog.cellsOf 3) (List.drop 0 [c0, c1, c2])) = some y0 := hf 0 _ rfl
      rw [f_one] at g0
      change DataW.trod enc Tryz.prog W 0 (fun _ => true) true n 3 [c0] = some y0 at g0
      have g1 : DataW.trod enc Tryz.prog W 0 (fun _ => true) true n 69 (List.take (Tryz.prog.cellsOf 69) (List.drop 1 [c0, c1, c2])) = some y1 := hf 1 _ rfl
      rw [f_oneu] at g1
      change DataW.trod enc Tryz.prog W 0 (fun _ => true) true n 69 [c1] = some y1 at g1
      have g2 : DataW.trod enc Tryz.prog W 0 (fun _ => true) true n 9 (List.take (Tryz.prog.cellsOf 9) (List.drop 2 [c0, c1, c2])) = some y2 := hf 2 _ rfl
      rw [f_ones] at g2
      change DataW.trod enc Tryz.prog W 0 (fun _ => true) true n 9 [c2] = some y2 at g2
      obtain ⟨a0, q0, _, w0⟩ := DataW.trod_int Tryz.underlying3 g0
      obtain ⟨a1, q1, _, w1⟩ := DataW.trod_int Tryz.underlying69 g1
      obtain ⟨a2, q2, e2, w2⟩ := DataW.trod_string Tryz.underlying9 g2
      simp at q0 q1 q2
      subst q0; subst q1; subst q2
      refine ⟨a0, a1, a2, ⟨w0, U64.of_wf w1⟩, rfl, ?_⟩
      rw [hx, e2]
      simp [DataW.weights, Tryz.underlying71, DataW.weightsEach]
set_option maxRecDepth 40000 in
theorem ch_of_trod {cs : List Value} (h : DataW.trod enc Tryz.prog W 0 (fun _ => true) true fuel 73 cs = some x) (hz : ∀ n ∈ x.1.weights Tryz.prog 73, n ≤ reachBytes) :
    ∃ (c : Ch) (A : Option Addr) (n cp : Nat), ChA W c A n cp ∧ cs = [.int .i64 c.op, .string (bs c.nm), .string (bs c.to.nm), .int .i64 c.to.k, .int .i64 c.to.g, .int .i64 c.dk, .int .u64 c.dn, .string c.dt, .slice A n cp] := by
  obtain ⟨xs, n, _, hx, hlen, hxl, hf⟩ := DataW.trod_struct Tryz.underlying73 h
  rw [f_one9] at hlen
  match cs, hlen with
  | [c0, c1, c2, c3, c4, c5, c6, c7, c8], _ =>
    match xs, hxl with
    | [y0, y1, y2, y3, y4], _ =>
      have g0 : DataW.trod enc Tryz.prog W 0 (fun _ => true) true n 3 (List.take (Tryz.prog.cellsOf 3) (List.drop 0 [c0, c1, c2, c3, c4, c5, c6, c7, c8])) = some y0 := hf 0 _ rfl
      rw [f_one] at g0
      change DataW.trod enc Tryz.prog W 0 (fun _ => true) true n 3 [c0] = some y0 at g0
      have g1 : DataW.trod enc Tryz.prog W 0 (fun _ => true) true n 9 (List.take (Tryz.prog.cellsOf 9) (List.drop 1 [c0, c1, c2, c3, c4, c5, c6, c7, c8])) = some y1 := hf 1 _ rfl
      rw [f_ones] at g1
      change DataW.trod enc Tryz.prog W 0 (fun _ => true) true n 9 [c1] = some y1 at g1
      have g2 : DataW.trod enc Tryz.prog W 0 (fun _ => true) true n 68 (List.take (Tryz.prog.cellsOf 68) (List.drop 2 [c0, c1, c2, c3, c4, c5, c6, c7, c8])) = some y2 := hf 2 _ rfl
      rw [f_fd] at g2
      change DataW.trod enc Tryz.prog W 0 (fun _ => true) true n 68 [c2, c3, c4] = some y2 at g2
      have g3 : DataW.trod enc Tryz.prog W 0 (fun _ => true) true n 71 (List.take (Tryz.prog.cellsOf 71) (List.drop 5 [c0, c1, c2, c3, c4, c5, c6, c7, c8])) = some y3 := hf 3 _ rfl
      rw [f_vl] at g3
      change DataW.trod enc Tryz.prog W 0 (fun _ => true) true n 71 [c5, c6, c7] = some y3 at g3
      have g4 : DataW.trod enc Tryz.prog W 0 (fun _ => true) true n 52 (List.take (Tryz.prog.cellsOf 52) (List.drop 8 [c0, c1, c2, c3, c4, c5, c6, c7, c8])) = some y4 := hf 4 _ rfl
      rw [f_onel] at g4
      change DataW.trod enc Tryz.prog W 0 (fun _ => true) true n 52 [c8] = some y4 at g4
      obtain ⟨a0, q0, _, w0⟩ := DataW.trod_int Tryz.underlying3 g0
      obtain ⟨a1, q1, e1, w1⟩ := DataW.trod_string Tryz.underlying9 g1
      obtain ⟨f, hfd, q2, m2⟩ := fd_of_trod g2
      obtain ⟨k, vn, t, hv, q3, m3⟩ := vl2_of_trod g3
      have hw : x.1.weights Tryz.prog 73 = y0.1.weights Tryz.prog 3 ++ (y1.1.weights Tryz.prog 9 ++ (y2.1.weights Tryz.prog 68 ++ (y3.1.weights Tryz.prog 71 ++ (y4.1.weights Tryz.prog 52 ++ [])))) := by
        rw [hx]; simp [DataW.weights, Tryz.underlying73, DataW.weightsEach]
      rw [hw] at hz
      have hz1 : ∀ m ∈ y1.1.weights Tryz.prog 9, m ≤ reachBytes := fun m hm => hz m (by simp [hm])
      have hz2 : ∀ m ∈ y2.1.weights Tryz.prog 68, m ≤ reachBytes := fun m hm => hz m (by simp [hm])
      have hz3 : ∀ m ∈ y3.1.weights Tryz.prog 71, m ≤ reachBytes := fun m hm => hz m (by simp [hm])
      have hz4 : ∀ m ∈ y4.1.weights Tryz.prog 52, m ≤ reachBytes := fun m hm => hz m (by simp [hm])
      obtain ⟨A, ln, cp, od, q4, hri, hol⟩ := rdIC_of_trod g4 hz4
      have hs1 : a1.data.toList.length ≤ nmMax := by
        have := hz1 a1.data.toList.length (by rw [e1]; simp [DataW.weights])
        unfold reachBytes at this; unfold nmMax; exact this
      have hs2 : f.nm.length ≤ nmMax := by have := hz2 _ m2; unfold reachBytes at this; unfold nmMax; exact this
      have hs3 : t.size ≤ nmMax := by have := hz3 _ m3; unfold reachBytes at this; unfold nmMax; exact this
      simp at q0 q1 q2 q3
      obtain ⟨rfl, rfl, rfl⟩ := q2
      obtain ⟨rfl, rfl, rfl⟩ := q3
      subst q0; subst q1; subst q4
      exact ⟨⟨a0, a1.data.toList, f, k, vn, t, od⟩, A, ln, cp, ⟨⟨w0, hfd.1, hfd.2, hv.1, hv.2⟩, ⟨hs1, hs2, hs3, hol⟩, hri⟩, by rw [bs_data]⟩
set_option maxRecDepth 40000 in
theorem rdC_of_trod {v : Value} (h : DataW.trod enc Tryz.prog W 0 (fun _ => true) true fuel 51 [v] = some x) (hz : ∀ n ∈ x.1.weights Tryz.prog 51, n ≤ reachBytes) : ∃ a len cap l, v = .slice a len cap ∧ RdC W W.heap.size a len cap l ∧ (∀ c ∈ l, shC c) ∧ l.length * 112 ≤ 140737488351232 := by
  rcases open_slice Tryz.underlying51 h with ⟨hcs, _⟩ | ⟨a, len, cap, m, n, D, Pl, hcs, _, hl, hm, hmm, hx, hi⟩
  · simp at hcs
    exact ⟨none, 0, 0, [], hcs, ⟨rfl, by omega, by unfold maxLen; omega, by simp, fun h => by omega⟩, by simp, by simp⟩
  · simp at hcs
    have hmc : m = cap := by simpa using hmm
    rw [f_one9] at hi
    have hbig : len * 112 ≤ 140737488351232 := by
      have hb : Tryz.prog.bytesOf 73 = 112 := by kernel_rfl
      have := hz ((((List.range len).map D).length + ((List.range (m - len)).map fun j => D (len + j)).length) * Tryz.prog.bytesOf 73) (by rw [hx]; simp [DataW.weights, Tryz.underlying51])
      rw [hb] at this
      simp only [List.length_map, List.length_range] at this
      unfold reachBytes at this
      omega
    have hch : ∀ i, i < len → ∃ o : Ch × (Option Addr × Nat × Nat), ChA W o.1 o.2.1 o.2.2.1 o.2.2.2 ∧ ∃ cs', W.cells? 0 (a.add (i * 9)) 9 = some cs' ∧ cs' = [.int .i64 o.1.op, .string (bs o.1.nm), .string (bs o.1.to.nm), .int .i64 o.1.to.k, .int .i64 o.1.to.g, .int .i64 o.1.dk, .int .u64 o.1.dn, .string o.1.dt, .slice o.2.1 o.2.2.1 o.2.2.2] := by
      intro i hil
      obtain ⟨cs', hc, ht⟩ := hi i (by omega)
      obtain ⟨c, A, n', cp', hca, e⟩ := ch_of_trod ht (fun k hk => hz k (by
        rw [hx]
        simp only [DataW.weights, Tryz.underlying51, List.mem_cons, List.mem_append]
        exact .inr (.inl (weights_in _ (D i) _ (List.mem_map.2 ⟨i, List.mem_range.2 hil, rfl⟩) hk))))
      exact ⟨(c, A, n', cp'), hca, cs', hc, e⟩
    have hex : ∃ f : Nat → Ch × (Option Addr × Nat × Nat), ∀ i, i < len → ChA W (f i).1 (f i).2.1 (f i).2.2.1 (f i).2.2.2 ∧ ∃ cs', W.cells? 0 (a.add (i * 9)) 9 = some cs' ∧ cs' = [.int .i64 (f i).1.op, .string (bs (f i).1.nm), .string (bs (f i).1.to.nm), .int .i64 (f i).1.to.k, .int .i64 (f i).1.to.g, .int .i64 (f i).1.dk, .int .u64 (f i).1.dn, .string (f i).1.dt, .slice (f i).2.1 (f i).2.2.1 (f i).2.2.2] := by
      refine ⟨fun i => if hi : i < len then (hch i hi).choose else (⟨0, [], ⟨[], 0, 0⟩, 0, 0, ⟨#[]⟩, []⟩, none, 0, 0), fun i hi => ?_⟩
      simp only [hi, dif_pos]
      exact (hch i hi).choose_spec
    obtain ⟨f, hf⟩ := hex
    refine ⟨some a, len, cap, (List.range len).map fun i => (f i).1, hcs, ⟨by simp, hl, hm, ?_, fun hn => ?_⟩, ?_, by simpa using hbig⟩
    · intro o ho
      obtain ⟨i, hi, rfl⟩ := List.mem_map.1 ho
      exact (hf i (List.mem_range.1 hi)).1.1
    · obtain ⟨b, off, spot⟩ := a
      have hcell : ∀ i, i < len → ∀ j, j < 9 → W.cell? ((Addr.mk b off spot).add (i * 9 + j)) = [Value.int .i64 (f i).1.op, .string (bs (f i).1.nm), .string (bs (f i).1.to.nm), .int .i64 (f i).1.to.k, .int .i64 (f i).1.to.g, .int .i64 (f i).1.dk, .int .u64 (f i).1.dn, .string (f i).1.dt, .slice (f i).2.1 (f i).2.2.1 (f i).2.2.2][j]? := by
        intro i hi j hj
        obtain ⟨_, cs', hc, e⟩ := hf i hi
        obtain ⟨_, _, hat⟩ := World.cells?_some hc
        have := hat j hj
        rw [Go.Deep.add_add, e] at this
        exact this
      have h0 := hcell 0 hn 0 (by omega)
      have hspot : spot = none := by
        have := World.cell?_spot (v := .int .i64 (f 0).1.op) (by simpa using h0)
        simpa [Addr.add] using this
      subst hspot
      refine ⟨b, off, rfl, ?_, fun i hi => ?_⟩
      · simp only [add_plain] at h0
        by_cases hb : b < W.heap.size
        · exact hb
        · simp [World.cell?, Array.getElem?_eq_none (show W.heap.size ≤ b by omega)] at h0
      · simp at hi
        have c := fun j hj => hcell i hi j hj
        simp only [add_plain] at c
        have c0 := c 0 (by omega); have c1 := c 1 (by omega); have c2 := c 2 (by omega); have c3 := c 3 (by omega); have c4 := c 4 (by omega); have c5 := c 5 (by omega); have c6 := c 6 (by omega); have c7 := c 7 (by omega); have c8 := c 8 (by omega)
        simp only [List.getElem_map, List.getElem_range]
        refine ⟨_, _, _, ⟨by simpa using c0, ?_, ?_, ?_, ?_, ?_, ?_, ?_, ?_⟩, (hf i hi).1.2.2⟩
        · rw [Nat.add_assoc]; simpa using c1
        · rw [Nat.add_assoc]; simpa using c2
        · rw [Nat.add_assoc]; simpa using c3
        · rw [Nat.add_assoc]; simpa using c4
        · rw [Nat.add_assoc]; simpa using c5
        · rw [Nat.add_assoc]; simpa using c6
        · rw [Nat.add_assoc]; simpa using c7
        · rw [Nat.add_assoc]; simpa using c8
    · intro o ho
      obtain ⟨i, hi, rfl⟩ := List.mem_map.1 ho
      exact (hf i (List.mem_range.1 hi)).1.2.1
theorem f_ops5 : Tryz.prog.cellsOf 54 = 5 := by kernel_rfl
theorem f_onef : Tryz.prog.cellsOf 32 = 1 := by kernel_rfl
theorem f_onec : Tryz.prog.cellsOf 51 = 1 := by kernel_rfl
set_option maxRecDepth 40000 in
theorem op9_of_trod {cs : List Value} (h : DataW.trod enc Tryz.prog W 0 (fun _ => true) true fuel 54 cs = some x) (hz : ∀ n ∈ x.1.weights Tryz.prog 54, n ≤ reachBytes) :
    ∃ p : OpP, opP W W.heap.size p ∧ cs = opCel p := by
  obtain ⟨xs, n, _, hx, hlen, hxl, hf⟩ := DataW.trod_struct Tryz.underlying54 h
  rw [f_ops5] at hlen
  match cs, hlen with
  | [c0, c1, c2, c3, c4], _ =>
    match xs, hxl with
    | [y0, y1, y2, y3, y4], _ =>
      have g0 : DataW.trod enc Tryz.prog W 0 (fun _ => true) true n 3 (List.take (Tryz.prog.cellsOf 3) (List.drop 0 [c0, c1, c2, c3, c4])) = some y0 := hf 0 _ rfl
      rw [f_one] at g0
      change DataW.trod enc Tryz.prog W 0 (fun _ => true) true n 3 [c0] = some y0 at g0
      have g1 : DataW.trod enc Tryz.prog W 0 (fun _ => true) true n 9 (List.take (Tryz.prog.cellsOf 9) (List.drop 1 [c0, c1, c2, c3, c4])) = some y1 := hf 1 _ rfl
      rw [f_ones] at g1
      change DataW.trod enc Tryz.prog W 0 (fun _ => true) true n 9 [c1] = some y1 at g1
      have g2 : DataW.trod enc Tryz.prog W 0 (fun _ => true) true n 32 (List.take (Tryz.prog.cellsOf 32) (List.drop 2 [c0, c1, c2, c3, c4])) = some y2 := hf 2 _ rfl
      rw [f_onef] at g2
      change DataW.trod enc Tryz.prog W 0 (fun _ => true) true n 32 [c2] = some y2 at g2
      have g3 : DataW.trod enc Tryz.prog W 0 (fun _ => true) true n 51 (List.take (Tryz.prog.cellsOf 51) (List.drop 3 [c0, c1, c2, c3, c4])) = some y3 := hf 3 _ rfl
      rw [f_onec] at g3
      change DataW.trod enc Tryz.prog W 0 (fun _ => true) true n 51 [c3] = some y3 at g3
      have g4 : DataW.trod enc Tryz.prog W 0 (fun _ => true) true n 52 (List.take (Tryz.prog.cellsOf 52) (List.drop 4 [c0, c1, c2, c3, c4])) = some y4 := hf 4 _ rfl
      rw [f_onel] at g4
      change DataW.trod enc Tryz.prog W 0 (fun _ => true) true n 52 [c4] = some y4 at g4
      have hw : x.1.weights Tryz.prog 54 = y0.1.weights Tryz.prog 3 ++ (y1.1.weights Tryz.prog 9 ++ (y2.1.weights Tryz.prog 32 ++ (y3.1.weights Tryz.prog 51 ++ (y4.1.weights Tryz.prog 52 ++ [])))) := by
        rw [hx]; simp [DataW.weights, Tryz.underlying54, DataW.weightsEach]
      rw [hw] at hz
      have hz1 : ∀ m ∈ y1.1.weights Tryz.prog 9, m ≤ reachBytes := fun m hm => hz m (by simp [hm])
      have hz2 : ∀ m ∈ y2.1.weights Tryz.prog 32, m ≤ reachBytes := fun m hm => hz m (by simp [hm])
      have hz3 : ∀ m ∈ y3.1.weights Tryz.prog 51, m ≤ reachBytes := fun m hm => hz m (by simp [hm])
      have hz4 : ∀ m ∈ y4.1.weights Tryz.prog 52, m ≤ reachBytes := fun m hm => hz m (by simp [hm])
      obtain ⟨a0, q0, _, w0⟩ := DataW.trod_int Tryz.underlying3 g0
      obtain ⟨a1, q1, e1, w1⟩ := DataW.trod_string Tryz.underlying9 g1
      obtain ⟨A2, n2, p2, fs, q2, hrf⟩ := rdF_of_trod g2 hz2
      obtain ⟨A3, n3, p3, cs, q3, hrc, hsh, hbig⟩ := rdC_of_trod g3 hz3
      obtain ⟨A4, n4, p4, lv, q4, hri, _⟩ := rdIC_of_trod g4 hz4
      have hs1 : a1.data.toList.length ≤ nmMax := by
        have := hz1 a1.data.toList.length (by rw [e1]; simp [DataW.weights])
        unfold reachBytes at this; unfold nmMax; exact this
      simp at q0 q1
      subst q0; subst q1; subst q2; subst q3; subst q4
      refine ⟨(⟨a0, a1.data.toList, fs, cs, lv⟩, .slice A2 n2 p2, .slice A3 n3 p3, .slice A4 n4 p4), ⟨⟨A2, n2, p2, A3, n3, p3, A4, n4, p4, rfl, rfl, rfl, hrf, hrc, hri⟩, ⟨w0, hs1, fun c hc => ?_, hbig⟩, hsh⟩, by unfold opCel; rw [bs_data]⟩
      obtain ⟨z1, z2, z3, z4⟩ := hsh c hc
      exact ⟨z2, z4⟩
set_option maxRecDepth 40000 in
theorem rdOp_of_trod {v : Value} (h : DataW.trod enc Tryz.prog W 0 (fun _ => true) true fuel 22 [v] = some x) (hz : ∀ n ∈ x.1.weights Tryz.prog 22, n ≤ reachBytes) : ∃ a len cap l, v = .slice a len cap ∧ RdOp W W.heap.size a len cap l := by
  rcases open_slice Tryz.underlying22 h with ⟨hcs, _⟩ | ⟨a, len, cap, m, n, D, Pl, hcs, _, hl, hm, hmm, hx, hi⟩
  · simp at hcs
    exact ⟨none, 0, 0, [], hcs, RdG.nil _ _⟩
  · simp at hcs
    have hmc : m = cap := by simpa using hmm
    rw [f_ops5] at hi
    have hch : ∀ i, i < len → ∃ o : OpP, opP W W.heap.size o ∧ ∃ cs', W.cells? 0 (a.add (i * 5)) 5 = some cs' ∧ cs' = opCel o := by
      intro i hil
      obtain ⟨cs', hc, ht⟩ := hi i (by omega)
      obtain ⟨o, ho, e⟩ := op9_of_trod ht (fun k hk => hz k (by
        rw [hx]
        simp only [DataW.weights, Tryz.underlying22, List.mem_cons, List.mem_append]
        exact .inr (.inl (weights_in _ (D i) _ (List.mem_map.2 ⟨i, List.mem_range.2 hil, rfl⟩) hk))))
      exact ⟨o, ho, cs', hc, e⟩
    have hex : ∃ f : Nat → OpP, ∀ i, i < len → opP W W.heap.size (f i) ∧ ∃ cs', W.cells? 0 (a.add (i * 5)) 5 = some cs' ∧ cs' = opCel (f i) := by
      refine ⟨fun i => if hi : i < len then (hch i hi).choose else (⟨0, [], [], [], []⟩, .slice none 0 0, .slice none 0 0, .slice none 0 0), fun i hi => ?_⟩
      simp only [hi, dif_pos]
      exact (hch i hi).choose_spec
    obtain ⟨f, hf⟩ := hex
    refine ⟨some a, len, cap, (List.range len).map f, hcs, ⟨by simp, hl, hm, ?_, fun hn => ?_⟩⟩
    · intro o ho
      obtain ⟨i, hi, rfl⟩ := List.mem_map.1 ho
      exact (hf i (List.mem_range.1 hi)).1
    · obtain ⟨b, off, spot⟩ := a
      have hcell : ∀ i, i < len → ∀ j, j < 5 → W.cell? ((Addr.mk b off spot).add (i * 5 + j)) = (opCel (f i))[j]? := by
        intro i hi j hj
        obtain ⟨_, cs', hc, e⟩ := hf i hi
        obtain ⟨_, _, hat⟩ := World.cells?_some hc
        have := hat j hj
        rw [Go.Deep.add_add, e] at this
        exact this
      have h0 := hcell 0 hn 0 (by omega)
      have hspot : spot = none := by
        have := World.cell?_spot (v := .int .i64 (f 0).1.kd) (by simpa [opCel] using h0)
        simpa [Addr.add] using this
      subst hspot
      refine ⟨b, off, rfl, ?_, (fun t e => nomatch e), fun i o ho j hj => ?_⟩
      · simp only [add_plain] at h0
        by_cases hb : b < W.heap.size
        · exact hb
        · simp [World.cell?, opCel, Array.getElem?_eq_none (show W.heap.size ≤ b by omega)] at h0
      · have hil : i < len := by have := (List.getElem?_eq_some_iff.1 ho).1; simpa using this
        have c := hcell i hil j hj
        simp only [add_plain] at c
        rw [List.getElem?_map, List.getElem?_range hil] at ho
        cases ho
        rw [Nat.add_assoc]; exact c
end
end Go.Proofs.YtaegencmnmjgbaaGreat

namespace Go.Proofs.YtaegencmnmjgbaaGreat
open Go.RowKit
set_option linter.unusedVariables false
set_option linter.unusedSimpArgs false
def encFs (l : List Fd) : List UInt8 := le (encA l).length 2 ++ encA l
def encMv (m : Mv) (f : Fd) : List UInt8 := if m.fr = -1 then 255 :: encB m.k m.n m.t f.k f.g else le m.fr 1
def encMs : List Mv → List Fd → List UInt8
  | m :: ms, f :: fs => encMv m f ++ encMs ms fs
  | _, _ => []
def encVs : List (List Fd) → List Tb → List UInt8
  | f :: fs, T :: ts => encFs f ++ encMs T.mv f ++ encVs fs ts
  | _, _ => []
def encTy (t : Ty) : List UInt8 := le t.nm.length 1 ++ t.nm ++ le t.lo 1 ++ le t.hi 1 ++ encFs (t.fs.headD []) ++ encVs t.fs.tail t.ts
def encTs (l : List Ty) : List UInt8 := (l.map encTy).flatten
def encS (l : List Ty) : List UInt8 := le l.length 1 ++ encTs l
theorem encP_short : ∀ {l : List Fd}, (∀ f ∈ l, f.nm.length ≤ 15) → (encP l).length ≤ l.length * 18
  | [], _ => by simp [encP]
  | f :: l, h => by
    have h1 := encP_short (l := l) (fun g hg => h g (List.mem_cons_of_mem _ hg))
    have h2 := h f (by simp)
    have e : encP (f :: l) = encF f ++ encP l := rfl
    rw [e, List.length_append, encF_length, List.length_cons, Nat.succ_mul]
    omega
theorem encA_short {l : List Fd} (h : rightL l = true) : (encA l).length < 65536 := by
  have h1 := encP_short (l := l) (fun f hf => by
    obtain ⟨i, hi⟩ := List.getElem?_of_mem hf
    exact name_short ((rightL_iff.1 h).2 i f hi).1)
  have h2 := right_len h
  unfold encA
  rw [List.length_append, le_length]
  omega
end Go.Proofs.YtaegencmnmjgbaaGreat

namespace Go.Proofs.YtaegencmnmjgbaaGreat
open Go.RowKit Go.Maps
set_option linter.unusedVariables false
set_option linter.unusedSimpArgs false
def verE (T : Tb) : List UInt8 := encFs T.nw ++ encMs T.mv T.nw
theorem encVs_ver : ∀ {fs : List (List Fd)} {ts : List Tb}, fs.length = ts.length → (∀ (i : Nat) T, ts[i]? = some T → fs[i]? = some T.nw) → encVs fs ts = (ts.map verE).flatten
  | [], [], _, _ => rfl
  | [], _ :: _, h, _ => by simp at h
  | _ :: _, [], h, _ => by simp at h
  | f :: fs, T :: ts, hl, h => by
    have h0 : f = T.nw := by have := h 0 T rfl; simpa using this
    unfold encVs
    rw [encVs_ver (by simpa using hl) (fun i U hU => by have := h (i + 1) U (by simpa using hU); simpa using this), List.map_cons, List.flatten_cons, h0]; rfl
theorem encTy_ver {t : Ty} (h : okTy t) : encTy t = le t.nm.length 1 ++ t.nm ++ le t.lo 1 ++ le t.hi 1 ++ ((verL t).map verE).flatten := by
  have hl := h.2.2.2.1
  unfold encTy
  have e0 : encMs [] (t.fs.headD []) = [] := by cases t.fs.headD [] <;> rfl
  rw [encVs_ver (by rw [List.length_tail]; omega) (fun i T hT => by
    have := (h.2.2.2.2.2 i T hT).2.2.2
    rw [List.getElem?_tail]; exact this)]
  unfold verL
  rw [List.map_cons, List.flatten_cons]
  show _ = _ ++ ((encFs (t.fs.headD []) ++ encMs [] (t.fs.headD [])) ++ _)
  rw [e0, List.append_nil]
  simp only [List.append_assoc]
theorem encMs_take : ∀ {ms : List Mv} {fs : List Fd} {j : Nat} {m : Mv} {f : Fd}, ms[j]? = some m → fs[j]? = some f → encMs (ms.take (j + 1)) fs = encMs (ms.take j) fs ++ encMv m f
  | [], _, _, _, _, h, _ => by simp at h
  | _ :: _, [], _, _, _, _, h => by simp at h
  | x :: ms, y :: fs, 0, m, f, h1, h2 => by
    simp at h1 h2; subst h1; subst h2
    simp [encMs]
  | x :: ms, y :: fs, j + 1, m, f, h1, h2 => by
    rw [List.take_succ_cons, List.take_succ_cons]
    show encMv x y ++ encMs (ms.take (j + 1)) fs = encMv x y ++ encMs (ms.take j) fs ++ _
    rw [encMs_take (by simpa using h1) (by simpa using h2), List.append_assoc]
theorem encMs_nil (fs : List Fd) : encMs [] fs = [] := by cases fs <;> rfl
structure VerOk (T : Tb) : Prop where
  nw : rightL T.nw = true
  len : T.mv.length ≤ T.nw.length
  mv : ∀ (i : Nat) m f, T.mv[i]? = some m → T.nw[i]? = some f → U64 m.n ∧ (m.fr = -1 → rightF m.k m.n m.t.size f.k f.g = true) ∧ (m.fr ≠ -1 → 0 ≤ m.fr ∧ m.fr < 256)
theorem verOk_of {T : Tb} (h : rightT T = true) (hu : ∀ m ∈ T.mv, U64 m.n) : VerOk T := by
  obtain ⟨h1, h2, h3, h4⟩ := rightT_iff.1 h
  refine ⟨h2, Nat.le_of_eq h3, fun i m f hm hf => ⟨hu m (List.mem_of_getElem? hm), fun e => ?_, fun e => ?_⟩⟩
  · have := h4 i m f hm hf
    rw [mvB_new e, Bool.and_eq_true] at this
    exact this.1
  · rcases mvB_from (h4 i m f hm hf) with c | ⟨g, c0, cg, _, _⟩
    · exact absurd c e
    · have := (List.getElem?_eq_some_iff.1 cg).1
      have := right_len h1
      exact ⟨c0, by omega⟩
theorem verL_ok {t : Ty} (h : okTy t) {i : Nat} {T : Tb} (hT : (verL t)[i]? = some T) : VerOk T := by
  cases i with
  | zero =>
    have hnw := verL_nw h hT
    simp [verL] at hT
    subst hT
    exact ⟨h.2.2.2.2.1 _ (List.mem_of_getElem? hnw), by simp, fun i m f hm => by simp at hm⟩
  | succ i =>
    have : t.ts[i]? = some T := by simpa [verL] using hT
    obtain ⟨a, b, _⟩ := h.2.2.2.2.2 i T this
    exact verOk_of a b
theorem longE_le {vk n : Int} {t : ByteArray} {k g : Int} (h : rightF vk n t.size k g = true) : (encB vk n t k g).length ≤ 100 := by
  have h1 := encB_length h
  have h2 := longF_le k g
  omega
theorem encMv_len {m : Mv} {f : Fd} (h : m.fr = -1 → rightF m.k m.n m.t.size f.k f.g = true) : (encMv m f).length ≤ 101 := by
  unfold encMv
  split
  · rename_i c; have := longE_le (h c); simp; omega
  · rw [le_length]; omega
theorem encMs_len {T : Tb} (h : VerOk T) : ∀ j, (encMs (T.mv.take j) T.nw).length ≤ j * 101
  | 0 => by simp [encMs_nil]
  | j + 1 => by
    cases hm : T.mv[j]? with
    | none =>
      have : T.mv.take (j + 1) = T.mv.take j := by rw [List.take_add_one, hm]; simp
      rw [this]; have := encMs_len h j; omega
    | some m =>
      obtain ⟨f, hf⟩ : ∃ f, T.nw[j]? = some f := ⟨_, List.getElem?_eq_getElem (by have := (List.getElem?_eq_some_iff.1 hm).1; have := h.len; omega)⟩
      rw [encMs_take hm hf, List.length_append]
      have := encMs_len h j
      have := encMv_len (h.mv j m f hm hf).2.1
      omega
theorem verE_len {T : Tb} (h : VerOk T) : (verE T).length ≤ 70000 := by
  unfold verE encFs
  have h1 := encA_short h.nw
  have h2 := encMs_len h T.mv.length
  have h3 := right_len h.nw
  have h4 := h.len
  rw [List.take_length] at h2
  simp only [List.length_append, le_length]
  omega
set_option maxHeartbeats 2000000 in
theorem numb9_any (wd : Nat) (n : Int) (w : World) (hw : wd = 1 ∨ wd = 2) (h0 : 0 ≤ n) (h1 : n < 256 ∨ wd = 2 ∧ n < 65536) :
    Calls Tryz.prog 49 #[.int .i64 (wd : Int), .int .i64 n] w fun e w' => ∃ v, e = .returned v ∧ Own w' w.heap.size v (le n wd) ∧ Below w.heap.size w w' := by
  have e0 : IntKind.u64.wrap n = n := u64_id h0 (by omega)
  have HU : Hid (U64 n) := ⟨h0, by rw [pw8]; omega⟩
  have hf : fits n wd false = true := by
    rcases hw with rfl | rfl
    · simp [fits, show isW 1 = true from rfl, pw1]; omega
    · simp [fits, show isW 2 = true from rfl, pw2]; omega
  have HP := hid (fun w => put_true none 0 0 [] wd n w (Rd.nil w _) (by omega) HU.out hf (by omega))
  clear hf h1 hw
  go_enter Tryz.func49, Tryz.ntmps49
  go_wp2_with fail
  refine (HP.out w).mono ?_
  rintro e w1 ⟨v, rfl, ho, hb⟩
  have HO := hid ho
  clear ho
  go_wp2_with fail
  go_ret
  exact ⟨_, rfl, by simpa using HO.out, hb⟩
set_option maxHeartbeats 2000000 in
theorem piece9_any (wd : Nat) {A : Option Addr} {n c : Nat} {l : List UInt8} (w : World) (h : Rd w w.heap.size A n c l) (hw : wd = 1 ∨ wd = 2) (h1 : n < 256 ∨ wd = 2 ∧ n < 65536) :
    Calls Tryz.prog 50 #[.int .i64 (wd : Int), .slice A n c] w fun e w' => ∃ v, e = .returned v ∧ Own w' w.heap.size v (le (n : Int) wd ++ l) ∧ Below w.heap.size w w' := by
  have H := hid h; have HW := hid hw; have HH := hid h1
  have hn : n ≤ 65536 := by omega
  clear h hw h1
  go_enter Tryz.func50, Tryz.ntmps50
  go_wp2_with fail
  refine (numb9_any wd (n : Int) w HW.out (by omega) (by have := HH.out; omega)).mono ?_
  rintro e w1 ⟨v1, rfl, ho1, hb1⟩
  obtain ⟨v2, w2, hrun, ho2, hg2, _⟩ := run_append8 ho1 (H.out.on hb1) hb1.size (by rw [le_length]; have := HW.out; omega) 35
  have HB2 : Hid (Below w.heap.size w w2) := hid (hb1.grown hg2 hb1.size (fun j e => (ho1.blk2 j e).1))
  obtain ⟨A1, n1, c1, rfl⟩ := ho1.shape2
  have HRUN := hid hrun; have HO := hid ho2
  clear ho1 hb1 hrun ho2 hg2
  go_wp2_with (at_builtin; refine wpList_appG rfl _ _ rfl rfl rfl HRUN.out ?_)
  go_ret
  exact ⟨_, rfl, HO.out, HB2.out⟩
end Go.Proofs.YtaegencmnmjgbaaGreat

namespace Go.Proofs.YtaegencmnmjgbaaGreat
open Go.RowKit
set_option linter.unusedVariables false
set_option linter.unusedSimpArgs false
theorem ret_VLp {fn : Func} {p : Tmp} (hf : fn.results = #[.cell p 71]) {R : Ending → World → Prop} {a : Act} {w : World} {b : Nat} {k n : Int} {t : ByteArray} (hp : a.tmps.getD p undef = .pointer (some ⟨b, 0, none⟩)) (hv : VB w b k n t)
    (hd : a.defers = []) (hR : R (.returned (vlV k n t)) w) : bodyPost Tryz.prog fn R .ret a w :=
  bodyPost_ret_by (results_cell_row hf a.tmps w b 71 _ (0, 0) _ hp hv Tryz.underlying71 rfl (by kernel_rfl)) hd hR
end Go.Proofs.YtaegencmnmjgbaaGreat
