/-
  From what a law's arguments hold to what its walk is told: changes, slices of changes, slices of numbers.
  What was set is got, no other field is another one; a new object has zero values: mathematics.
  The document's Object of layer 7.
  From what a law's arguments hold to what its walk is told: slices of values, their texts as they are.
-/
import Derived.Test.YtjodbopnibdolaaGreatM5
import Derived.Test.YtjodbopnibdolaaGreatM33
import Derived.Test.YtjodbopnibdolaaGreatM15
import Derived.Test.YtjodbopnibdolaaGreatM12
import Derived.Test.YtjodbopnibdolaaGreatM13

namespace Go.Proofs.YtjodbopnibdolaaGreat
open Go.ChangeShapes Go.WideShapes Go.ChangeAt Go.RowKit Go.Deep
set_option linter.unusedVariables false

section
variable {H : Type} {enc : TypeId × Value → H} {W : World} {fuel : Nat} {x : DataW H × List MemPlace}
theorem f_one9 : Tryz.prog.cellsOf 52 = 9 := by kernel_rfl
theorem f_onel : Tryz.prog.cellsOf 50 = 1 := by kernel_rfl
theorem weights_in {e : TypeId} : ∀ (l : List (DataW H)) (d : DataW H) (k : Nat), d ∈ l → k ∈ d.weights Tryz.prog e → k ∈ DataW.weightsAll Tryz.prog e l := by
  intro l
  induction l with
  | nil => intro d k hd; cases hd
  | cons y l ih =>
    intro d k hd hk
    simp only [DataW.weightsAll, List.mem_append]
    rcases List.mem_cons.1 hd with rfl | hd
    · exact .inl hk
    · exact .inr (ih d k hd hk)
theorem rdIC_of_cells {a : Addr} {len cap : Nat} {zs : List Int} (hl : len ≤ cap) (hm : cap ≤ maxLen) (hz : zs.length = cap)
    (hcell : ∀ i, i < zs.length → W.cell? (a.add i) = some (.int .i64 (zs.getD i 0))) (hwz : ∀ n ∈ zs, (Lit.int .i64 n).wf = true) :
    RdI W W.heap.size (some a) len cap (zs.take len) := by
  refine ⟨by simp; omega, hl, hm, fun y hy => hwz y (List.mem_of_mem_take hy), fun hn => ?_⟩
  obtain ⟨b, off, spot⟩ := a
  have h0 := hcell 0 (by omega)
  have hspot : spot = none := by simpa [Addr.add] using World.cell?_spot h0
  subst hspot
  refine ⟨b, off, rfl, ?_, fun i hi => ?_⟩
  · rw [add_plain] at h0
    by_cases hb : b < W.heap.size
    · exact hb
    · simp [World.cell?, Array.getElem?_eq_none (show W.heap.size ≤ b by omega)] at h0
  · simp at hi
    have h1 := hcell i (by omega)
    rw [add_plain] at h1
    rw [h1]
    simp [List.getD_eq_getElem?_getD, show i < zs.length by omega]
theorem rdIC_of_trod {v : Value} (h : DataW.trod enc Tryz.prog W 0 (fun _ => true) true fuel 50 [v] = some x) (hz : ∀ n ∈ x.1.weights Tryz.prog 50, n ≤ reachBytes) : ∃ a len cap l, v = .slice a len cap ∧ RdI W W.heap.size a len cap l ∧ l.length ≤ nmMax := by
  rcases open_ints Tryz.underlying50 Tryz.underlying3 (by kernel_rfl) h with ⟨hcs, _⟩ | ⟨a, l, c, zs, hcs, _, hl, hm, hzl, hx, hcell, hwz⟩
  · simp at hcs
    exact ⟨none, 0, 0, [], hcs, RdI.nil _ _, by simp⟩
  · simp at hcs
    have hzc : zs.length = c := by simpa using hzl
    refine ⟨some a, l, c, _, hcs, rdIC_of_cells hl hm hzc hcell hwz, ?_⟩
    rw [hx] at hz
    have hb : Tryz.prog.bytesOf 3 = 8 := by kernel_rfl
    have := hz (((lits .i64 (zs.take l) : List (DataW H)).length + (lits .i64 (zs.drop l) : List (DataW H)).length) * Tryz.prog.bytesOf 3) (by simp [DataW.weights, Tryz.underlying50])
    rw [hb] at this
    simp only [lits, List.length_map, List.length_take, List.length_drop] at this
    rw [List.length_take]
    unfold reachBytes at this
    unfold nmMax
    omega
theorem rdI_of_trodC {v : Value} (h : DataW.trod enc Tryz.prog W 0 (fun _ => true) true fuel 50 [v] = some x) : ∃ a len cap l, v = .slice a len cap ∧ RdI W W.heap.size a len cap l := by
  rcases open_ints Tryz.underlying50 Tryz.underlying3 (by kernel_rfl) h with ⟨hcs, _⟩ | ⟨a, l, c, zs, hcs, _, hl, hm, hzl, hx, hcell, hwz⟩
  · simp at hcs
    exact ⟨none, 0, 0, [], hcs, RdI.nil _ _⟩
  · simp at hcs
    exact ⟨some a, l, c, _, hcs, rdIC_of_cells hl hm (by simpa using hzl) hcell hwz⟩
set_option maxRecDepth 20000 in
theorem vl2_of_trod {cs : List Value} (h : DataW.trod enc Tryz.prog W 0 (fun _ => true) true fuel 33 cs = some x) :
    ∃ (k n : Int) (t : ByteArray), (I64 k ∧ U64 n) ∧ cs = [.int .i64 k, .int .u64 n, .string t] ∧ t.size ∈ x.1.weights Tryz.prog 33 := by
  obtain ⟨xs, n, _, hx, hlen, hxl, hf⟩ := DataW.trod_struct Tryz.underlying33 h
  rw [f_vl] at hlen
  match cs, hlen with
  | [c0, c1, c2], _ =>
    match xs, hxl with
    | [y0, y1, y2], _ =>
      have g0 : DataW.trod enc Tryz.prog W 0 (fun _ => true) true n 3 (List.take (Tryz.prog.cellsOf 3) (List.drop 0 [c0, c1, c2])) = some y0 := hf 0 _ rfl
      rw [f_one] at g0
      change DataW.trod enc Tryz.prog W 0 (fun _ => true) true n 3 [c0] = some y0 at g0
      have g1 : DataW.trod enc Tryz.prog W 0 (fun _ => true) true n 31 (List.take (Tryz.prog.cellsOf 31) (List.drop 1 [c0, c1, c2])) = some y1 := hf 1 _ rfl
      rw [f_oneu] at g1
      change DataW.trod enc Tryz.prog W 0 (fun _ => true) true n 31 [c1] = some y1 at g1
      have g2 : DataW.trod enc Tryz.prog W 0 (fun _ => true) true n 9 (List.take (Tryz.prog.cellsOf 9) (List.drop 2 [c0, c1, c2])) = some y2 := hf 2 _ rfl
      rw [f_ones] at g2
      change DataW.trod enc Tryz.prog W 0 (fun _ => true) true n 9 [c2] = some y2 at g2
      obtain ⟨a0, q0, _, w0⟩ := DataW.trod_int Tryz.underlying3 g0
      obtain ⟨a1, q1, _, w1⟩ := DataW.trod_int Tryz.underlying31 g1
      obtain ⟨a2, q2, e2, w2⟩ := DataW.trod_string Tryz.underlying9 g2
      simp at q0 q1 q2
      subst q0; subst q1; subst q2
      refine ⟨a0, a1, a2, ⟨w0, U64.of_wf w1⟩, rfl, ?_⟩
      rw [hx, e2]
      simp [DataW.weights, Tryz.underlying33, DataW.weightsEach]
set_option maxRecDepth 40000 in
theorem ch_of_trod {cs : List Value} (h : DataW.trod enc Tryz.prog W 0 (fun _ => true) true fuel 52 cs = some x) (hz : ∀ n ∈ x.1.weights Tryz.prog 52, n ≤ reachBytes) :
    ∃ (c : Ch) (A : Option Addr) (n cp : Nat), ChA W c A n cp ∧ cs = [.int .i64 c.op, .string (bs c.nm), .string (bs c.to.nm), .int .i64 c.to.k, .int .i64 c.to.g, .int .i64 c.dk, .int .u64 c.dn, .string c.dt, .slice A n cp] := by
  obtain ⟨xs, n, _, hx, hlen, hxl, hf⟩ := DataW.trod_struct Tryz.underlying52 h
  rw [f_one9] at hlen
  match cs, hlen with
  | [c0, c1, c2, c3, c4, c5, c6, c7, c8], _ =>
    match xs, hxl with
    | [y0, y1, y2, y3, y4], _ =>
      have g0 : DataW.trod enc Tryz.prog W 0 (fun _ => true) true n 3 (List.take (Tryz.prog.cellsOf 3) (List.drop 0 [c0, c1, c2, c3, c4, c5, c6, c7, c8])) = some y0 := hf 0 _ rfl
      rw [f_one] at g0
      change DataW.trod enc Tryz.prog W 0 (fun _ => true) true n 3 [c0] = some y0 at g0
      have g1 : DataW.trod enc Tryz.prog W 0 (fun _ => true) true n 9 (List.take (Tryz.prog.cellsOf 9) (List.drop 1 [c0, c1, c2, c3, c4, c5, c6, c7, c8])) = some y1 := hf 1 _ rfl
      rw [f_ones] at g1
      change DataW.trod enc Tryz.prog W 0 (fun _ => true) true n 9 [c1] = some y1 at g1
      have g2 : DataW.trod enc Tryz.prog W 0 (fun _ => true) true n 29 (List.take (Tryz.prog.cellsOf 29) (List.drop 2 [c0, c1, c2, c3, c4, c5, c6, c7, c8])) = some y2 := hf 2 _ rfl
      rw [f_fd] at g2
      change DataW.trod enc Tryz.prog W 0 (fun _ => true) true n 29 [c2, c3, c4] = some y2 at g2
      have g3 : DataW.trod enc Tryz.prog W 0 (fun _ => true) true n 33 (List.take (Tryz.prog.cellsOf 33) (List.drop 5 [c0, c1, c2, c3, c4, c5, c6, c7, c8])) = some y3 := hf 3 _ rfl
      rw [f_vl] at g3
      change DataW.trod enc Tryz.prog W 0 (fun _ => true) true n 33 [c5, c6, c7] = some y3 at g3
      have g4 : DataW.trod enc Tryz.prog W 0 (fun _ => true) true n 50 (List.take (Tryz.prog.cellsOf 50) (List.drop 8 [c0, c1, c2, c3, c4, c5, c6, c7, c8])) = some y4 := hf 4 _ rfl
      rw [f_onel] at g4
      change DataW.trod enc Tryz.prog W 0 (fun _ => true) true n 50 [c8] = some y4 at g4
      obtain ⟨a0, q0, _, w0⟩ := DataW.trod_int Tryz.underlying3 g0
      obtain ⟨a1, q1, e1, w1⟩ := DataW.trod_string Tryz.underlying9 g1
      obtain ⟨f, hfd, q2, m2⟩ := fd_of_trod g2
      obtain ⟨k, vn, t, hv, q3, m3⟩ := vl2_of_trod g3
      have hw : x.1.weights Tryz.prog 52 = y0.1.weights Tryz.prog 3 ++ (y1.1.weights Tryz.prog 9 ++ (y2.1.weights Tryz.prog 29 ++ (y3.1.weights Tryz.prog 33 ++ (y4.1.weights Tryz.prog 50 ++ [])))) := by
        rw [hx]; simp [DataW.weights, Tryz.underlying52, DataW.weightsEach]
      rw [hw] at hz
      have hz1 : ∀ m ∈ y1.1.weights Tryz.prog 9, m ≤ reachBytes := fun m hm => hz m (by simp [hm])
      have hz2 : ∀ m ∈ y2.1.weights Tryz.prog 29, m ≤ reachBytes := fun m hm => hz m (by simp [hm])
      have hz3 : ∀ m ∈ y3.1.weights Tryz.prog 33, m ≤ reachBytes := fun m hm => hz m (by simp [hm])
      have hz4 : ∀ m ∈ y4.1.weights Tryz.prog 50, m ≤ reachBytes := fun m hm => hz m (by simp [hm])
      obtain ⟨A, ln, cp, od, q4, hri, hol⟩ := rdIC_of_trod g4 hz4
      have hs1 : a1.data.toList.length ≤ nmMax := by
        have := hz1 a1.data.toList.length (by rw [e1]; simp [DataW.weights])
        unfold reachBytes at this; unfold nmMax; exact this
      have hs2 : f.nm.length ≤ nmMax := by have := hz2 _ m2; unfold reachBytes at this; unfold nmMax; exact this
      have hs3 : t.size ≤ nmMax := by have := hz3 _ m3; unfold reachBytes at this; unfold nmMax; exact this
      simp at q0 q1 q2 q3
      obtain ⟨rfl, rfl, rfl⟩ := q2
      obtain ⟨rfl, rfl, rfl⟩ := q3
      subst q0; subst q1; subst q4
      exact ⟨⟨a0, a1.data.toList, f, k, vn, t, od⟩, A, ln, cp, ⟨⟨w0, hfd.1, hfd.2, hv.1, hv.2⟩, ⟨hs1, hs2, hs3, hol⟩, hri⟩, by rw [bs_data]⟩
set_option maxRecDepth 40000 in
theorem rdC_of_trod {v : Value} (h : DataW.trod enc Tryz.prog W 0 (fun _ => true) true fuel 23 [v] = some x) (hz : ∀ n ∈ x.1.weights Tryz.prog 23, n ≤ reachBytes) : ∃ a len cap l, v = .slice a len cap ∧ RdC W W.heap.size a len cap l ∧ ∀ c ∈ l, shC c := by
  rcases open_slice Tryz.underlying23 h with ⟨hcs, _⟩ | ⟨a, len, cap, m, n, D, Pl, hcs, _, hl, hm, hmm, hx, hi⟩
  · simp at hcs
    exact ⟨none, 0, 0, [], hcs, ⟨rfl, by omega, by unfold maxLen; omega, by simp, fun h => by omega⟩, by simp⟩
  · simp at hcs
    have hmc : m = cap := by simpa using hmm
    rw [f_one9] at hi
    have hch : ∀ i, i < len → ∃ o : Ch × (Option Addr × Nat × Nat), ChA W o.1 o.2.1 o.2.2.1 o.2.2.2 ∧ ∃ cs', W.cells? 0 (a.add (i * 9)) 9 = some cs' ∧ cs' = [.int .i64 o.1.op, .string (bs o.1.nm), .string (bs o.1.to.nm), .int .i64 o.1.to.k, .int .i64 o.1.to.g, .int .i64 o.1.dk, .int .u64 o.1.dn, .string o.1.dt, .slice o.2.1 o.2.2.1 o.2.2.2] := by
      intro i hil
      obtain ⟨cs', hc, ht⟩ := hi i (by omega)
      obtain ⟨c, A, n', cp', hca, e⟩ := ch_of_trod ht (fun k hk => hz k (by
        rw [hx]
        simp only [DataW.weights, Tryz.underlying23, List.mem_cons, List.mem_append]
        exact .inr (.inl (weights_in _ (D i) _ (List.mem_map.2 ⟨i, List.mem_range.2 hil, rfl⟩) hk))))
      exact ⟨(c, A, n', cp'), hca, cs', hc, e⟩
    have hex : ∃ f : Nat → Ch × (Option Addr × Nat × Nat), ∀ i, i < len → ChA W (f i).1 (f i).2.1 (f i).2.2.1 (f i).2.2.2 ∧ ∃ cs', W.cells? 0 (a.add (i * 9)) 9 = some cs' ∧ cs' = [.int .i64 (f i).1.op, .string (bs (f i).1.nm), .string (bs (f i).1.to.nm), .int .i64 (f i).1.to.k, .int .i64 (f i).1.to.g, .int .i64 (f i).1.dk, .int .u64 (f i).1.dn, .string (f i).1.dt, .slice (f i).2.1 (f i).2.2.1 (f i).2.2.2] := by
      refine ⟨fun i => if hi : i < len then (hch i hi).choose else (⟨0, [], ⟨[], 0, 0⟩, 0, 0, ⟨#[]⟩, []⟩, none, 0, 0), fun i hi => ?_⟩
      simp only [hi, dif_pos]
      exact (hch i hi).choose_spec
    obtain ⟨f, hf⟩ := hex
    refine ⟨some a, len, cap, (List.range len).map fun i => (f i).1, hcs, ⟨by simp, hl, hm, ?_, fun hn => ?_⟩, ?_⟩
    · intro o ho
      obtain ⟨i, hi, rfl⟩ := List.mem_map.1 ho
      exact (hf i (List.mem_range.1 hi)).1.1
    · obtain ⟨b, off, spot⟩ := a
      have hcell : ∀ i, i < len → ∀ j, j < 9 → W.cell? ((Addr.mk b off spot).add (i * 9 + j)) = [Value.int .i64 (f i).1.op, .string (bs (f i).1.nm), .string (bs (f i).1.to.nm), .int .i64 (f i).1.to.k, .int .i64 (f i).1.to.g, .int .i64 (f i).1.dk, .int .u64 (f i).1.dn, .string (f i).1.dt, .slice (f i).2.1 (f i).2.2.1 (f i).2.2.2][j]? := by
        intro i hi j hj
        obtain ⟨_, cs', hc, e⟩ := hf i hi
        obtain ⟨_, _, hat⟩ := World.cells?_some hc
        have := hat j hj
        rw [Go.Deep.add_add, e] at this
        exact this
      have h0 := hcell 0 hn 0 (by omega)
      have hspot : spot = none := by
        have := World.cell?_spot (v := .int .i64 (f 0).1.op) (by simpa using h0)
        simpa [Addr.add] using this
      subst hspot
      refine ⟨b, off, rfl, ?_, fun i hi => ?_⟩
      · simp only [add_plain] at h0
        by_cases hb : b < W.heap.size
        · exact hb
        · simp [World.cell?, Array.getElem?_eq_none (show W.heap.size ≤ b by omega)] at h0
      · simp at hi
        have c := fun j hj => hcell i hi j hj
        simp only [add_plain] at c
        have c0 := c 0 (by omega); have c1 := c 1 (by omega); have c2 := c 2 (by omega); have c3 := c 3 (by omega); have c4 := c 4 (by omega); have c5 := c 5 (by omega); have c6 := c 6 (by omega); have c7 := c 7 (by omega); have c8 := c 8 (by omega)
        simp only [List.getElem_map, List.getElem_range]
        refine ⟨_, _, _, ⟨by simpa using c0, ?_, ?_, ?_, ?_, ?_, ?_, ?_, ?_⟩, (hf i hi).1.2.2⟩
        · rw [Nat.add_assoc]; simpa using c1
        · rw [Nat.add_assoc]; simpa using c2
        · rw [Nat.add_assoc]; simpa using c3
        · rw [Nat.add_assoc]; simpa using c4
        · rw [Nat.add_assoc]; simpa using c5
        · rw [Nat.add_assoc]; simpa using c6
        · rw [Nat.add_assoc]; simpa using c7
        · rw [Nat.add_assoc]; simpa using c8
    · intro o ho
      obtain ⟨i, hi, rfl⟩ := List.mem_map.1 ho
      exact (hf i (List.mem_range.1 hi)).1.2.1
end
end Go.Proofs.YtjodbopnibdolaaGreat

namespace Go.Proofs.YtjodbopnibdolaaGreat
open Go.RowKit
set_option linter.unusedVariables false

theorem decR_encB {vk n : Int} {t : ByteArray} {k g : Int} (hn : U64 n) (hr : rightF vk n t.size k g = true) : decR (encB vk n t k g) k g = .tuple #[.agg #[.int .i64 vk, .int .u64 n, .string t], .int .i64 0] := by
  have h := (dec_enc hn hr).1
  rw [ByteArray.toList_eq] at h
  exact h
theorem part_same {s E : List UInt8} {a : Nat} (h : a + E.length ≤ s.length) : ((setL s a E).drop a).take E.length = E := by
  unfold setL splice
  have e : (s.take a).length = a := by rw [List.length_take]; omega
  rw [List.drop_append_of_le_length (by omega), List.drop_of_length_le (by omega), List.nil_append, List.take_left']
  rfl
theorem part_get {s E : List UInt8} {a : Nat} (h : a + E.length ≤ s.length) {i : Nat} (hi : i < a ∨ a + E.length ≤ i) : (setL s a E)[i]? = s[i]? := by
  unfold setL splice
  have e : (s.take a).length = a := by rw [List.length_take]; omega
  rcases hi with hi | hi
  · rw [List.getElem?_append_left (by omega), List.getElem?_take_of_lt hi]
  · rw [List.getElem?_append_right (by omega), e, List.getElem?_append_right (by omega), List.getElem?_drop]
    congr 1; omega
theorem part_other {s E : List UInt8} {a b m : Nat} (h : a + E.length ≤ s.length) (hd : b + m ≤ a ∨ a + E.length ≤ b) : ((setL s a E).drop b).take m = (s.drop b).take m := by
  refine List.ext_getElem? fun i => ?_
  by_cases hi : i < m
  · rw [List.getElem?_take_of_lt hi, List.getElem?_take_of_lt hi, List.getElem?_drop, List.getElem?_drop]
    exact part_get h (by omega)
  · rw [List.getElem?_eq_none (by rw [List.length_take]; omega), List.getElem?_eq_none (by rw [List.length_take]; omega)]
section
variable {s : List UInt8} {l : List Fd} {i j : Nat} {f f' : Fd} {p q : Int} {vk n : Int} {t : ByteArray}
theorem set_fits (hr : rightL l = true) (hs : (s.length : Int) = layN l) (hi : l[i]? = some f) (hp : (layP 0 l)[i]? = some p) (hv : rightF vk n t.size f.k f.g = true) : p.toNat + (encB vk n t f.k f.g).length ≤ s.length := by
  have h1 := lay_in hr hi hp
  have h2 := encB_length hv
  have h3 : f.long = longF f.k f.g := rfl
  omega
theorem set_length (hr : rightL l = true) (hs : (s.length : Int) = layN l) (hi : l[i]? = some f) (hp : (layP 0 l)[i]? = some p) (hv : rightF vk n t.size f.k f.g = true) : (setL s p.toNat (encB vk n t f.k f.g)).length = s.length := setL_length _ _ _ (set_fits hr hs hi hp hv)
theorem get_set_same (hr : rightL l = true) (hs : (s.length : Int) = layN l) (hi : l[i]? = some f) (hp : (layP 0 l)[i]? = some p) (hn : U64 n) (hv : rightF vk n t.size f.k f.g = true) :
    getR (setL s p.toNat (encB vk n t f.k f.g)) l f.nm = .tuple #[.agg #[.int .i64 vk, .int .u64 n, .string t], .int .i64 0] := by
  have hf := ((rightL_iff.1 hr).2 i f hi).2.2
  rw [getR_some ⟨hr, by rw [set_length hr hs hi hp hv]; exact hs⟩ hf hi hp]
  have h2 := encB_length hv
  have h3 : f.long.toNat = (encB vk n t f.k f.g).length := by show (longF f.k f.g).toNat = _; omega
  rw [h3, part_same (set_fits hr hs hi hp hv)]
  exact decR_encB hn hv
theorem get_set_other (hr : rightL l = true) (hs : (s.length : Int) = layN l) (hi : l[i]? = some f) (hp : (layP 0 l)[i]? = some p) (hv : rightF vk n t.size f.k f.g = true) (hj : l[j]? = some f') (hij : j ≠ i) :
    getR (setL s p.toNat (encB vk n t f.k f.g)) l f'.nm = getR s l f'.nm := by
  have hf := ((rightL_iff.1 hr).2 j f' hj).2.2
  obtain ⟨q, hq⟩ : ∃ q, (layP 0 l)[j]? = some q := ⟨_, layP_get hj 0⟩
  rw [getR_some ⟨hr, by rw [set_length hr hs hi hp hv]; exact hs⟩ hf hj hq, getR_some ⟨hr, hs⟩ hf hj hq]
  have h2 := encB_length hv
  have h3 : f.long = longF f.k f.g := rfl
  have a1 := lay_in hr hi hp
  have a2 := lay_in hr hj hq
  have a3 := long_pos (right_may hr f' (List.mem_of_getElem? hj))
  rw [part_other (set_fits hr hs hi hp hv)]
  rcases Nat.lt_or_ge j i with c | c
  · have := lay_apart hr hj hi c hq hp
    exact .inl (by omega)
  · have := lay_apart hr hi hj (by omega) hp hq
    exact .inr (by omega)
end
theorem zeroR6 {k g : Int} (h : mayF k g = true) : rightF k 0 (zs g.toNat).size k g = true := by
  rw [zs_size]
  by_cases h12 : k = 12
  · subst h12; have := may12 h; rw [rightF_12 h]; simp; omega
  · obtain ⟨rfl, hk⟩ := may_cases h h12
    rcases hk with rfl | rfl | rfl | rfl | rfl | rfl | rfl | rfl | rfl | rfl | rfl <;> decide
theorem zeroE6 {k g : Int} (h : mayF k g = true) : encB k 0 (zs g.toNat) k g = List.replicate (longF k g).toNat (0 : UInt8) := by
  unfold encB
  rw [show encT k 0 (zs g.toNat) k g = encL 0 (zs g.toNat) k g by simp [encT, zeroR6 h]]
  by_cases h12 : k = 12
  · subst h12
    rw [show longF 12 g = g by simp [longF, h], show encL 0 (zs g.toNat) 12 g = zs g.toNat by simp [encL]]
    simp [zs]
  · obtain ⟨rfl, hk⟩ := may_cases h h12
    rw [show encL 0 (zs (0 : Int).toNat) k 0 = ⟨((le 0 8).take (longF k 0).toNat).toArray⟩ by simp [encL, h12]]
    rcases hk with rfl | rfl | rfl | rfl | rfl | rfl | rfl | rfl | rfl | rfl | rfl <;> decide
/-- What is got of a new object. -/
theorem get_zero {l : List Fd} (hr : rightL l = true) {i : Nat} {f : Fd} (hi : l[i]? = some f) :
    getR (List.replicate (layN l).toNat 0) l f.nm = .tuple #[.agg #[.int .i64 (zeroK f.k f.g), .int .u64 0, .string (zeroT f.k f.g)], .int .i64 0] := by
  have hb := layN_bounds hr
  have hf := ((rightL_iff.1 hr).2 i f hi).2.2
  have hm : mayF f.k f.g = true := right_may hr f (List.mem_of_getElem? hi)
  obtain ⟨p, hp⟩ : ∃ p, (layP 0 l)[i]? = some p := ⟨_, layP_get hi 0⟩
  have a1 := lay_in hr hi hp
  have a3 : 1 ≤ f.long := (long_pos (right_may hr f (List.mem_of_getElem? hi))).1
  rw [getR_some ⟨hr, by rw [List.length_replicate]; omega⟩ hf hi hp, List.drop_replicate, List.take_replicate, Nat.min_eq_left (by omega), show f.long = longF f.k f.g from rfl, ← zeroE6 hm, decR_encB ⟨by omega, by rw [pw8]; omega⟩ (zeroR6 hm)]
  simp [zeroK, zeroT, hm]
end Go.Proofs.YtjodbopnibdolaaGreat

namespace Go.Proofs.YtjodbopnibdolaaGreat
open Go.RowKit
set_option linter.unusedVariables false
set_option linter.unusedSimpArgs false

/-- A value: its kind, bits, and text. -/
structure Va where
  k : Int
  n : Int
  t : ByteArray
/-- A slice of values. -/
def RdVa (w : World) (B : Nat) (A : Option Addr) (n cap : Nat) (l : List Va) : Prop :=
  l.length = n ∧ n ≤ cap ∧ cap ≤ maxLen ∧ (∀ v ∈ l, I64 v.k ∧ U64 v.n) ∧ (0 < n → ∃ b off, A = some ⟨b, off, none⟩ ∧ b < B ∧ ∀ i (h : i < l.length), w.cell? ⟨b, off + i * 3, none⟩ = some (.int .i64 l[i].k) ∧ w.cell? ⟨b, off + i * 3 + 1, none⟩ = some (.int .u64 l[i].n) ∧ w.cell? ⟨b, off + i * 3 + 2, none⟩ = some (.string l[i].t))
theorem RdVa.at {w : World} {A : Option Addr} {B n cap : Nat} {l : List Va} (h : RdVa w B A n cap l) {i : Nat} {v : Va} (hi : l[i]? = some v) : i < n ∧ (I64 v.k ∧ U64 v.n) ∧ ∃ b off, A = some ⟨b, off, none⟩ ∧ ∀ w', Below B w w' → w'.cell? ⟨b, off + i * 3, none⟩ = some (.int .i64 v.k) ∧ w'.cell? ⟨b, off + i * 3 + 1, none⟩ = some (.int .u64 v.n) ∧ w'.cell? ⟨b, off + i * 3 + 2, none⟩ = some (.string v.t) := by
  have hl : i < l.length := (List.getElem?_eq_some_iff.1 hi).1
  have e : l[i] = v := (List.getElem?_eq_some_iff.1 hi).2
  obtain ⟨b, off, e2, hlt, hc⟩ := h.2.2.2.2 (by have := h.1; omega)
  obtain ⟨h1, h2, h3⟩ := hc i hl
  rw [e] at h1 h2 h3
  exact ⟨by have := h.1; omega, h.2.2.2.1 _ (List.mem_of_getElem? hi), b, off, e2, fun w' hb => ⟨(hb.cell (p := ⟨b, off + i * 3, none⟩) hlt).trans h1, (hb.cell (p := ⟨b, off + i * 3 + 1, none⟩) hlt).trans h2, (hb.cell (p := ⟨b, off + i * 3 + 2, none⟩) hlt).trans h3⟩⟩
/-- The bytes of the first values. -/
def objS (l : List Fd) (vs : List Va) : Nat → List UInt8
  | 0 => List.replicate (layT l).toNat 0
  | k + 1 => match l[k]?, vs[k]? with
    | some f, some v => (setS6 (objS l vs k) l f.nm v.k v.n v.t).1
    | _, _ => objS l vs k
theorem objS_succ {l : List Fd} {vs : List Va} {k : Nat} {f : Fd} {v : Va} (hf : l[k]? = some f) (hv : vs[k]? = some v) : objS l vs (k + 1) = (setS6 (objS l vs k) l f.nm v.k v.n v.t).1 := by
  show (match l[k]?, vs[k]? with | some f, some v => _ | _, _ => _) = _
  rw [hf, hv]

set_option maxRecDepth 20000 in
set_option maxHeartbeats 4000000 in
theorem r7object_any {w : World} {A A2 : Option Addr} {n c n2 c2 : Nat} {l : List Fd} (h : RdF w w.heap.size A n c l) (hs : short l) {vs : List Va} (hv : RdVa w w.heap.size A2 n2 c2 vs) (hn : n ≤ n2) (hlen : ∀ k, (objS l vs k).length ≤ 100000) :
    Calls Tryz.prog 11 #[.slice A n c, .slice A2 n2 c2] w fun e w' => e = .returned (.string (bs (objS l vs n))) ∧ Below w.heap.size w w' := by
  have hnm : (n : Int) ≤ 9223372036854775807 := by have := Nat.le_trans h.2.1 h.2.2.1; unfold maxLen at this; omega
  have HL := hid h.1; have HL2 := hid hv.1
  have H := hid h; have HS := hid hs; have HV := hid hv; have HLEN := hid hlen; clear h hs hv hlen
  obtain ⟨hT0, hT1⟩ := layT_bd l
  obtain ⟨T, hT⟩ : ∃ T : Nat, (T : Int) = layT l := ⟨(layT l).toNat, by omega⟩
  have HT : Hid ((layT l).toNat = T) := show _ = _ by omega
  have hT2 : T ≤ 1160 := by omega
  have HTT := hid hT
  clear hT0 hT1 hT
  go_enter Tryz.func11, Tryz.ntmps11
  go_wp2_with fail
  refine (r6layout_any H.out HS.out).mono ?_
  rintro e w1 ⟨v1, rfl, ho1, hb1⟩
  rw [← HTT.out]
  have hm := run_make8 T (T : Int) rfl (by omega) w1
  have HB1 := hid hb1
  have hz : Own (w1.alloc (.cells (zrow T).toArray 5)) w1.heap.size (.slice (some ⟨w1.heap.size, 0, none⟩) T T) (List.replicate T (0 : UInt8)) := by
    refine own_row (g := w1.heap.size) (m := T) ?_ (Nat.le_refl _) (by simp) (by unfold maxLen; omega)
    have := heap_alloc_new w1 (.cells (zrow T).toArray 5)
    rw [show zrow T = (List.replicate T (0 : UInt8)).map bv by simp [zrow]] at this ⊢
    exact this
  obtain ⟨Az, cz, ez, hrz⟩ := hz.rd
  have hcv := hrz.conv
  rw [← ez] at hcv
  have HO0 : Hid (objS l vs 0 = List.replicate T (0 : UInt8)) := hid (by unfold objS; rw [HT.out])
  obtain ⟨W1, hW1⟩ : ∃ W1, W1 = w1.alloc (.cells (zrow T).toArray 5) := ⟨_, rfl⟩
  have HW1 := hid hW1
  have HBW : Hid (Below w.heap.size w W1) := by rw [hW1]; exact hid (Ba HB1.out _)
  clear ho1 hb1 hz hrz ez hW1
  go_wp2_with fail
  rw [← HW1.out]
  go_loopw [7, 8] (fun o i wr => ∃ j : Nat, j ≤ n ∧ i = .int .i64 j ∧ o = .string (bs (objS l vs j)) ∧ Hid (Below w.heap.size w wr)) (fun _ i _ => n - (intOf i).toNat)
  case atStart => exact ⟨0, by omega, rfl, by rw [HO0.out]; simp, HBW⟩
  case round =>
    obtain ⟨j, hj, rfl, rfl, HB⟩ := hrel
    by_cases hlt : j < n
    · obtain ⟨f, hf⟩ : ∃ f, l[j]? = some f := ⟨_, List.getElem?_eq_getElem (by have := HL.out; omega)⟩
      obtain ⟨v, hv⟩ : ∃ v, vs[j]? = some v := ⟨_, List.getElem?_eq_getElem (by have := HL2.out; omega)⟩
      obtain ⟨_, _, _, _, b, off, rfl, hc⟩ := H.out.at hf
      obtain ⟨_, ⟨_, hu⟩, b2, off2, rfl, hc2⟩ := HV.out.at hv
      have HSU : Hid (objS l vs (j + 1) = _) := hid (objS_succ hf hv)
      have HC := hid hc; have HC2 := hid hc2
      obtain ⟨S, hS⟩ : ∃ S, S = objS l vs j := ⟨_, rfl⟩
      have hSl : S.length ≤ 100000 := by rw [hS]; exact HLEN.out j
      rw [← hS] at HSU ⊢
      have hji : (j : Int) < n := by omega
      have hji2 : (j : Int) < n2 := by omega
      have hj0 : (0 : Int) ≤ j := by omega
      clear hc hc2 hf hv hS
      go_wp2_with fail
      refine reg_begin (by kernel_rfl) (fun w0a hx0a hHeld => ?_)
      have s0 : ∀ w', Ext w0a w' → Below w.heap.size w w' := fun w' h => Bt (Bt HB.out hx0a) h
      have y1 := fun w' h => (HC.out w' (s0 w' h)).1
      have u1 := fun w' h => (HC2.out w' (s0 w' h)).1
      have u2 := fun w' h => (HC2.out w' (s0 w' h)).2.1
      have u3 := fun w' h => (HC2.out w' (s0 w' h)).2.2
      have HS0 := hid s0
      clear s0
      refine reg_take 0 (v := ?vb0) at0 (by kernel_rfl) (by kernel_rfl) (by kernel_rfl) (by rfl) ?hyb0 hHeld ?restb0
      case hyb0 => (intro w' hSw; go_simp; try with_reducible rfl)
      try simp only [Act.put, List.setIfInBounds_toArray, List.set_cons_zero, List.set_cons_succ]
      refine reg_take 1 (v := ?vb1) (atS at0) (by kernel_rfl) (by kernel_rfl) (by kernel_rfl) (by rfl) ?hyb1 hHeld ?restb1
      case hyb1 => (intro w' hSw; go_simp; try with_reducible rfl)
      try simp only [Act.put, List.setIfInBounds_toArray, List.set_cons_zero, List.set_cons_succ]
      refine reg_take 2 (v := ?vb2) (atS (atS at0)) (by kernel_rfl) (by kernel_rfl) (by kernel_rfl) (by rfl) ?hyb2 hHeld ?restb2
      case hyb2 => (intro w' hSw; go_simp; try with_reducible rfl)
      try simp only [Act.put, List.setIfInBounds_toArray, List.set_cons_zero, List.set_cons_succ]
      refine reg_take 3 (v := ?vb3) (atS (atS (atS at0))) (by kernel_rfl) (by kernel_rfl) (by kernel_rfl) (by rfl) ?hyb3 hHeld ?restb3
      case hyb3 => (intro w' hSw; go_simp; try with_reducible rfl)
      try simp only [Act.put, List.setIfInBounds_toArray, List.set_cons_zero, List.set_cons_succ]
      refine reg_take 4 (v := ?vb4) (atS (atS (atS (atS at0)))) (by kernel_rfl) (by kernel_rfl) (by kernel_rfl) (by rfl) ?hyb4 hHeld ?restb4
      case hyb4 => (intro w' hSw; go_simp; try with_reducible rfl)
      try simp only [Act.put, List.setIfInBounds_toArray, List.set_cons_zero, List.set_cons_succ]
      refine reg_take 5 (v := ?vb5) (atS5 at0) (by kernel_rfl) (by kernel_rfl) (by kernel_rfl) (by rfl) ?hyb5 hHeld ?restb5
      case hyb5 => (intro w' hSw; go_simp; try with_reducible rfl)
      try simp only [Act.put, List.setIfInBounds_toArray, List.set_cons_zero, List.set_cons_succ]
      refine reg_take 6 (v := ?vb6) (atS5 (atS at0)) (by kernel_rfl) (by kernel_rfl) (by kernel_rfl) (by rfl) ?hyb6 hHeld ?restb6
      case hyb6 => (intro w' hSw; go_simp; try with_reducible rfl)
      try simp only [Act.put, List.setIfInBounds_toArray, List.set_cons_zero, List.set_cons_succ]
      refine reg_take 7 (v := ?vb7) (atS5 (atS (atS at0))) (by kernel_rfl) (by kernel_rfl) (by kernel_rfl) (by rfl) ?hyb7 hHeld ?restb7
      case hyb7 => (intro w' hSw; go_simp; try with_reducible rfl)
      try simp only [Act.put, List.setIfInBounds_toArray, List.set_cons_zero, List.set_cons_succ]
      refine reg_take 8 (v := ?vb8) (atS5 (atS (atS (atS at0)))) (by kernel_rfl) (by kernel_rfl) (by kernel_rfl) (by rfl) ?hyb8 hHeld ?restb8
      case hyb8 => (intro w' hSw; go_simp; try with_reducible rfl)
      try simp only [Act.put, List.setIfInBounds_toArray, List.set_cons_zero, List.set_cons_succ]
      refine reg_take 9 (v := ?vb9) (atS5 (atS (atS (atS (atS at0))))) (by kernel_rfl) (by kernel_rfl) (by kernel_rfl) (by rfl) ?hyb9 hHeld ?restb9
      case hyb9 => (intro w' hSw; go_simp; try with_reducible rfl)
      try simp only [Act.put, List.setIfInBounds_toArray, List.set_cons_zero, List.set_cons_succ]
      refine reg_take 10 (v := ?vb10) (atS5 (atS5 at0)) (by kernel_rfl) (by kernel_rfl) (by kernel_rfl) (by rfl) ?hyb10 hHeld ?restb10
      case hyb10 => (intro w' hSw; go_simp; try with_reducible rfl)
      try simp only [Act.put, List.setIfInBounds_toArray, List.set_cons_zero, List.set_cons_succ]
      refine wpAnyH_ready (rs := [11]) (by kernel_rfl) (by simp) ?_
      refine AllReadyH.cons (atS5 (atS5 (atS at0))) (fun K hK => ?_) AllReadyH.nil
      go_simp
      refine (r6set_any (H.out.on (HS0.out _ (Ext.refl _))) HS.out S hSl f.nm v.k v.n v.t hu).mono ?_
      rintro e w4 ⟨rfl, hb4⟩
      go_wp2_with fail
      refine hK.out _ _ hb4 (fun hHeld => ?_)
      clear hK K
      try simp only [Act.put, List.setIfInBounds_toArray, List.set_cons_zero, List.set_cons_succ]
      refine reg_on hb4 (fun hHeld => ?_)
      refine reg_take 12 (v := ?vb12) (atS5 (atS5 (atS (atS at0)))) (by kernel_rfl) (by kernel_rfl) (by kernel_rfl) (by rfl) ?hyb12 hHeld ?restb12
      case hyb12 => (intro w' hSw; go_simp; try with_reducible rfl)
      try simp only [Act.put, List.setIfInBounds_toArray, List.set_cons_zero, List.set_cons_succ]
      refine reg_take 13 (v := ?vb13) (atS5 (atS5 (atS (atS (atS at0))))) (by kernel_rfl) (by kernel_rfl) (by kernel_rfl) (by rfl) ?hyb13 hHeld ?restb13
      case hyb13 => (intro w' hSw; go_simp; try with_reducible rfl)
      try simp only [Act.put, List.setIfInBounds_toArray, List.set_cons_zero, List.set_cons_succ]
      refine reg_take 14 (v := ?vb14) (atS5 (atS5 (atS (atS (atS (atS at0)))))) (by kernel_rfl) (by kernel_rfl) (by kernel_rfl) (by rfl) ?hyb14 hHeld ?restb14
      case hyb14 => (intro w' hSw; go_simp; try with_reducible rfl)
      try simp only [Act.put, List.setIfInBounds_toArray, List.set_cons_zero, List.set_cons_succ]
      refine reg_take 15 (v := ?vb15) (atS5 (atS5 (atS5 at0))) (by kernel_rfl) (by kernel_rfl) (by kernel_rfl) (by rfl) ?hyb15 hHeld ?restb15
      case hyb15 => (intro w' hSw; go_simp; try with_reducible rfl)
      try simp only [Act.put, List.setIfInBounds_toArray, List.set_cons_zero, List.set_cons_succ]
      refine reg_take 16 (v := ?vb16) (atS5 (atS5 (atS5 (atS at0)))) (by kernel_rfl) (by kernel_rfl) (by kernel_rfl) (by rfl) ?hyb16 hHeld ?restb16
      case hyb16 => (intro w' hSw; go_simp; try with_reducible rfl)
      try simp only [Act.put, List.setIfInBounds_toArray, List.set_cons_zero, List.set_cons_succ]
      refine wpAnyH_done (by kernel_rfl) ?_ _
      refine NoPanic.normal ?_
      clear y1 u1 u2 u3
      have HB4 : Hid (Below w.heap.size w w4) := hid (Bt (Bt HB.out hx0a) hb4)
      go_wp2_with fail
      exact ⟨⟨j + 1, by omega, by go_num, by rw [HSU.out], HB4⟩, by simp [intOf]; omega⟩
    · obtain rfl : j = n := by omega
      go_wp2_with fail
      go_ret
      exact ⟨rfl, HB.out⟩
end Go.Proofs.YtjodbopnibdolaaGreat

namespace Go.Proofs.YtjodbopnibdolaaGreat
open Go.ChangeShapes Go.WideShapes Go.ChangeAt Go.RowKit Go.Deep
set_option linter.unusedVariables false

section
variable {H : Type} {enc : TypeId × Value → H} {W : World} {fuel : Nat} {x : DataW H × List MemPlace}
theorem rdVa_of_trod {v : Value} (h : DataW.trod enc Tryz.prog W 0 (fun _ => true) true fuel 24 [v] = some x) : ∃ a len cap l, v = .slice a len cap ∧ RdVa W W.heap.size a len cap l := by
  obtain ⟨a, n, c, l, e, h1, h2, h3, h4, h5⟩ := rdV_of_trod h
  refine ⟨a, n, c, l.map (fun u => ⟨u.k, u.n, bs u.t⟩), e, by rw [List.length_map]; exact h1, h2, h3, fun u hu => ?_, fun hn => ?_⟩
  · obtain ⟨y, hy, rfl⟩ := List.mem_map.1 hu
    exact ⟨(h4 y hy).1, (h4 y hy).2.1⟩
  · obtain ⟨b, off, ea, hb, hc⟩ := h5 hn
    refine ⟨b, off, ea, hb, fun i hi => ?_⟩
    have hi' : i < l.length := by simpa using hi
    have hcc := hc i hi'
    simp only [List.getElem_map]
    exact hcc
end
end Go.Proofs.YtjodbopnibdolaaGreat
