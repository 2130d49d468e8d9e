/-
  Orders and their turned ones; renamed and renamed back: mathematics.
  The contract of own of layer 8's law.
-/
import Derived.Test.YtjodbopnibdolaaM35
import Derived.Test.YtjodbopnibdolaaM34
import Derived.Test.YtjodbopnibdolaaM13

namespace Go.Proofs.Ytjodbopnibdolaa
open Go.RowKit
set_option linter.unusedVariables false
set_option linter.unusedSimpArgs false

/-- The turned order, as far as it is written. -/
def backL (n : Nat) (od : List Int) : Nat → List Int
  | 0 => List.replicate n 0
  | j + 1 => match od[j]? with
    | some x => (backL n od j).set x.toNat (j : Int)
    | none => backL n od j
theorem backL_succ {n : Nat} {od : List Int} {j : Nat} {x : Int} (h : od[j]? = some x) : backL n od (j + 1) = (backL n od j).set x.toNat (j : Int) := by
  show (match od[j]? with | some x => (backL n od j).set x.toNat (j : Int) | none => backL n od j) = _
  rw [h]
theorem backL_length (n : Nat) (od : List Int) (j : Nat) : (backL n od j).length = n := by
  induction j with
  | zero => simp [backL]
  | succ j ih =>
    cases h : od[j]? with
    | some x => rw [backL_succ h, List.length_set, ih]
    | none => show (match od[j]? with | some x => (backL n od j).set x.toNat (j : Int) | none => backL n od j).length = n; rw [h]; exact ih
theorem count_two {od : List Int} {i j : Nat} {x : Int} (hij : i < j) (hi : od[i]? = some x) (hj : od[j]? = some x) : 2 ≤ od.count x := by
  have hil := (List.getElem?_eq_some_iff.1 hi).1
  have hjl := (List.getElem?_eq_some_iff.1 hj).1
  have e : od = od.take (i + 1) ++ od.drop (i + 1) := (List.take_append_drop _ _).symm
  have h1 : 1 ≤ (od.take (i + 1)).count x := List.one_le_count_iff.2 (by
    rw [List.mem_iff_getElem?]; exact ⟨i, by rw [List.getElem?_take_of_lt (by omega), hi]⟩)
  have h2 : 1 ≤ (od.drop (i + 1)).count x := List.one_le_count_iff.2 (by
    rw [List.mem_iff_getElem?]; exact ⟨j - (i + 1), by rw [List.getElem?_drop, show i + 1 + (j - (i + 1)) = j by omega, hj]⟩)
  rw [e, List.count_append]; omega
theorem order_inj {od : List Int} {n : Nat} (h : allB od n = true) {i j : Nat} {x : Int} (hi : od[i]? = some x) (hj : od[j]? = some x) : i = j := by
  have hx := allB_mem h x (List.mem_of_getElem? hi)
  have hc := (allB_iff.1 h).2 x.toNat (by omega)
  rw [Int.toNat_of_nonneg hx.1] at hc
  by_cases c1 : i < j
  · have := count_two c1 hi hj; omega
  · by_cases c2 : j < i
    · have := count_two c2 hj hi; omega
    · omega
theorem backL_at {od : List Int} {n : Nat} (h : allB od n = true) : ∀ (j : Nat), j ≤ n → ∀ i x, i < j → od[i]? = some x → (backL n od j)[x.toNat]? = some (i : Int)
  | 0, _, i, x, hi, _ => by omega
  | j + 1, hj, i, x, hi, hx => by
    obtain ⟨y, hy⟩ : ∃ y, od[j]? = some y := ⟨_, List.getElem?_eq_getElem (by have := (allB_iff.1 h).1; omega)⟩
    have hxb := allB_mem h x (List.mem_of_getElem? hx)
    have hyb := allB_mem h y (List.mem_of_getElem? hy)
    rw [backL_succ hy, List.getElem?_set]
    by_cases e : y.toNat = x.toNat
    · have exy : y = x := by omega
      subst exy
      have := order_inj h hx hy
      subst this
      rw [if_pos rfl, if_pos (by rw [backL_length]; omega)]
    · rw [if_neg e]
      have hij : i ≠ j := fun e2 => by subst e2; rw [hx] at hy; cases hy; exact e rfl
      exact backL_at h j (by omega) i x (by omega) hx
theorem cnt_ge {od : List Int} : ∀ n : Nat, (∀ i : Nat, i < n → 1 ≤ od.count (i : Int)) → n ≤ od.countP (inB n) ∧ ∀ k : Nat, k < n → n + (od.count (k : Int) - 1) ≤ od.countP (inB n)
  | 0, _ => ⟨by omega, fun k hk => by omega⟩
  | n + 1, h => by
    obtain ⟨h1, h2⟩ := cnt_ge n (fun i hi => h i (by omega))
    have h3 := h n (by omega)
    rw [cnt_succ]
    refine ⟨by omega, fun k hk => ?_⟩
    by_cases e : k = n
    · subst e; omega
    · have := h2 k (by omega); omega
theorem allB_of {od : List Int} {n : Nat} (hl : od.length = n) (h : ∀ i : Nat, i < n → (i : Int) ∈ od) : allB od n = true := by
  refine allB_iff.2 ⟨hl, fun k hk => ?_⟩
  have h1 := cnt_ge (od := od) n (fun i hi => List.one_le_count_iff.2 (h i hi))
  have h2 := h1.2 k hk
  have h3 := List.countP_le_length (p := inB n) (l := od)
  have h4 : 1 ≤ od.count (k : Int) := List.one_le_count_iff.2 (h k hk)
  omega
theorem backL_all {od : List Int} {n : Nat} (h : allB od n = true) : allB (backL n od n) n = true := by
  refine allB_of (backL_length n od n) (fun i hi => ?_)
  obtain ⟨x, hx⟩ : ∃ x, od[i]? = some x := ⟨_, List.getElem?_eq_getElem (by have := (allB_iff.1 h).1; omega)⟩
  exact List.mem_of_getElem? (backL_at h n (Nat.le_refl _) i x hi hx)
theorem odF_back {l : List Fd} {od : List Int} (h : allB od l.length = true) : odF (odF l od) (backL l.length od l.length) = l := by
  have hm := allB_mem h
  have hlo : (odF l od).length = l.length := by rw [odF_length hm]; exact (allB_iff.1 h).1
  have hb := backL_all h
  have hbm := allB_mem hb
  have hbm' : ∀ x ∈ backL l.length od l.length, 0 ≤ x ∧ x < (odF l od).length := fun x hx => by rw [hlo]; exact hbm x hx
  apply List.ext_getElem?
  intro j
  by_cases hj : j < l.length
  · -- where j stands in the order
    have hin : (j : Int) ∈ od := List.one_le_count_iff.1 (by rw [(allB_iff.1 h).2 j hj]; omega)
    obtain ⟨i, hi⟩ := List.mem_iff_getElem?.1 hin
    have hil : i < l.length := by have := (List.getElem?_eq_some_iff.1 hi).1; have := (allB_iff.1 h).1; omega
    have hbj : (backL l.length od l.length)[j]? = some (i : Int) := by
      have := backL_at h l.length (Nat.le_refl _) i j hil hi
      simpa using this
    rw [odF_at hbm' j i hbj]
    rw [show ((i : Int)).toNat = i by omega, odF_at hm i j hi]
    simp
  · rw [List.getElem?_eq_none (by rw [odF_length hbm', backL_length]; omega), List.getElem?_eq_none (by omega)]

def cOd (od : List Int) : Ch := ⟨5, [], ⟨[], 0, 0⟩, 0, 0, ⟨#[]⟩, od⟩
def cRn (nm to : List UInt8) : Ch := ⟨3, nm, ⟨to, 0, 0⟩, 0, 0, ⟨#[]⟩, []⟩
theorem mk_od {l : List Fd} {od : List Int} (h : mkE l (cOd od) = 0) : allB od l.length = true ∧ (mkT l (cOd od)).nw = odF l od := by
  have hf := mkE_facts h
  have ho := hf.2.2.2.2.2.2.1
  refine ⟨?_, by rw [mkT_ok h]; rfl⟩
  unfold noOrd at ho
  have e5 : (cOd od).op = 5 := rfl
  rw [e5] at ho
  simpa [cOd] using ho
theorem od_back {l : List Fd} {od : List Int} (h : mkE l (cOd od) = 0) : mkE (mkT l (cOd od)).nw (cOd (backL l.length od l.length)) = 0 ∧ (mkT (mkT l (cOd od)).nw (cOd (backL l.length od l.length))).nw = l := by
  obtain ⟨hab, hn⟩ := mk_od h
  have hr := mkE_facts h
  have hr2 : rightL (odF l od) = true := by have := (newC_right h).2; exact this
  have hlo : (odF l od).length = l.length := by rw [odF_length (allB_mem hab)]; exact (allB_iff.1 hab).1
  rw [hn]
  have e : newC (odF l od) (cOd (backL l.length od l.length)) = l := odF_back hab
  have hE : mkE (odF l od) (cOd (backL l.length od l.length)) = 0 := by
    rw [mkE_form hr2 (by show (1 : Int) ≤ 5; omega) (by show (5 : Int) ≤ 5; omega) (fun _ h4 => absurd (show (5 : Int) ≤ 4 from h4) (by omega)), e, hr.1]
    have h1 : noCast (odF l od) (cOd (backL l.length od l.length)) (findN (odF l od) (cOd (backL l.length od l.length)).nm) (odF l od).length = false := by unfold noCast; simp [cOd]
    have h2 : noAdd (cOd (backL l.length od l.length)) = false := by unfold noAdd; simp [cOd]
    have h3 : noOrd (odF l od) (cOd (backL l.length od l.length)) = false := by
      unfold noOrd; rw [hlo]; show (_ && !allB (backL l.length od l.length) l.length) = false; rw [backL_all hab]; simp
    rw [h1, h2, h3]; rfl
  exact ⟨hE, by rw [mkT_ok hE]; exact e⟩

/-! ### renamed -/
theorem find_first {l : List Fd} {f : Fd} (hf : l[0]? = some f) : findN l f.nm = some 0 := findN_some hf rfl (fun j hj => absurd hj (by omega))
theorem newC_rn {l : List Fd} {f : Fd} (hf : l[0]? = some f) (to : List UInt8) : newC l (cRn f.nm to) = l.set 0 ⟨to, f.k, f.g⟩ := by
  unfold newC
  rw [if_neg (by show ¬ (3 : Int) = 1; omega), if_neg (by show ¬ (3 : Int) = 5; omega)]
  have hk : findN l (cRn f.nm to).nm = some 0 := find_first hf
  rw [hk, newF_set (by show ¬ (3 : Int) = 2; omega) hf, ed3 rfl]; rfl
theorem mkE_rn {l : List Fd} {f : Fd} (hr : rightL l = true) (hf : l[0]? = some f) (to : List UInt8) : mkE l (cRn f.nm to) = if rightL (l.set 0 ⟨to, f.k, f.g⟩) then 0 else 80 := by
  have hk : findN l (cRn f.nm to).nm = some 0 := find_first hf
  rw [mkE_form hr (by show (1 : Int) ≤ 3; omega) (by show (3 : Int) ≤ 5; omega) (fun _ _ => by rw [hk]; simp), newC_rn hf]
  have h1 : noCast l (cRn f.nm to) (findN l (cRn f.nm to).nm) l.length = false := by unfold noCast; simp [cRn]
  have h2 : noAdd (cRn f.nm to) = false := by unfold noAdd; simp [cRn]
  have h3 : noOrd l (cRn f.nm to) = false := by unfold noOrd; simp [cRn]
  rw [h1, h2, h3]; rfl
/-- The first field renamed: the fields are right, where that is a name, and no other field has it. -/
theorem rn_right {l : List Fd} {f : Fd} (hr : rightL l = true) (hf : l[0]? = some f) {to : List UInt8} (hn : nameB to = true) (hno : ∀ i, findN l to = some i → i = 0) : rightL (l.set 0 ⟨to, f.k, f.g⟩) = true := by
  obtain ⟨h16, hall⟩ := rightL_iff.1 hr
  have hl0 := (List.getElem?_eq_some_iff.1 hf).1
  have hset : ∀ i, (l.set 0 ⟨to, f.k, f.g⟩)[i]? = if i = 0 then some ⟨to, f.k, f.g⟩ else l[i]? := fun i => by
    rw [List.getElem?_set]
    by_cases e : 0 = i
    · subst e; rw [if_pos rfl, if_pos hl0, if_pos rfl]
    · rw [if_neg e, if_neg (fun h => e h.symm)]
  refine rightL_iff.2 ⟨by rw [List.length_set]; exact h16, fun i g hg => ?_⟩
  have hg2 := hg
  rw [hset] at hg2
  by_cases e : i = 0
  · subst e
    rw [if_pos rfl] at hg2
    cases hg2
    exact ⟨hn, (hall 0 f hf).2.1, find_first hg⟩
  · rw [if_neg e] at hg2
    obtain ⟨a1, a2, a3⟩ := hall i g hg2
    refine ⟨a1, a2, findN_some hg rfl (fun j hj f' hf' => ?_)⟩
    rw [hset] at hf'
    by_cases ej : j = 0
    · subst ej
      rw [if_pos rfl] at hf'
      cases hf'
      intro e2
      have e3 : to = g.nm := e2
      rw [← e3] at a3
      exact e (hno i a3)
    · rw [if_neg ej] at hf'
      obtain ⟨f0, h1, h2, h3⟩ := findN_get a3
      exact h3 j hj f' hf'
theorem rn_back {l : List Fd} {f : Fd} (hr : rightL l = true) (hf : l[0]? = some f) {to : List UInt8} (h : mkE l (cRn f.nm to) = 0) :
    (mkT l (cRn f.nm to)).nw = l.set 0 ⟨to, f.k, f.g⟩ ∧ mkE (l.set 0 ⟨to, f.k, f.g⟩) (cRn to f.nm) = 0 ∧ (mkT (l.set 0 ⟨to, f.k, f.g⟩) (cRn to f.nm)).nw = l := by
  have hl0 := (List.getElem?_eq_some_iff.1 hf).1
  have hr2 : rightL (l.set 0 ⟨to, f.k, f.g⟩) = true := by
    have := (newC_right h).2; rwa [newC_rn hf] at this
  have hf2 : (l.set 0 ⟨to, f.k, f.g⟩)[0]? = some ⟨to, f.k, f.g⟩ := by rw [List.getElem?_set, if_pos rfl, if_pos hl0]
  have e : (l.set 0 ⟨to, f.k, f.g⟩).set 0 ⟨f.nm, f.k, f.g⟩ = l := by
    rw [List.set_set]
    apply List.ext_getElem?
    intro j
    rw [List.getElem?_set]
    by_cases ej : 0 = j
    · subst ej; rw [if_pos rfl, if_pos hl0, hf]
    · rw [if_neg ej]
  have hE : mkE (l.set 0 ⟨to, f.k, f.g⟩) (cRn to f.nm) = 0 := by
    have := mkE_rn hr2 hf2 f.nm
    rw [e, hr] at this
    exact this
  refine ⟨by rw [mkT_ok h]; exact newC_rn hf to, hE, ?_⟩
  rw [mkT_ok hE]
  exact (newC_rn hf2 f.nm).trans e
theorem rn_no {l : List Fd} {f : Fd} (hr : rightL l = true) (hf : l[0]? = some f) {to : List UInt8} (h : mkE l (cRn f.nm to) ≠ 0) : nameB to = true → 0 < findI l to := by
  intro hn
  rw [mkE_rn hr hf] at h
  cases hfn : findN l to with
  | none => exact absurd (by rw [rn_right hr hf hn (fun i e => by rw [hfn] at e; cases e)]; rfl) h
  | some i =>
    rw [findI_some hfn]
    by_cases e : i = 0
    · exact absurd (by rw [rn_right hr hf hn (fun j e2 => by rw [hfn] at e2; cases e2; exact e)]; rfl) h
    · omega
end Go.Proofs.Ytjodbopnibdolaa

namespace Go.Proofs.Ytjodbopnibdolaa
open Go.RowKit
set_option linter.unusedVariables false
set_option linter.unusedSimpArgs false

def crCells (p : Ch × Value) : List Value := [.int .i64 p.1.op, .string (bs p.1.nm), .string (bs p.1.to.nm), .int .i64 p.1.to.k, .int .i64 p.1.to.g, .int .i64 p.1.dk, .int .u64 p.1.dn, .string p.1.dt, p.2]
def cellsCr (l : List (Ch × Value)) : List Value := (l.map crCells).flatten
theorem cellsCr_length (l : List (Ch × Value)) : (cellsCr l).length = l.length * 9 := by
  induction l with
  | nil => rfl
  | cons o os ih => have : cellsCr (o :: os) = crCells o ++ cellsCr os := rfl; rw [this, List.length_append, ih]; simp [crCells]; omega
theorem cellsCr_get : ∀ (os : List (Ch × Value)) (i : Nat) (h : i < os.length), ∀ j, j < 9 → (cellsCr os)[i * 9 + j]? = (crCells os[i])[j]? := by
  intro os
  induction os with
  | nil => intro i h; simp at h
  | cons x os ih =>
    intro i h j hj
    have e : cellsCr (x :: os) = crCells x ++ cellsCr os := rfl
    have hl : (crCells x).length = 9 := rfl
    rw [e]
    cases i with
    | zero => rw [List.getElem?_append_left (by omega), Nat.zero_mul, Nat.zero_add]; rfl
    | succ i =>
      rw [List.getElem?_append_right (by omega), hl, show (i + 1) * 9 + j - 9 = i * 9 + j by omega]
      exact ih i (by simpa using h) j hj
def OwC (w : World) (base : Nat) (v : Value) (l : List (Ch × Value)) : Prop := w.ownsRow base 40 9 v l.length (cellsCr l)
theorem OwC.nil (w : World) (base : Nat) : OwC w base (.slice none 0 0) [] := World.ownsRow_nil _ _ _ _
section
variable {w w' : World} {base : Nat} {v : Value} {l : List (Ch × Value)}
theorem OwC.on (h : OwC w base v l) (hb : Below w.heap.size w w') : OwC w' base v l := by
  refine ⟨h.1, ?_⟩
  rcases h.2 with h1 | ⟨g, cap, cur, hv, hbase, hg, h3⟩
  · exact .inl h1
  · exact .inr ⟨g, cap, cur, hv, hbase, (hb.block g (row_lt hg)).trans hg, h3⟩
theorem OwC.row (h : OwC w base v l) : ∀ j, v.ownBlock = some j → base ≤ j := by
  intro j hj
  rcases h.2 with ⟨e, _⟩ | ⟨g, cap, cur, e, hbase, _⟩
  · rw [e] at hj; simp [Value.ownBlock] at hj
  · rw [e] at hj; simp [Value.ownBlock] at hj; omega
theorem OwC.shape (h : OwC w base v l) : ∃ A n c, v = .slice A n c := by
  rcases h.2 with ⟨e, _⟩ | ⟨g, cap, cur, e, _⟩
  · exact ⟨_, _, _, e⟩
  · exact ⟨_, _, _, e⟩
theorem OwC.rd (h : OwC w base v l) (hx : ∀ p ∈ l, (I64 p.1.op ∧ I64 p.1.to.k ∧ I64 p.1.to.g ∧ I64 p.1.dk ∧ U64 p.1.dn) ∧ ∃ A n c, p.2 = .slice A n c ∧ RdI w w.heap.size A n c p.1.od) : ∃ A cap, v = .slice A l.length cap ∧ RdC w w.heap.size A l.length cap (l.map Prod.fst) := by
  rcases h.2 with ⟨rfl, hn⟩ | ⟨g, cap, cur, rfl, hbase, hg, hnc, hm, hs, hl⟩
  · have : l = [] := List.eq_nil_of_length_eq_zero hn
    subst this
    exact ⟨none, 0, rfl, rfl, by simp, by simp [maxLen], by simp, fun h => by simp at h⟩
  · refine ⟨some ⟨g, 0, none⟩, cap, rfl, by simp, hnc, hm, fun c hc => ?_, fun hn => ⟨g, 0, rfl, row_lt hg, fun i hi => ?_⟩⟩
    · obtain ⟨p, hp, rfl⟩ := List.mem_map.1 hc
      exact (hx p hp).1
    · have hi' : i < l.length := by simpa using hi
      obtain ⟨_, A, n, c, e, hr⟩ := hx l[i] (List.getElem_mem hi')
      have t : ∀ j, j < 9 → w.cell? ⟨g, 0 + i * 9 + j, none⟩ = (crCells l[i])[j]? := fun j hj => by
        rw [row_cell hg, Nat.zero_add, ← cellsCr_get l i hi' j hj, ← hl, List.getElem?_take_of_lt (by omega), Array.getElem?_toList]
      refine ⟨A, n, c, ?_, by simpa using hr⟩
      have t8 := t 8 (by omega)
      simp only [List.getElem_map]
      exact ⟨t 0 (by omega), t 1 (by omega), t 2 (by omega), t 3 (by omega), t 4 (by omega), t 5 (by omega), t 6 (by omega), t 7 (by omega), by rw [t8]; exact congrArg some e⟩
end
theorem infoCh : (Try.prog.info? 40).map (fun i => (i.zero, i.size, i.bytes)) = some (some (.agg #[.int .i64 0, .string ⟨#[]⟩, .string ⟨#[]⟩, .int .i64 0, .int .i64 0, .int .i64 0, .int .u64 0, .string ⟨#[]⟩, .slice none 0 0]), 9, 112) := by kernel_rfl
def chObj (c : Ch) (A : Option Addr) (n cp : Nat) (ty : TypeId) : Obj := .cells #[.int .i64 c.op, .string (bs c.nm), .string (bs c.to.nm), .int .i64 c.to.k, .int .i64 c.to.g, .int .i64 c.dk, .int .u64 c.dn, .string c.dt, .slice A n cp] ty
theorem run_appCh {w : World} {base : Nat} {v : Value} {l : List (Ch × Value)} (h : OwC w base v l) (c : Ch) (A : Option Addr) (n cp : Nat) (hlen : l.length ≤ 1000000) (hb : base ≤ w.heap.size) (ty : TypeId) :
    ∃ v' w', (Builtin.append_ #[58, 58] ty #[v, .slice (some ⟨w.heap.size, 0, none⟩) 1 1]).run Try.prog (w.alloc (chObj c A n cp 40)) = .ok v' w' ∧ OwC w' base v' (l ++ [(c, .slice A n cp)]) ∧ (w.alloc (chObj c A n cp 40)).grownBy w' v.ownBlock := by
  have hi8 := infoCh
  have hk : Below w.heap.size w (w.alloc (chObj c A n cp 40)) := B1 _ _
  cases hi : Try.prog.info? 40 with
  | none => rw [hi] at hi8; cases hi8
  | some i =>
    rw [hi] at hi8
    simp only [Option.map_some, Option.some.injEq, Prod.mk.injEq] at hi8
    obtain ⟨hz, hsz, hby⟩ := hi8
    obtain ⟨v', W', hr, ho, hg, hnil⟩ := run_append_own (P := Try.prog) (w.alloc (chObj c A n cp 40)) base 58 ty 40 i _ 9 112 Try.underlying58 hi hz hsz hby rfl (by omega) v l.length (cellsCr l) (h.on hk) ⟨w.heap.size, 0, none⟩ 1 1 (crCells (c, .slice A n cp)) rfl (fun j u hj => by
      unfold chObj
      rw [add_plain, Nat.zero_add, row_cell (heap_alloc_new w _)]
      match j, hj with | 0, h => exact h | 1, h => exact h | 2, h => exact h | 3, h => exact h | 4, h => exact h | 5, h => exact h | 6, h => exact h | 7, h => exact h | 8, h => exact h) (by intro u hu; simp [crCells] at hu; rcases hu with rfl | rfl | rfl | rfl | rfl | rfl | rfl | rfl | rfl <;> rfl) (by unfold maxLen; omega) (by omega) (Nat.le_trans hb hk.size)
    refine ⟨v', W', hr, ?_, hg⟩
    unfold OwC
    have e : cellsCr (l ++ [(c, .slice A n cp)]) = cellsCr l ++ crCells (c, .slice A n cp) := by simp [cellsCr]
    rw [List.length_append, e]; exact ho

/-- What own has made so far. -/
def OwnSt (w W : World) (cs : List Ch) (j : Nat) (v : Value) : Prop := ∃ ps : List (Ch × Value), ps.map Prod.fst = cs.take j ∧ (∀ p ∈ ps, ∃ A n c, p.2 = .slice A n c ∧ RdI w w.heap.size A n c p.1.od) ∧ OwC W w.heap.size v ps ∧ Below w.heap.size w W
set_option maxHeartbeats 4000000 in
theorem own_any {w : World} {Ac : Option Addr} {m mc : Nat} {cs : List Ch} (hcs : RdC w w.heap.size Ac m mc cs) (hm : m ≤ 1000000) :
    Calls Try.prog 21 #[.slice Ac m mc] w fun e w' => ∃ A n c, e = .returned (.slice A n c) ∧ RdC w' w'.heap.size A n c cs ∧ Below w.heap.size w w' := by
  have HM := hid hcs.1
  have hmm : (m : Int) ≤ 1000000 := by omega
  have HX : Hid (∀ c ∈ cs, I64 c.op ∧ I64 c.to.k ∧ I64 c.to.g ∧ I64 c.dk ∧ U64 c.dn) := hid hcs.2.2.2.1
  have HC := hid hcs; clear hcs
  go_enter Try.func21, Try.ntmps21
  go_wp2_with fail
  go_loopw [3, 8] (fun s i wr => ∃ (j : Nat), j ≤ m ∧ i = .int .i64 j ∧ Hid (OwnSt w wr cs j s)) (fun _ i _ => m - (intOf i).toNat)
  case atStart => exact ⟨0, by omega, rfl, hid ⟨[], rfl, by simp, OwC.nil _ _, B0 w⟩⟩
  case round =>
    obtain ⟨j, hj, rfl, ⟨ps, hps, hrd, how, hbl⟩⟩ := hrel
    obtain ⟨A0, n0, c0, rfl⟩ := how.shape
    by_cases hlt : j < m
    · obtain ⟨c, hc⟩ : ∃ c, cs[j]? = some c := ⟨_, List.getElem?_eq_getElem (by have := HM.out; omega)⟩
      obtain ⟨_, _, b, off, Ao, no, co, rfl, hcc, hod⟩ := HC.out.at hc
      obtain ⟨d0, d1, d2, d3, d4, d5, d6, d7, d8⟩ := hcc wr hbl
      have hji : (j : Int) < m := by omega
      have hj0 : (0 : Int) ≤ j := by omega
      obtain ⟨p, hp⟩ : ∃ p, p = wr.heap.size := ⟨_, rfl⟩
      obtain ⟨w3, hw3⟩ : ∃ w3, w3 = wr.alloc (.cells #[.int .i64 c.op, .string (bs c.nm), .string (bs c.to.nm), .int .i64 c.to.k, .int .i64 c.to.g, .int .i64 c.dk, .int .u64 c.dn, .string c.dt, .slice Ao no co] 30) := ⟨_, rfl⟩
      have HP := hid hp; have HW3 := hid hw3
      have HCB : Hid (CB w3 p c Ao no co 30) := by rw [hw3, hp]; exact hid (CB.new wr c Ao no co _)
      have hb3 : Below wr.heap.size wr w3 := by rw [hw3]; exact B1 _ _
      have hlen : ps.length ≤ 1000000 := by have := congrArg List.length hps; rw [List.length_map, List.length_take] at this; omega
      obtain ⟨v', w4, hrun, hown, hgr⟩ := run_appCh (how.on hb3) c Ao no co hlen (Nat.le_trans hbl.size hb3.size) 58
      have hbl4 : Below w.heap.size w w4 := Below.grown ((hbl.trans (hb3.mono hbl.size)).trans ((B1 w3 (chObj c Ao no co 40)).mono (Nat.le_trans hbl.size hb3.size))) hgr (by have := hbl.size; have := hb3.size; simp; omega) (fun i e => how.row i e)
      have HRUN := hid hrun
      have HST : Hid (OwnSt w w4 cs (j + 1) v') := hid ⟨ps ++ [(c, .slice Ao no co)], by rw [List.map_append, hps, List.take_add_one, hc]; rfl, fun q hq => by
        rw [List.mem_append] at hq
        rcases hq with hq | hq
        · exact hrd q hq
        · simp at hq; subst hq; exact ⟨_, _, _, rfl, hod⟩, hown, hbl4⟩
      unfold chObj at HRUN
      clear hcc hod hc hp hw3 hrun hown hgr hbl4 hlen hb3 hps hrd how hbl
      go_upto_region 5 with fail
      rw [← HW3.out, ← HP.out]
      clear d0 d1 d2 d3 d4 d5 d6 d7 d8
      obtain ⟨y0, y1, y2, y3, y4, y5, y6, y7, y8⟩ := HCB.out.cells
      go_wp2_with (at_builtin; refine wpList_appG rfl _ _ rfl rfl rfl HRUN.out ?_)
      exact ⟨⟨j + 1, by omega, by go_num, HST⟩, by simp [intOf]; omega⟩
    · obtain rfl : j = m := by omega
      have et : cs.take j = cs := by rw [← HM.out]; exact List.take_length
      rw [et] at hps
      have HR : Hid (∃ A n c, Value.slice A0 n0 c0 = .slice A n c ∧ RdC wr wr.heap.size A n c cs) := hid (by
        obtain ⟨A, cap, e, hr⟩ := how.rd (fun p hp => by
          obtain ⟨A, n, c, e, hri⟩ := hrd p hp
          refine ⟨HX.out p.1 (by rw [← hps]; exact List.mem_map.2 ⟨p, hp, rfl⟩), A, n, c, e, hri.on hbl⟩)
        rw [hps] at hr
        exact ⟨_, _, _, e, hr⟩)
      have HBL := hid hbl
      clear hps hrd how hbl et
      go_wp2_with fail
      go_ret
      obtain ⟨A, n, c, e, hr⟩ := HR.out
      cases e
      exact ⟨_, _, _, rfl, hr, HBL.out⟩
end Go.Proofs.Ytjodbopnibdolaa
