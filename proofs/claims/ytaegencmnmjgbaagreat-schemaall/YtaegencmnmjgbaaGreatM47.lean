/-
  What was set is got, no other field is another one; a new object has zero values: mathematics.
  The document's Object of layer 7.
  Objects by their values, and what a table makes of them: mathematics.
  Of a chain of changes: it is right, of the first fields, and what no change names keeps its value: mathematics.
  Types, version upon version (layer 9): mathematics.
-/
import Derived.Test.YtaegencmnmjgbaaGreatM19
import Derived.Test.YtaegencmnmjgbaaGreatM16
import Derived.Test.YtaegencmnmjgbaaGreatM18
import Derived.Test.YtaegencmnmjgbaaGreatM34
import Derived.Test.YtaegencmnmjgbaaGreatM44
import Derived.Test.YtaegencmnmjgbaaGreatM46

namespace Go.Proofs.YtaegencmnmjgbaaGreat
open Go.RowKit
set_option linter.unusedVariables false
theorem decR_encB {vk n : Int} {t : ByteArray} {k g : Int} (hn : U64 n) (hr : rightF vk n t.size k g = true) : decR (encB vk n t k g) k g = .tuple #[.agg #[.int .i64 vk, .int .u64 n, .string t], .int .i64 0] := by
  have h := (dec_enc hn hr).1
  rw [ByteArray.toList_eq] at h
  exact h
theorem part_same {s E : List UInt8} {a : Nat} (h : a + E.length ≤ s.length) : ((setL s a E).drop a).take E.length = E := by
  unfold setL splice
  have e : (s.take a).length = a := by rw [List.length_take]; omega
  rw [List.drop_append_of_le_length (by omega), List.drop_of_length_le (by omega), List.nil_append, List.take_left']
  rfl
theorem part_get {s E : List UInt8} {a : Nat} (h : a + E.length ≤ s.length) {i : Nat} (hi : i < a ∨ a + E.length ≤ i) : (setL s a E)[i]? = s[i]? := by
  unfold setL splice
  have e : (s.take a).length = a := by rw [List.length_take]; omega
  rcases hi with hi | hi
  · rw [List.getElem?_append_left (by omega), List.getElem?_take_of_lt hi]
  · rw [List.getElem?_append_right (by omega), e, List.getElem?_append_right (by omega), List.getElem?_drop]
    congr 1; omega
theorem part_other {s E : List UInt8} {a b m : Nat} (h : a + E.length ≤ s.length) (hd : b + m ≤ a ∨ a + E.length ≤ b) : ((setL s a E).drop b).take m = (s.drop b).take m := by
  refine List.ext_getElem? fun i => ?_
  by_cases hi : i < m
  · rw [List.getElem?_take_of_lt hi, List.getElem?_take_of_lt hi, List.getElem?_drop, List.getElem?_drop]
    exact part_get h (by omega)
  · rw [List.getElem?_eq_none (by rw [List.length_take]; omega), List.getElem?_eq_none (by rw [List.length_take]; omega)]
section
variable {s : List UInt8} {l : List Fd} {i j : Nat} {f f' : Fd} {p q : Int} {vk n : Int} {t : ByteArray}
theorem set_fits (hr : rightL l = true) (hs : (s.length : Int) = layN l) (hi : l[i]? = some f) (hp : (layP 0 l)[i]? = some p) (hv : rightF vk n t.size f.k f.g = true) : p.toNat + (encB vk n t f.k f.g).length ≤ s.length := by
  have h1 := lay_in hr hi hp
  have h2 := encB_length hv
  have h3 : f.long = longF f.k f.g := rfl
  omega
theorem set_length (hr : rightL l = true) (hs : (s.length : Int) = layN l) (hi : l[i]? = some f) (hp : (layP 0 l)[i]? = some p) (hv : rightF vk n t.size f.k f.g = true) : (setL s p.toNat (encB vk n t f.k f.g)).length = s.length := setL_length _ _ _ (set_fits hr hs hi hp hv)
theorem get_set_same (hr : rightL l = true) (hs : (s.length : Int) = layN l) (hi : l[i]? = some f) (hp : (layP 0 l)[i]? = some p) (hn : U64 n) (hv : rightF vk n t.size f.k f.g = true) :
    getR (setL s p.toNat (encB vk n t f.k f.g)) l f.nm = .tuple #[.agg #[.int .i64 vk, .int .u64 n, .string t], .int .i64 0] := by
  have hf := ((rightL_iff.1 hr).2 i f hi).2.2
  rw [getR_some ⟨hr, by rw [set_length hr hs hi hp hv]; exact hs⟩ hf hi hp]
  have h2 := encB_length hv
  have h3 : f.long.toNat = (encB vk n t f.k f.g).length := by show (longF f.k f.g).toNat = _; omega
  rw [h3, part_same (set_fits hr hs hi hp hv)]
  exact decR_encB hn hv
theorem get_set_other (hr : rightL l = true) (hs : (s.length : Int) = layN l) (hi : l[i]? = some f) (hp : (layP 0 l)[i]? = some p) (hv : rightF vk n t.size f.k f.g = true) (hj : l[j]? = some f') (hij : j ≠ i) :
    getR (setL s p.toNat (encB vk n t f.k f.g)) l f'.nm = getR s l f'.nm := by
  have hf := ((rightL_iff.1 hr).2 j f' hj).2.2
  obtain ⟨q, hq⟩ : ∃ q, (layP 0 l)[j]? = some q := ⟨_, layP_get hj 0⟩
  rw [getR_some ⟨hr, by rw [set_length hr hs hi hp hv]; exact hs⟩ hf hj hq, getR_some ⟨hr, hs⟩ hf hj hq]
  have h2 := encB_length hv
  have h3 : f.long = longF f.k f.g := rfl
  have a1 := lay_in hr hi hp
  have a2 := lay_in hr hj hq
  have a3 := long_pos (right_may hr f' (List.mem_of_getElem? hj))
  rw [part_other (set_fits hr hs hi hp hv)]
  rcases Nat.lt_or_ge j i with c | c
  · have := lay_apart hr hj hi c hq hp
    exact .inl (by omega)
  · have := lay_apart hr hi hj (by omega) hp hq
    exact .inr (by omega)
end
end Go.Proofs.YtaegencmnmjgbaaGreat

namespace Go.Proofs.YtaegencmnmjgbaaGreat
open Go.RowKit
set_option linter.unusedVariables false
set_option linter.unusedSimpArgs false
structure Va where
  k : Int
  n : Int
  t : ByteArray
def objS (l : List Fd) (vs : List Va) : Nat → List UInt8
  | 0 => List.replicate (layT l).toNat 0
  | k + 1 => match l[k]?, vs[k]? with
    | some f, some v => (setS6 (objS l vs k) l f.nm v.k v.n v.t).1
    | _, _ => objS l vs k
theorem objS_succ {l : List Fd} {vs : List Va} {k : Nat} {f : Fd} {v : Va} (hf : l[k]? = some f) (hv : vs[k]? = some v) : objS l vs (k + 1) = (setS6 (objS l vs k) l f.nm v.k v.n v.t).1 := by
  show (match l[k]?, vs[k]? with | some f, some v => _ | _, _ => _) = _
  rw [hf, hv]
end Go.Proofs.YtaegencmnmjgbaaGreat

namespace Go.Proofs.YtaegencmnmjgbaaGreat
open Go.RowKit
set_option linter.unusedVariables false
set_option linter.unusedSimpArgs false
def okV (l : List Fd) (vs : List Va) : Prop := l.length ≤ vs.length ∧ ∀ (i : Nat) f v, l[i]? = some f → vs[i]? = some v → rightF v.k v.n v.t.size f.k f.g = true ∧ U64 v.n
theorem okV.at {l : List Fd} {vs : List Va} (h : okV l vs) {i : Nat} {f : Fd} (hf : l[i]? = some f) : ∃ v, vs[i]? = some v ∧ rightF v.k v.n v.t.size f.k f.g = true ∧ U64 v.n := by
  have hi := (List.getElem?_eq_some_iff.1 hf).1
  obtain ⟨v, hv⟩ : ∃ v, vs[i]? = some v := ⟨_, List.getElem?_eq_getElem (by have := h.1; omega)⟩
  exact ⟨v, hv, h.2 i f v hf hv⟩
theorem layT_layN {l : List Fd} (hr : rightL l = true) : layT l = layN l := layT_right hr
theorem objS_len {l : List Fd} {vs : List Va} (hr : rightL l = true) (h : okV l vs) : ∀ k, k ≤ l.length → ((objS l vs k).length : Int) = layN l
  | 0, _ => by
    have := layN_bounds hr
    show ((List.replicate (layT l).toNat (0 : UInt8)).length : Int) = _
    rw [List.length_replicate, layT_layN hr]; omega
  | k + 1, hk => by
    obtain ⟨f, hf⟩ : ∃ f, l[k]? = some f := ⟨_, List.getElem?_eq_getElem (by omega)⟩
    obtain ⟨v, hv, hvr, _⟩ := h.at hf
    obtain ⟨p, hp⟩ : ∃ p, (layP 0 l)[k]? = some p := ⟨_, layP_get hf 0⟩
    have ih := objS_len hr h k (by omega)
    have hfi := ((rightL_iff.1 hr).2 k f hf).2.2
    rw [objS_succ hf hv, set_some ⟨hr, ih⟩ hfi hf hp, if_pos hvr]
    show ((setL _ _ _).length : Int) = _
    rw [set_length hr ih hf hp hvr]; exact ih
theorem objS_set {l : List Fd} {vs : List Va} (hr : rightL l = true) (h : okV l vs) {k : Nat} {f : Fd} {v : Va} (hf : l[k]? = some f) (hv : vs[k]? = some v) : setS6 (objS l vs k) l f.nm v.k v.n v.t = (objS l vs (k + 1), 0) := by
  obtain ⟨p, hp⟩ : ∃ p, (layP 0 l)[k]? = some p := ⟨_, layP_get hf 0⟩
  have hk := (List.getElem?_eq_some_iff.1 hf).1
  have ih := objS_len hr h k (by omega)
  have hfi := ((rightL_iff.1 hr).2 k f hf).2.2
  have hvr := (h.2 k f v hf hv).1
  rw [objS_succ hf hv, set_some ⟨hr, ih⟩ hfi hf hp, if_pos hvr]
theorem objS_get {l : List Fd} {vs : List Va} (hr : rightL l = true) (h : okV l vs) : ∀ k, k ≤ l.length → ∀ i f v, i < k → l[i]? = some f → vs[i]? = some v → getR (objS l vs k) l f.nm = .tuple #[.agg #[.int .i64 v.k, .int .u64 v.n, .string v.t], .int .i64 0]
  | 0, _, i, _, _, hi, _, _ => by omega
  | k + 1, hk, i, f, v, hi, hf, hv => by
    obtain ⟨g, hg⟩ : ∃ g, l[k]? = some g := ⟨_, List.getElem?_eq_getElem (by omega)⟩
    obtain ⟨u, hu, hur, hun⟩ := h.at hg
    obtain ⟨p, hp⟩ : ∃ p, (layP 0 l)[k]? = some p := ⟨_, layP_get hg 0⟩
    have hlen := objS_len hr h k (by omega)
    have hfi := ((rightL_iff.1 hr).2 k g hg).2.2
    have e : objS l vs (k + 1) = setL (objS l vs k) p.toNat (encB u.k u.n u.t g.k g.g) := by
      rw [objS_succ hg hu, set_some ⟨hr, hlen⟩ hfi hg hp, if_pos hur]
    rw [e]
    by_cases c : i = k
    · subst c
      rw [hf] at hg; cases hg
      rw [hv] at hu; cases hu
      exact get_set_same hr hlen hf hp hun hur
    · rw [get_set_other hr hlen hg hp hur hf c]
      exact objS_get hr h k (by omega) i f v (by omega) hf hv
def objA (l : List Fd) (vs : List Va) : List UInt8 := objS l vs l.length
theorem objA_len {l : List Fd} {vs : List Va} (hr : rightL l = true) (h : okV l vs) : ((objA l vs).length : Int) = layN l := objS_len hr h _ (Nat.le_refl _)
theorem objA_get {l : List Fd} {vs : List Va} (hr : rightL l = true) (h : okV l vs) {i : Nat} {f : Fd} {v : Va} (hf : l[i]? = some f) (hv : vs[i]? = some v) : getR (objA l vs) l f.nm = .tuple #[.agg #[.int .i64 v.k, .int .u64 v.n, .string v.t], .int .i64 0] :=
  objS_get hr h _ (Nat.le_refl _) i f v (List.getElem?_eq_some_iff.1 hf).1 hf hv
theorem objS_short {l : List Fd} {vs : List Va} (hr : rightL l = true) (h : okV l vs) : ∀ k, (objS l vs k).length ≤ 1160
  | 0 => by
    have h1 := objS_len hr h 0 (by omega); have := layN_bounds hr; omega
  | k + 1 => by
    by_cases c : k + 1 ≤ l.length
    · have h1 := objS_len hr h (k + 1) c; have := layN_bounds hr; omega
    · have e : objS l vs (k + 1) = objS l vs k := by
        show (match l[k]?, vs[k]? with | some f, some v => _ | _, _ => _) = _
        rw [List.getElem?_eq_none (by omega)]
      rw [e]; exact objS_short hr h k
def valF (o : List Fd) (vs : List Va) (m : Mv) (f : Fd) : Va :=
  if m.fr = -1 then ⟨m.k, m.n, m.t⟩ else match vs[m.fr.toNat]?, o[m.fr.toNat]? with
    | some v, some g => ⟨f.k, castN v.n g.k f.k, castT v.t f.k f.g⟩
    | _, _ => ⟨0, 0, ⟨#[]⟩⟩
def valsT (T : Tb) (vs : List Va) : List Va := (T.mv.zip T.nw).map fun p => valF T.o vs p.1 p.2
theorem valsT_get {T : Tb} {vs : List Va} {i : Nat} {m : Mv} {f : Fd} (hm : T.mv[i]? = some m) (hf : T.nw[i]? = some f) : (valsT T vs)[i]? = some (valF T.o vs m f) := by
  unfold valsT; rw [List.getElem?_map, zip_get hm hf]; rfl
theorem valsT_length {T : Tb} (hT : rightT T = true) (vs : List Va) : (valsT T vs).length = T.nw.length := by
  unfold valsT; rw [List.length_map, List.length_zip, (rightT_iff.1 hT).2.2.1, Nat.min_self]
theorem valF_right {T : Tb} {vs : List Va} (hT : rightT T = true) (h : okV T.o vs) (hu : ∀ m ∈ T.mv, U64 m.n) {i : Nat} {m : Mv} {f : Fd} (hm : T.mv[i]? = some m) (hf : T.nw[i]? = some f) : rightF (valF T.o vs m f).k (valF T.o vs m f).n (valF T.o vs m f).t.size f.k f.g = true ∧ U64 (valF T.o vs m f).n := by
  have hb := (rightT_iff.1 hT).2.2.2 i m f hm hf
  unfold valF
  rcases mvB_from hb with e | ⟨g, h0, hg, _, hc⟩
  · rw [if_pos e]
    rw [mvB_new e] at hb
    simp only [Bool.and_eq_true] at hb
    exact ⟨hb.1, hu m (List.mem_of_getElem? hm)⟩
  · rw [if_neg (by omega)]
    obtain ⟨v, hv, hvr, hvn⟩ := h.at hg
    rw [hv, hg]
    exact ⟨(cast_right hvn hvr hc).1, castN_U64 hvn⟩
theorem valsT_ok {T : Tb} {vs : List Va} (hT : rightT T = true) (h : okV T.o vs) (hu : ∀ m ∈ T.mv, U64 m.n) : okV T.nw (valsT T vs) := by
  refine ⟨Nat.le_of_eq (valsT_length hT vs).symm, fun i f v hf hv => ?_⟩
  have hi := (List.getElem?_eq_some_iff.1 hf).1
  obtain ⟨m, hm⟩ : ∃ m, T.mv[i]? = some m := ⟨_, List.getElem?_eq_getElem (by have := (rightT_iff.1 hT).2.2.1; omega)⟩
  rw [valsT_get hm hf] at hv
  cases hv
  exact valF_right hT h hu hm hf
end Go.Proofs.YtaegencmnmjgbaaGreat

namespace Go.Proofs.YtaegencmnmjgbaaGreat
open Go.RowKit
set_option linter.unusedVariables false
set_option linter.unusedSimpArgs false
theorem thr_U64 {a b : Tb} (ha : ∀ m ∈ a.mv, U64 m.n) (hb : ∀ m ∈ b.mv, U64 m.n) : ∀ m ∈ thrL a b, U64 m.n := fun y hy => by
  unfold thrL at hy
  rw [List.mem_map] at hy
  obtain ⟨p, hp, rfl⟩ := hy
  obtain ⟨i, hi⟩ := List.getElem?_of_mem hp
  obtain ⟨h1, h2⟩ := zip_at hi
  have hm := hb _ (List.mem_of_getElem? h1)
  unfold thrM
  by_cases c : 0 ≤ p.1.fr
  · rw [if_pos c]
    cases hx : a.mv[p.1.fr.toNat]? with
    | none => exact hm
    | some x =>
      cases hg : a.nw[p.1.fr.toNat]? with
      | none => exact hm
      | some g =>
        have hxx := ha x (List.mem_of_getElem? hx)
        dsimp only
        by_cases c2 : 0 ≤ x.fr
        · rw [if_pos c2]; exact hxx
        · rw [if_neg c2]; exact castN_U64 hxx
  · rw [if_neg c]; exact hm
theorem mkT_U64 {l : List Fd} {c : Ch} (h : mkE l c = 0) (hc : chOk c) : ∀ m ∈ (mkT l c).mv, U64 m.n := by
  obtain ⟨hr, h1, h5, hk, hcc, ha, ho, hn⟩ := mkE_facts h
  rw [mkT_ok h]
  exact fun m hm => (mvC_ok hc (right_len hr) (fun e => by
    have hab : allB c.od l.length = true := by unfold noOrd at ho; rw [e] at ho; simpa using ho
    exact allB_mem hab) m hm).2.2
theorem all_rightT : ∀ {cs : List Ch} {T R : Tb}, (∀ c ∈ cs, chOk c) → allF T cs = (R, 0) → rightT T = true → (∀ m ∈ T.mv, U64 m.n) → rightT R = true ∧ R.o = T.o ∧ ∀ m ∈ R.mv, U64 m.n
  | [], T, R, _, h, hr, hu => by
    have e : T = R := congrArg Prod.fst h
    rw [← e]; exact ⟨hr, rfl, hu⟩
  | c :: cs, T, R, hc, h, hr, hu => by
    unfold allF at h
    by_cases h0 : mkE T.nw c ≠ 0
    · rw [if_pos h0] at h; exact absurd (congrArg Prod.snd h) h0
    · rw [if_neg h0] at h
      have h0' : mkE T.nw c = 0 := by omega
      cases hcb : compB T (mkT T.nw c) with
      | false => rw [hcb] at h; have := congrArg Prod.snd h; simp at this
      | true =>
        rw [hcb, if_pos rfl] at h
        have hr2 := compT_right hu (compE_ok' hcb)
        have e := compT_ok' hcb
        obtain ⟨g1, g2, g3⟩ := all_rightT (fun c hc' => hc c (List.mem_cons_of_mem _ hc')) h hr2 (by rw [e]; exact thr_U64 hu (mkT_U64 h0' (hc c (by simp))))
        exact ⟨g1, g2.trans (by rw [e]), g3⟩
theorem all8_rightT {l : List Fd} {cs : List Ch} (h : (all8 l cs).2 = 0) (hr : rightL l = true) (hc : ∀ c ∈ cs, chOk c) : rightT (all8 l cs).1 = true ∧ (all8 l cs).1.o = l ∧ ∀ m ∈ (all8 l cs).1.mv, U64 m.n := by
  unfold all8 at h ⊢
  rw [if_pos hr] at h ⊢
  obtain ⟨g1, g2, g3⟩ := all_rightT hc (Prod.ext rfl h) (same_rightT hr) (fun m hm => by
    rw [sameT_right hr] at hm
    obtain ⟨i, hi⟩ := List.getElem?_of_mem hm
    have hl : i < l.length := by
      have := (List.getElem?_eq_some_iff.1 hi).1
      have e : (selfL l.length).length = l.length := selfL_length _
      exact e ▸ this
    rw [show (selfL l.length)[i]? = some (selfM i) from selfL_get hl] at hi
    cases hi
    exact (show U64 0 from ⟨Int.le_refl _, by rw [pw8]; decide⟩))
  exact ⟨g1, g2.trans (by rw [sameT_right hr]), g3⟩
end Go.Proofs.YtaegencmnmjgbaaGreat

namespace Go.Proofs.YtaegencmnmjgbaaGreat
open Go.RowKit
set_option linter.unusedVariables false
set_option linter.unusedSimpArgs false
def ahead (a b : List UInt8) : Bool := Op.bytesLess a b
theorem ahead_cons {x y : UInt8} {a b : List UInt8} : ahead (x :: a) (y :: b) = true ↔ x < y ∨ (x = y ∧ ahead a b = true) := by
  unfold ahead; rw [Op.bytesLess]; simp
theorem ahead_nil {a : List UInt8} : ahead a [] = false := by cases a <;> rfl
theorem ahead_irrefl : ∀ a : List UInt8, ahead a a = false
  | [] => rfl
  | x :: a => by
    cases h : ahead (x :: a) (x :: a) with
    | false => rfl
    | true =>
      rcases ahead_cons.1 h with h1 | ⟨_, h2⟩
      · exact absurd h1 (UInt8.lt_irrefl x)
      · rw [ahead_irrefl a] at h2; cases h2
theorem ahead_trans : ∀ {a b c : List UInt8}, ahead a b = true → ahead b c = true → ahead a c = true
  | [], [], _, h, _ => by cases h
  | [], _ :: _, [], _, h => by rw [ahead_nil] at h; cases h
  | [], _ :: _, _ :: _, _, _ => rfl
  | _ :: _, [], _, h, _ => by rw [ahead_nil] at h; cases h
  | _ :: _, _ :: _, [], _, h => by rw [ahead_nil] at h; cases h
  | x :: a, y :: b, z :: c, h, k => by
    rw [ahead_cons] at h k ⊢
    rcases h with h | ⟨rfl, h⟩
    · rcases k with k | ⟨rfl, k⟩
      · exact .inl (UInt8.lt_trans h k)
      · exact .inl h
    · rcases k with k | ⟨rfl, k⟩
      · exact .inl k
      · exact .inr ⟨rfl, ahead_trans h k⟩
theorem ahead_total : ∀ {a b : List UInt8}, a ≠ b → ahead a b = true ∨ ahead b a = true
  | [], [], h => absurd rfl h
  | [], _ :: _, _ => .inl rfl
  | _ :: _, [], _ => .inr rfl
  | x :: a, y :: b, h => by
    rw [ahead_cons, ahead_cons]
    by_cases e : x = y
    · subst e
      rcases ahead_total (a := a) (b := b) (fun e => h (by rw [e])) with h1 | h1
      · exact .inl (.inr ⟨rfl, h1⟩)
      · exact .inr (.inr ⟨rfl, h1⟩)
    · rcases UInt8.lt_or_lt_of_ne e with h1 | h1
      · exact .inl (.inl h1)
      · exact .inr (.inl h1)
theorem ahead_ne {a b : List UInt8} (h : ahead a b = true) : a ≠ b := fun e => by rw [e, ahead_irrefl] at h; cases h
structure Ty where
  nm : List UInt8
  lo : Int
  fs : List (List Fd)
  ts : List Tb
def Ty.hi (t : Ty) : Int := t.lo + t.fs.length - 1
def Ty.last (t : Ty) : List Fd := t.fs.getLastD []
def findT : List Ty → List UInt8 → Option Nat
  | [], _ => none
  | t :: l, nm => if t.nm = nm then some 0 else (findT l nm).map (· + 1)
def atT (l : List Ty) (nm : List UInt8) : Option Ty := l.find? fun t => decide (t.nm = nm)
def putT : List Ty → Ty → List Ty
  | [], t => [t]
  | x :: l, t => if ahead t.nm x.nm then t :: x :: l else x :: putT l t
def rise (l : List Ty) : Prop := l.Pairwise fun a b => ahead a.nm b.nm = true
theorem findT_none {l : List Ty} {nm : List UInt8} : findT l nm = none ↔ atT l nm = none := by
  induction l with
  | nil => simp [findT, atT]
  | cons t l ih =>
    unfold findT atT
    rw [List.find?_cons]
    by_cases c : t.nm = nm
    · rw [if_pos c, decide_eq_true c]; simp
    · rw [if_neg c, decide_eq_false c]; simpa [atT] using ih
theorem findT_at {l : List Ty} {nm : List UInt8} {k : Nat} (h : findT l nm = some k) : ∃ t, l[k]? = some t ∧ t.nm = nm ∧ atT l nm = some t := by
  induction l generalizing k with
  | nil => cases h
  | cons t l ih =>
    unfold findT at h
    by_cases c : t.nm = nm
    · rw [if_pos c] at h; cases h
      exact ⟨t, rfl, c, by unfold atT; rw [List.find?_cons, decide_eq_true c]⟩
    · rw [if_neg c] at h
      cases hf : findT l nm with
      | none => rw [hf] at h; cases h
      | some j =>
        rw [hf] at h; cases h
        obtain ⟨u, h1, h2, h3⟩ := ih hf
        exact ⟨u, h1, h2, by unfold atT at h3 ⊢; rw [List.find?_cons, decide_eq_false c]; exact h3⟩
theorem atT_some {l : List Ty} {nm : List UInt8} {t : Ty} (h : atT l nm = some t) : t ∈ l ∧ t.nm = nm := by
  refine ⟨List.mem_of_find?_eq_some h, ?_⟩
  have := List.find?_some h
  simpa using this
theorem atT_none {l : List Ty} {nm : List UInt8} (h : atT l nm = none) : ∀ t ∈ l, t.nm ≠ nm := by
  intro t ht
  have := List.find?_eq_none.1 h t ht
  simpa using this
theorem put_mem {l : List Ty} {t x : Ty} : x ∈ putT l t ↔ x = t ∨ x ∈ l := by
  induction l with
  | nil => simp [putT]
  | cons y l ih =>
    unfold putT
    by_cases c : ahead t.nm y.nm = true
    · rw [if_pos c]; simp
    · rw [if_neg c, List.mem_cons, ih, List.mem_cons]
      constructor
      · rintro (h | h | h) <;> simp [h]
      · rintro (h | h | h) <;> simp [h]
theorem put_len {l : List Ty} {t : Ty} : (putT l t).length = l.length + 1 := by
  induction l with
  | nil => rfl
  | cons y l ih =>
    unfold putT
    split
    · rfl
    · rw [List.length_cons, ih, List.length_cons]
theorem put_rise {l : List Ty} {t : Ty} (h : rise l) (hn : ∀ x ∈ l, x.nm ≠ t.nm) : rise (putT l t) := by
  induction l with
  | nil => unfold putT rise; simp
  | cons y l ih =>
    unfold rise at h
    rw [List.pairwise_cons] at h
    unfold putT
    by_cases c : ahead t.nm y.nm = true
    · rw [if_pos c]
      unfold rise
      rw [List.pairwise_cons]
      refine ⟨fun x hx => ?_, by rw [List.pairwise_cons]; exact h⟩
      rcases List.mem_cons.1 hx with rfl | hx
      · exact c
      · exact ahead_trans c (h.1 x hx)
    · rw [if_neg c]
      unfold rise
      rw [List.pairwise_cons]
      refine ⟨fun x hx => ?_, ih h.2 (fun x hx => hn x (List.mem_cons_of_mem _ hx))⟩
      rcases put_mem.1 hx with rfl | hx
      · rcases ahead_total (hn y (by simp)) with h1 | h1
        · exact h1
        · exact absurd h1 c
      · exact h.1 x hx
theorem rise_at {l : List Ty} (h : rise l) {t : Ty} (ht : t ∈ l) : atT l t.nm = some t := by
  induction l with
  | nil => cases ht
  | cons y l ih =>
    unfold rise at h
    rw [List.pairwise_cons] at h
    unfold atT
    rw [List.find?_cons]
    rcases List.mem_cons.1 ht with rfl | ht
    · simp
    · rw [decide_eq_false (ahead_ne (h.1 t ht))]
      exact ih h.2 ht
theorem put_at {l : List Ty} {t : Ty} (h : rise l) (hn : ∀ x ∈ l, x.nm ≠ t.nm) (nm : List UInt8) : atT (putT l t) nm = if t.nm = nm then some t else atT l nm := by
  have hr := put_rise h hn
  by_cases c : t.nm = nm
  · rw [if_pos c, ← c]; exact rise_at hr (put_mem.2 (.inl rfl))
  · rw [if_neg c]
    cases ha : atT l nm with
    | none =>
      cases hb : atT (putT l t) nm with
      | none => rfl
      | some u =>
        obtain ⟨h1, h2⟩ := atT_some hb
        rcases put_mem.1 h1 with rfl | h1
        · exact absurd h2 c
        · exact absurd h2 (atT_none ha u h1)
    | some u =>
      obtain ⟨h1, h2⟩ := atT_some ha
      rw [← h2]; exact rise_at hr (put_mem.2 (.inr h1))
theorem set_rise {l : List Ty} {k : Nat} {t u : Ty} (h : rise l) (hk : l[k]? = some t) (hn : u.nm = t.nm) : rise (l.set k u) := by
  unfold rise at h ⊢
  have e : (l.set k u).map Ty.nm = l.map Ty.nm := by
    apply List.ext_getElem?
    intro i
    rw [List.getElem?_map, List.getElem?_map, List.getElem?_set]
    by_cases c : k = i
    · subst c
      have := (List.getElem?_eq_some_iff.1 hk).1
      rw [if_pos rfl, if_pos this, hk]; simp [hn]
    · rw [if_neg c]
  have h2 : (l.map Ty.nm).Pairwise (fun a b => ahead a b = true) := List.pairwise_map.2 h
  rw [← e] at h2
  exact List.pairwise_map.1 h2
theorem set_at {l : List Ty} {k : Nat} {t u : Ty} (h : rise l) (hk : l[k]? = some t) (hn : u.nm = t.nm) (nm : List UInt8) : atT (l.set k u) nm = if t.nm = nm then some u else atT l nm := by
  have hr := set_rise h hk hn
  have hkl := (List.getElem?_eq_some_iff.1 hk).1
  have hm : ∀ x, x ∈ l.set k u → x = u ∨ x ∈ l := fun x hx => (List.mem_or_eq_of_mem_set hx).symm
  by_cases c : t.nm = nm
  · rw [if_pos c, ← c, ← hn]; exact rise_at hr (List.mem_set hkl u)
  · rw [if_neg c]
    cases ha : atT l nm with
    | none =>
      cases hb : atT (l.set k u) nm with
      | none => rfl
      | some v =>
        obtain ⟨h1, h2⟩ := atT_some hb
        rcases hm v h1 with rfl | h1
        · exact absurd (hn.symm.trans h2) c
        · exact absurd h2 (atT_none ha v h1)
    | some v =>
      obtain ⟨h1, h2⟩ := atT_some ha
      rw [← h2]
      refine rise_at hr ?_
      obtain ⟨i, hi⟩ := List.getElem?_of_mem h1
      have hik : k ≠ i := fun e => by
        subst e; rw [hk] at hi; cases hi; exact c h2
      exact List.mem_of_getElem? (i := i) (by rw [List.getElem?_set, if_neg hik]; exact hi)
end Go.Proofs.YtaegencmnmjgbaaGreat
