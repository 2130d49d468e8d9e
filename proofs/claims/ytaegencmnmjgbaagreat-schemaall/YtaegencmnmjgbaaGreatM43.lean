/-
  What a deed makes of the table that leaves each field as it is, is what Make makes: mathematics.
-/
import Derived.Test.YtaegencmnmjgbaaGreatM42
import Derived.Test.YtaegencmnmjgbaaGreatM34

namespace Go.Proofs.YtaegencmnmjgbaaGreat
open Go.RowKit
set_option linter.unusedVariables false
set_option linter.unusedSimpArgs false
def deedR (T : Tb) (c : Ch) : Tb × Int :=
  if c.op = 1 then addR T c else if c.op = 2 then dropR T c.nm else if c.op = 3 then altR T c.nm (renF c) else if c.op = 4 then altR T c.nm (recF c) else ordR T c.od
theorem newF_erase {l : List Fd} {c : Ch} {i : Nat} (h : c.op = 2) : ∀ n, n ≤ l.length → newF l c (some i) n = (l.take n).eraseIdx i := by
  intro n
  induction n with
  | zero => intro _; simp [newF, idxs]
  | succ n ih =>
    intro hn
    have hf : l[n]? = some l[n] := List.getElem?_eq_getElem (by omega)
    rw [List.take_add_one, hf]
    by_cases e : i = n
    · subst e
      have hk : keepB c (some i) i = false := by unfold keepB; simp [h]
      rw [newF_drop hk, ih (by omega), List.eraseIdx_of_length_le (by rw [List.length_take]; omega)]
      have hl : (l.take i).length = i := by rw [List.length_take]; omega
      rw [List.eraseIdx_append_of_length_le (by omega), hl, Nat.sub_self]
      simp
    · have hk : keepB c (some i) n = true := by unfold keepB; simp; omega
      have he : ed c (some i) n l[n] = l[n] := by unfold ed; rw [if_neg (by rw [h]; omega), if_neg (by rw [h]; omega)]
      rw [newF_keep hf hk, ih (by omega), he]
      have hl : (l.take n).length = n := by rw [List.length_take]; omega
      by_cases hlt : i < n
      · rw [List.eraseIdx_append_of_lt_length (by omega)]; rfl
      · rw [List.eraseIdx_of_length_le (by omega), List.eraseIdx_of_length_le (by simp; omega)]; rfl
theorem mvF_erase {c : Ch} {i : Nat} (h : c.op = 2) : ∀ n, mvF c (some i) n = (selfL n).eraseIdx i := by
  intro n
  induction n with
  | zero => rfl
  | succ n ih =>
    rw [selfL_succ]
    by_cases e : i = n
    · subst e
      have hk : keepB c (some i) i = false := by unfold keepB; simp [h]
      rw [mvF_drop hk, ih, List.eraseIdx_of_length_le (by rw [selfL_length]; omega), List.eraseIdx_append_of_length_le (by rw [selfL_length]; omega), selfL_length, Nat.sub_self]
      simp
    · have hk : keepB c (some i) n = true := by unfold keepB; simp; omega
      rw [mvF_keep hk, ih]
      by_cases hlt : i < n
      · rw [List.eraseIdx_append_of_lt_length (by rw [selfL_length]; omega)]
      · rw [List.eraseIdx_of_length_le (by rw [selfL_length]; omega), List.eraseIdx_of_length_le (by simp [selfL_length]; omega)]
theorem newF_set {l : List Fd} {c : Ch} {i : Nat} {f : Fd} (h2 : c.op ≠ 2) (hf : l[i]? = some f) : newF l c (some i) l.length = l.set i (ed c (some i) i f) := by
  have hil := (List.getElem?_eq_some_iff.1 hf).1
  apply List.ext_getElem?
  intro j
  by_cases hj : j < l.length
  · have hfj : l[j]? = some l[j] := List.getElem?_eq_getElem hj
    have hx : (idxs c (some i) l.length)[j]? = some j := by rw [idxs_all h2, List.getElem?_range hj]
    rw [newF_at hx hfj, List.getElem?_set]
    by_cases e : i = j
    · subst e
      rw [if_pos rfl, if_pos hj]
      rw [hfj] at hf; cases hf; rfl
    · rw [if_neg e, hfj]
      unfold ed
      rw [if_neg (fun h => e (by have := h.2; simpa using this)), if_neg (fun h => e (by have := h.2; simpa using this))]
  · have hl : (newF l c (some i) l.length).length = l.length := by rw [newF_length_eq (Nat.le_refl _), idxs_all h2, List.length_range]
    rw [List.getElem?_eq_none (by omega), List.getElem?_eq_none (by rw [List.length_set]; omega)]
theorem odMv_self {n : Nat} : ∀ {od : List Int}, (∀ x ∈ od, 0 ≤ x ∧ x < n) → odMv (selfL n) od = odM od
  | [], _ => rfl
  | x :: od, h => by
    obtain ⟨h0, h1⟩ := h x (by simp)
    have hm : mvAt (selfL n) x = some ⟨x, 0, 0, ⟨#[]⟩⟩ := by
      unfold mvAt; rw [if_pos h0, selfL_get (by omega)]; unfold selfM; rw [Int.toNat_of_nonneg h0]
    have ih := odMv_self (od := od) (fun y hy => h y (by simp [hy]))
    unfold odMv odM at *
    rw [List.filterMap_cons, hm, List.map_cons, ih]
theorem ed3 {c : Ch} {i : Nat} {f : Fd} (h : c.op = 3) : ed c (some i) i f = renF c f := by unfold ed renF; rw [if_pos ⟨h, rfl⟩]
theorem ed4 {c : Ch} {i : Nat} {f : Fd} (h : c.op = 4) : ed c (some i) i f = recF c f := by unfold ed recF; rw [if_neg (by rw [h]; omega), if_pos ⟨h, rfl⟩]
def MadeR (l : List Fd) (c : Ch) (R : Tb × Int) : Prop := (R.2 = 0 → R.1 = ⟨l, newC l c, mvC l c⟩ ∧ (rightT R.1 = true → mkE l c = 0) ∧ (rightT R.1 = false → mkE l c = 80)) ∧ (R.2 ≠ 0 → mkE l c = R.2)
theorem mkE_form {l : List Fd} {c : Ch} (hr : rightL l = true) (h1 : 1 ≤ c.op) (h5 : c.op ≤ 5) (hk : 2 ≤ c.op → c.op ≤ 4 → findN l c.nm ≠ none) :
    mkE l c = if noCast l c (findN l c.nm) l.length then 80 else if noAdd c then 80 else if noOrd l c then 80 else if rightL (newC l c) then 0 else 80 := by
  unfold mkE
  rw [hr, if_neg (by simp), if_neg (by omega), if_neg (fun h => hk h.1 h.2.1 h.2.2)]
theorem made_of {l : List Fd} {c : Ch} (hr : rightL l = true) (h1 : 1 ≤ c.op) (h5 : c.op ≤ 5) (hk : 2 ≤ c.op → c.op ≤ 4 → findN l c.nm ≠ none)
    (hc : rightT ⟨l, newC l c, mvC l c⟩ = true → noCast l c (findN l c.nm) l.length = false ∧ noAdd c = false ∧ noOrd l c = false) : MadeR l c (⟨l, newC l c, mvC l c⟩, 0) := by
  refine ⟨fun _ => ⟨rfl, fun h => ?_, fun h => ?_⟩, fun h => absurd rfl h⟩
  · obtain ⟨a, b, d⟩ := hc h
    rw [mkE_form hr h1 h5 hk, a, b, d, (rightT_iff.1 h).2.1]; rfl
  · have h0 : mkE l c ≠ 0 := fun e => by
      have := mkT_right e
      rw [mkT_ok e] at this
      rw [this] at h; cases h
    have hf := mkE_form hr h1 h5 hk
    rw [hf] at h0 ⊢
    split
    · rfl
    · split
      · rfl
      · split
        · rfl
        · split
          · rename_i a b d e; exact absurd (by rw [if_neg a, if_neg b, if_neg d, if_pos e]) h0
          · rfl
theorem made_any {l : List Fd} {c : Ch} (hr : rightL l = true) (h1 : 1 ≤ c.op) (h5 : c.op ≤ 5) : MadeR l c (deedR (sameT l) c) := by
  rw [sameT_right hr]
  have hcast : c.op ≠ 4 → noCast l c (findN l c.nm) l.length = false := fun h => by unfold noCast; simp [h]
  have hadd : c.op ≠ 1 → noAdd c = false := fun h => by unfold noAdd; simp [h]
  have hord : c.op ≠ 5 → noOrd l c = false := fun h => by unfold noOrd; simp [h]
  have ho : c.op = 1 ∨ c.op = 2 ∨ c.op = 3 ∨ c.op = 4 ∨ c.op = 5 := by omega
  rcases ho with e | e | e | e | e
  · have eN : newC l c = l ++ [c.to] := by unfold newC; rw [if_pos e, newF_id (by omega) (by omega) (by omega) _ (Nat.le_refl _), List.take_length]
    have eM : mvC l c = selfL l.length ++ [⟨-1, c.dk, c.dn, c.dt⟩] := by unfold mvC; rw [if_pos e, mvF_id (by omega)]
    have eD : deedR ⟨l, l, selfL l.length⟩ c = (⟨l, newC l c, mvC l c⟩, 0) := by unfold deedR addR; rw [if_pos e, eN, eM]
    rw [eD]
    refine made_of hr h1 h5 (by omega) (fun h => ⟨hcast (by omega), ?_, hord (by omega)⟩)
    have h2 := (rightT_iff.1 h).2.2.2 l.length ⟨-1, c.dk, c.dn, c.dt⟩ c.to (by show (mvC l c)[_]? = _; rw [eM, List.getElem?_append_right (by rw [selfL_length]; omega), selfL_length]; simp) (by show (newC l c)[_]? = _; rw [eN]; simp)
    rw [mvB_new rfl] at h2
    unfold noAdd
    rw [h2]; simp
  · have hop : ∀ T, deedR T c = dropR T c.nm := fun T => by unfold deedR; rw [if_neg (by omega), if_pos e]
    rw [hop]
    cases hf : findN l c.nm with
    | none =>
      have eD : dropR ⟨l, l, selfL l.length⟩ c.nm = (Tb.none, 61) := byName_none hf
      rw [eD]
      show _ ∧ _
      refine ⟨fun h => absurd h (by decide), fun _ => ?_⟩
      unfold mkE; rw [hr, if_neg (by simp), if_neg (by omega), if_pos ⟨by omega, by omega, hf⟩]
    | some i =>
      have eN : newC l c = l.eraseIdx i := by unfold newC; rw [if_neg (by omega), if_neg (by omega), hf, newF_erase e _ (Nat.le_refl _), List.take_length]
      have eM : mvC l c = (selfL l.length).eraseIdx i := by unfold mvC; rw [if_neg (by omega), if_neg (by omega), hf, mvF_erase e]
      have eD : dropR ⟨l, l, selfL l.length⟩ c.nm = (⟨l, newC l c, mvC l c⟩, 0) := by unfold dropR; rw [byName_some hf, eN, eM]
      rw [eD]
      exact made_of hr h1 h5 (fun _ _ => by rw [hf]; simp) (fun h => ⟨hcast (by omega), hadd (by omega), hord (by omega)⟩)
  · have hop : ∀ T, deedR T c = altR T c.nm (renF c) := fun T => by unfold deedR; rw [if_neg (by omega), if_neg (by omega), if_pos e]
    rw [hop]
    cases hf : findN l c.nm with
    | none =>
      have eD : altR ⟨l, l, selfL l.length⟩ c.nm (renF c) = (Tb.none, 61) := byName_none hf
      rw [eD]
      show _ ∧ _
      refine ⟨fun h => absurd h (by decide), fun _ => ?_⟩
      unfold mkE; rw [hr, if_neg (by simp), if_neg (by omega), if_pos ⟨by omega, by omega, hf⟩]
    | some i =>
      obtain ⟨f, hff, _⟩ := findN_get hf
      have eN : newC l c = l.set i (renF c f) := by unfold newC; rw [if_neg (by omega), if_neg (by omega), hf, newF_set (by omega) hff, ed3 e]
      have eM : mvC l c = selfL l.length := by unfold mvC; rw [if_neg (by omega), if_neg (by omega), mvF_id (by omega)]
      have eD : altR ⟨l, l, selfL l.length⟩ c.nm (renF c) = (⟨l, newC l c, mvC l c⟩, 0) := by rw [altR_some hf hff, eN, eM]
      rw [eD]
      exact made_of hr h1 h5 (fun _ _ => by rw [hf]; simp) (fun h => ⟨hcast (by omega), hadd (by omega), hord (by omega)⟩)
  · have hop : ∀ T, deedR T c = altR T c.nm (recF c) := fun T => by unfold deedR; rw [if_neg (by omega), if_neg (by omega), if_neg (by omega), if_pos e]
    rw [hop]
    cases hf : findN l c.nm with
    | none =>
      have eD : altR ⟨l, l, selfL l.length⟩ c.nm (recF c) = (Tb.none, 61) := byName_none hf
      rw [eD]
      show _ ∧ _
      refine ⟨fun h => absurd h (by decide), fun _ => ?_⟩
      unfold mkE; rw [hr, if_neg (by simp), if_neg (by omega), if_pos ⟨by omega, by omega, hf⟩]
    | some i =>
      obtain ⟨f, hff, _⟩ := findN_get hf
      have hil := (List.getElem?_eq_some_iff.1 hff).1
      have eN : newC l c = l.set i (recF c f) := by unfold newC; rw [if_neg (by omega), if_neg (by omega), hf, newF_set (by omega) hff, ed4 e]
      have eM : mvC l c = selfL l.length := by unfold mvC; rw [if_neg (by omega), if_neg (by omega), mvF_id (by omega)]
      have eD : altR ⟨l, l, selfL l.length⟩ c.nm (recF c) = (⟨l, newC l c, mvC l c⟩, 0) := by rw [altR_some hf hff, eN, eM]
      rw [eD]
      refine made_of hr h1 h5 (fun _ _ => by rw [hf]; simp) (fun h => ⟨?_, hadd (by omega), hord (by omega)⟩)
      have h2 := (rightT_iff.1 h).2.2.2 i (selfM i) (recF c f) (by show (mvC l c)[_]? = _; rw [eM, selfL_get hil]) (by show (newC l c)[_]? = _; rw [eN, List.getElem?_set, if_pos rfl, if_pos hil])
      rw [mvB_old (o := l) (m := selfM i) (g := f) (by simp [selfM]) (by simpa [selfM] using hff)] at h2
      simp only [Bool.and_eq_true] at h2
      rw [hf]
      exact noCast_ok e rfl hff h2.2 _
  · have hop : ∀ T, deedR T c = ordR T c.od := fun T => by unfold deedR; rw [if_neg (by omega), if_neg (by omega), if_neg (by omega), if_neg (by omega)]
    rw [hop]
    cases hab : allB c.od l.length with
    | false =>
      have eD : ordR ⟨l, l, selfL l.length⟩ c.od = (Tb.none, 80) := by unfold ordR; rw [hab]; rfl
      rw [eD]
      show _ ∧ _
      refine ⟨fun h => absurd h (by decide), fun _ => ?_⟩
      have hno : noOrd l c = true := by unfold noOrd; rw [hab, e]; rfl
      rw [mkE_form hr h1 h5 (by omega), hcast (by omega), hadd (by omega), hno]; rfl
    | true =>
      have eN : newC l c = odF l c.od := by unfold newC; rw [if_neg (by omega), if_pos e]
      have eM : mvC l c = odM c.od := by unfold mvC; rw [if_neg (by omega), if_pos e]
      have eD : ordR ⟨l, l, selfL l.length⟩ c.od = (⟨l, newC l c, mvC l c⟩, 0) := by
        unfold ordR; rw [hab, eN, eM, if_pos rfl]
        show (Tb.mk l (odF l c.od) (odMv (selfL l.length) c.od), (0 : Int)) = _
        rw [odMv_self (allB_mem hab)]
      rw [eD]
      refine made_of hr h1 h5 (by omega) (fun h => ⟨hcast (by omega), hadd (by omega), ?_⟩)
      unfold noOrd; rw [hab]; simp
end Go.Proofs.YtaegencmnmjgbaaGreat
