/-
  Contracts of word.Size and of the document's own Size.
  Values and fields: whether a field may be, how many bytes, whether a value is right, what may be cast (the words of the proofs).
  Fields: names, which are right, where they stand: mathematics (the words of the proofs).
  The contract of word.lay: the lowest bytes of a number over those of a row.
  Contracts of the functions of word that work on bytes: holds, Put, Set, Pad; and of bytes.Clone.
  The contract of word.Get.
-/
import Derived.Test.YtaegencmnmjgbaaGreatM1
import Derived.Laws.BitsAllLaws

namespace Go.Proofs.YtaegencmnmjgbaaGreat
open Go.RowKit
set_option linter.unusedVariables false
def sizeOfKind (k : Int) : Int :=
  if k = 1 ∨ k = 5 ∨ k = 9 then 1 else if k = 2 ∨ k = 6 then 2 else if k = 3 ∨ k = 7 then 4 else if k = 4 ∨ k = 8 ∨ k = 10 ∨ k = 11 then 8 else 0
set_option maxHeartbeats 1000000 in
theorem size_any (k : Int) (w : World) :
    Calls Tryz.prog 137 #[.int .i64 k] w fun e w' => e = .returned (.int .i64 (sizeOfKind k)) ∧ w = w' := by
  by_cases h : k = 1 ∨ k = 2 ∨ k = 3 ∨ k = 4 ∨ k = 5 ∨ k = 6 ∨ k = 7 ∨ k = 8 ∨ k = 9 ∨ k = 10 ∨ k = 11
  · rcases h with rfl | rfl | rfl | rfl | rfl | rfl | rfl | rfl | rfl | rfl | rfl
    all_goals
      go_enter Tryz.func137, Tryz.ntmps137
      go_wp2
      go_ret
      exact ⟨rfl, rfl⟩
  · have hz : sizeOfKind k = 0 := by unfold sizeOfKind; repeat (rw [if_neg (by omega)])
    have b1 : (k == 1) = false := by simp; omega
    have b2 : (k == 2) = false := by simp; omega
    have b3 : (k == 3) = false := by simp; omega
    have b4 : (k == 4) = false := by simp; omega
    have b5 : (k == 5) = false := by simp; omega
    have b6 : (k == 6) = false := by simp; omega
    have b7 : (k == 7) = false := by simp; omega
    have b8 : (k == 8) = false := by simp; omega
    have b9 : (k == 9) = false := by simp; omega
    have b10 : (k == 10) = false := by simp; omega
    have b11 : (k == 11) = false := by simp; omega
    clear h
    go_enter Tryz.func137, Tryz.ntmps137
    go_wp2
    go_ret
    exact ⟨ret_int hz.symm, rfl⟩
end Go.Proofs.YtaegencmnmjgbaaGreat

namespace Go.Proofs.YtaegencmnmjgbaaGreat
open Go.RowKit
set_option linter.unusedVariables false
def mayF (k g : Int) : Bool := if k = 12 then decide (0 < g) && decide (g ≤ 64) else decide (0 < k) && decide (k < 12) && decide (g = 0)
def longF (k g : Int) : Int := if mayF k g then (if k = 12 then g else sizeOfKind k) else 0
def rightF (vk n : Int) (m : Nat) (k g : Int) : Bool :=
  mayF k g && decide (vk = k) && (if k = 12 then decide (n = 0) && decide ((m : Int) = g) else decide (m = 0) && (if k = 9 then decide (n < 2) else (decide (9 < k) || fits n (longF k g) (decide (4 < k)))))
def castsF (k g k' g' : Int) : Bool :=
  mayF k g && mayF k' g' && (if k = k' then true else if k ≤ 4 ∧ k' ≤ 8 then decide (longF k g < longF k' g') else if k = 9 ∧ k' ≤ 8 then decide (longF k g < longF k' g') || decide (k' = 1) else if 5 ≤ k ∧ k ≤ 8 ∧ 5 ≤ k' ∧ k' ≤ 8 then decide (longF k g < longF k' g') else if k ≤ 8 ∧ k' = 10 then true else decide (k = 10) && decide (k' = 8))
theorem mayF12 (g : Int) : mayF 12 g = (decide (0 < g) && decide (g ≤ 64)) := by simp [mayF]
theorem mayF_ne {k g : Int} (h : k ≠ 12) : mayF k g = (decide (0 < k) && decide (k < 12) && decide (g = 0)) := by simp [mayF, h]
theorem may_cases {k g : Int} (h : mayF k g = true) (hk : k ≠ 12) : g = 0 ∧ (k = 1 ∨ k = 2 ∨ k = 3 ∨ k = 4 ∨ k = 5 ∨ k = 6 ∨ k = 7 ∨ k = 8 ∨ k = 9 ∨ k = 10 ∨ k = 11) := by
  rw [mayF_ne hk] at h; simp at h; omega
theorem may12 {g : Int} (h : mayF 12 g = true) : 0 < g ∧ g ≤ 64 := by
  rw [mayF12] at h; simpa using h
theorem longF_nonneg (k g : Int) : 0 ≤ longF k g := by
  unfold longF; split
  · rename_i h; split
    · rename_i h2; subst h2; have := may12 h; omega
    · unfold sizeOfKind; repeat' split
      all_goals omega
  · omega
theorem longF_le (k g : Int) : longF k g ≤ 64 := by
  unfold longF; split
  · rename_i h; split
    · rename_i h2; subst h2; have := may12 h; omega
    · unfold sizeOfKind; repeat' split
      all_goals omega
  · omega
end Go.Proofs.YtaegencmnmjgbaaGreat

namespace Go.Proofs.YtaegencmnmjgbaaGreat
open Go.RowKit
set_option linter.unusedVariables false
structure Fd where
  nm : List UInt8
  k : Int
  g : Int
  deriving DecidableEq
def nmMax : Nat := 140737488351232
def Fd.may (f : Fd) : Bool := mayF f.k f.g
def Fd.long (f : Fd) : Int := longF f.k f.g
def ltB (c : UInt8) : Bool := decide (97 ≤ c.toNat) && decide (c.toNat ≤ 122)
def chB (c : UInt8) : Bool := ltB c || (decide (48 ≤ c.toNat) && decide (c.toNat ≤ 57)) || decide (c.toNat = 95)
def nameB (s : List UInt8) : Bool := decide (1 ≤ s.length) && decide (s.length ≤ 15) && s.all chB && s.head?.any ltB
def findN : List Fd → List UInt8 → Option Nat
  | [], _ => none
  | f :: l, nm => if f.nm = nm then some 0 else (findN l nm).map (· + 1)
def findI (l : List Fd) (nm : List UInt8) : Int := match findN l nm with | some i => (i : Int) | none => -1
def rightL (l : List Fd) : Bool := decide (l.length ≤ 16) && (List.range l.length).all fun i => match l[i]? with | some f => nameB f.nm && f.may && decide (findN l f.nm = some i) | none => true
def placeF (at_ : Int) (f : Fd) : Int := if f.k = 12 then at_ else (at_ + f.long - 1) / f.long * f.long
def layP : Int → List Fd → List Int
  | _, [] => []
  | at_, f :: l => placeF at_ f :: layP (placeF at_ f + f.long) l
def layE : Int → List Fd → Int
  | at_, [] => at_
  | at_, f :: l => layE (placeF at_ f + f.long) l
def up8 (n : Int) : Int := (n + 7) / 8 * 8
def layN (l : List Fd) : Int := up8 (layE 0 l)
theorem findN_get : ∀ {l : List Fd} {nm : List UInt8} {i : Nat}, findN l nm = some i → ∃ f, l[i]? = some f ∧ f.nm = nm ∧ ∀ j, j < i → ∀ f', l[j]? = some f' → f'.nm ≠ nm := by
  intro l
  induction l with
  | nil => intro nm i h; cases h
  | cons f l ih =>
    intro nm i h
    unfold findN at h
    by_cases c : f.nm = nm
    · rw [if_pos c] at h; cases h
      exact ⟨f, rfl, c, fun j hj => absurd hj (by omega)⟩
    · rw [if_neg c] at h
      cases hf : findN l nm with
      | none => rw [hf] at h; cases h
      | some j =>
        rw [hf] at h
        obtain rfl : j + 1 = i := by simpa using h
        obtain ⟨f', h1, h2, h3⟩ := ih hf
        refine ⟨f', by simpa using h1, h2, fun m hm f'' hf'' => ?_⟩
        cases m with
        | zero => simp at hf''; rw [← hf'']; exact c
        | succ m => exact h3 m (by omega) f'' (by simpa using hf'')
theorem findN_none : ∀ {l : List Fd} {nm : List UInt8}, findN l nm = none → ∀ f ∈ l, f.nm ≠ nm := by
  intro l
  induction l with
  | nil => intro nm _ f hf; cases hf
  | cons f l ih =>
    intro nm h f' hf'
    unfold findN at h
    by_cases c : f.nm = nm
    · rw [if_pos c] at h; cases h
    · rw [if_neg c] at h
      cases hf : findN l nm with
      | none =>
        rcases List.mem_cons.1 hf' with rfl | h2
        · exact c
        · exact ih hf f' h2
      | some j => rw [hf] at h; cases h
theorem findN_some {l : List Fd} {nm : List UInt8} {i : Nat} {f : Fd} (hi : l[i]? = some f) (hn : f.nm = nm) (h : ∀ j, j < i → ∀ f', l[j]? = some f' → f'.nm ≠ nm) : findN l nm = some i := by
  cases hf : findN l nm with
  | none => exact absurd hn (findN_none hf f (List.mem_of_getElem? hi))
  | some k =>
    obtain ⟨f', h1, h2, h3⟩ := findN_get hf
    rcases Nat.lt_trichotomy k i with c | c | c
    · exact absurd h2 (h k c f' h1)
    · rw [c]
    · exact absurd hn (h3 i c f hi)
theorem findN_no {l : List Fd} {nm : List UInt8} (h : ∀ f ∈ l, f.nm ≠ nm) : findN l nm = none := by
  cases hf : findN l nm with
  | none => rfl
  | some k =>
    obtain ⟨f, h1, h2, _⟩ := findN_get hf
    exact absurd h2 (h f (List.mem_of_getElem? h1))
theorem findN_le {l : List Fd} {i : Nat} {f : Fd} (hi : l[i]? = some f) : ∃ j, findN l f.nm = some j ∧ j ≤ i := by
  cases hf : findN l f.nm with
  | none => exact absurd rfl (findN_none hf f (List.mem_of_getElem? hi))
  | some k =>
    refine ⟨k, rfl, ?_⟩
    obtain ⟨f', h1, h2, h3⟩ := findN_get hf
    by_cases c : k ≤ i
    · exact c
    · exact absurd rfl (h3 i (by omega) f hi)
theorem findI_some {l : List Fd} {nm : List UInt8} {i : Nat} (h : findN l nm = some i) : findI l nm = (i : Int) := by unfold findI; rw [h]
theorem findI_none {l : List Fd} {nm : List UInt8} (h : findN l nm = none) : findI l nm = -1 := by unfold findI; rw [h]
theorem rightL_iff {l : List Fd} : rightL l = true ↔ l.length ≤ 16 ∧ ∀ i f, l[i]? = some f → nameB f.nm = true ∧ f.may = true ∧ findN l f.nm = some i := by
  unfold rightL
  simp only [Bool.and_eq_true, decide_eq_true_eq, List.all_eq_true, List.mem_range]
  refine and_congr_right fun _ => ⟨fun h i f hi => ?_, fun h i hi => ?_⟩
  · have hl : i < l.length := by
      by_cases c : i < l.length
      · exact c
      · rw [List.getElem?_eq_none (by omega)] at hi; cases hi
    have := h i hl
    rw [hi] at this
    simp only [Bool.and_eq_true, decide_eq_true_eq] at this
    exact ⟨this.1.1, this.1.2, this.2⟩
  · rw [List.getElem?_eq_getElem hi]
    obtain ⟨h1, h2, h3⟩ := h i _ (List.getElem?_eq_getElem hi)
    simp [h1, h2, h3]
theorem long_pos {f : Fd} (h : f.may = true) : 1 ≤ f.long ∧ f.long ≤ 64 := by
  unfold Fd.may at h
  refine ⟨?_, longF_le _ _⟩
  unfold Fd.long longF
  rw [if_pos h]
  by_cases c : f.k = 12
  · rw [if_pos c]; rw [c] at h; have := may12 h; omega
  · rw [if_neg c]
    obtain ⟨_, h2⟩ := may_cases h c
    rcases h2 with h2 | h2 | h2 | h2 | h2 | h2 | h2 | h2 | h2 | h2 | h2 <;> rw [h2] <;> decide
theorem long_w {f : Fd} (h : f.may = true) (c : f.k ≠ 12) : f.long = 1 ∨ f.long = 2 ∨ f.long = 4 ∨ f.long = 8 := by
  unfold Fd.may at h
  unfold Fd.long longF
  rw [if_pos h, if_neg c]
  obtain ⟨_, h2⟩ := may_cases h c
  rcases h2 with h2 | h2 | h2 | h2 | h2 | h2 | h2 | h2 | h2 | h2 | h2 <;> rw [h2] <;> decide
theorem place_ge {at_ : Int} {f : Fd} (h : f.may = true) (h0 : 0 ≤ at_) : at_ ≤ placeF at_ f ∧ placeF at_ f < at_ + 8 ∧ (f.k ≠ 12 → placeF at_ f % f.long = 0 ∧ placeF at_ f < at_ + f.long) := by
  unfold placeF
  by_cases c : f.k = 12
  · rw [if_pos c]; exact ⟨by omega, by omega, fun h => absurd c h⟩
  · rw [if_neg c]
    rcases long_w h c with e | e | e | e <;> rw [e] <;> refine ⟨by omega, by omega, fun _ => ⟨by omega, by omega⟩⟩
theorem up8_ge (n : Int) : n ≤ up8 n ∧ up8 n < n + 8 ∧ up8 n % 8 = 0 := by unfold up8; omega
theorem layP_length : ∀ (l : List Fd) (a : Int), (layP a l).length = l.length := by
  intro l; induction l with
  | nil => intro a; rfl
  | cons f l ih => intro a; simp [layP, ih]
theorem layE_append : ∀ (l l' : List Fd) (a : Int), layE a (l ++ l') = layE (layE a l) l' := by
  intro l; induction l with
  | nil => intro l' a; rfl
  | cons f l ih => intro l' a; exact ih l' _
theorem layP_append : ∀ (l l' : List Fd) (a : Int), layP a (l ++ l') = layP a l ++ layP (layE a l) l' := by
  intro l; induction l with
  | nil => intro l' a; rfl
  | cons f l ih => intro l' a; have := ih l' (placeF a f + f.long); show placeF a f :: layP (placeF a f + f.long) (l ++ l') = placeF a f :: (layP (placeF a f + f.long) l ++ layP (layE (placeF a f + f.long) l) l'); rw [this]
theorem layE_take {l : List Fd} {i : Nat} {f : Fd} (h : l[i]? = some f) (a : Int) : layE a (l.take (i + 1)) = placeF (layE a (l.take i)) f + f.long := by
  rw [List.take_add_one, h, layE_append]; rfl
theorem layP_take {l : List Fd} {i : Nat} {f : Fd} (h : l[i]? = some f) (a : Int) : layP a (l.take (i + 1)) = layP a (l.take i) ++ [placeF (layE a (l.take i)) f] := by
  rw [List.take_add_one, h, layP_append]; rfl
theorem layP_get {l : List Fd} {i : Nat} {f : Fd} (h : l[i]? = some f) (a : Int) : (layP a l)[i]? = some (placeF (layE a (l.take i)) f) := by
  have hi : i < l.length := by
    by_cases c : i < l.length
    · exact c
    · rw [List.getElem?_eq_none (by omega)] at h; cases h
  have e : l = l.take i ++ l.drop i := (List.take_append_drop i l).symm
  have hd : l.drop i = f :: l.drop (i + 1) := by
    rw [List.drop_eq_getElem_cons hi]
    rw [List.getElem?_eq_getElem hi] at h
    cases h; rfl
  have hl : (layP a (l.take i)).length = i := by rw [layP_length, List.length_take]; omega
  have e2 : layP a l = layP a (l.take i) ++ layP (layE a (l.take i)) (l.drop i) := by rw [← layP_append, List.take_append_drop]
  rw [e2, List.getElem?_append_right (by omega), hl, Nat.sub_self, hd]
  rfl
theorem layE_bounds : ∀ (l : List Fd) (a : Int), (∀ f ∈ l, f.may = true) → 0 ≤ a → a ≤ layE a l ∧ layE a l ≤ a + 72 * l.length := by
  intro l; induction l with
  | nil => intro a _ _; show a ≤ a ∧ a ≤ a + 72 * ((0 : Nat) : Int); omega
  | cons f l ih =>
    intro a hm h0
    have hf := hm f (by simp)
    have h1 := place_ge hf h0
    have h2 := long_pos hf
    have h3 := ih (placeF a f + f.long) (fun x hx => hm x (by simp [hx])) (by omega)
    show a ≤ layE (placeF a f + f.long) l ∧ layE (placeF a f + f.long) l ≤ a + 72 * ((l.length + 1 : Nat) : Int)
    omega
theorem layE_mono {l : List Fd} (hm : ∀ f ∈ l, f.may = true) {i j : Nat} (h : i ≤ j) : layE 0 (l.take i) ≤ layE 0 (l.take j) := by
  have e : l.take j = l.take i ++ (l.take j).drop i := by
    have := (List.take_append_drop i (l.take j)).symm
    rwa [List.take_take, Nat.min_eq_left h] at this
  rw [e, layE_append]
  exact (layE_bounds _ _ (fun f hf => hm f (List.mem_of_mem_take (List.mem_of_mem_drop hf))) (layE_bounds _ _ (fun f hf => hm f (List.mem_of_mem_take hf)) (Int.le_refl _)).1).1
theorem right_may {l : List Fd} (h : rightL l = true) : ∀ f ∈ l, f.may = true := fun f hf => by
  obtain ⟨i, hi⟩ := List.mem_iff_getElem?.1 hf
  exact ((rightL_iff.1 h).2 i f hi).2.1
theorem right_len {l : List Fd} (h : rightL l = true) : l.length ≤ 16 := (rightL_iff.1 h).1
theorem layN_bounds {l : List Fd} (h : rightL l = true) : 0 ≤ layN l ∧ layN l ≤ 1160 ∧ layE 0 l ≤ layN l := by
  have h1 := layE_bounds l 0 (right_may h) (Int.le_refl _)
  have h2 := right_len h
  have h3 := up8_ge (layE 0 l)
  unfold layN
  omega
theorem lay_in {l : List Fd} (h : rightL l = true) {i : Nat} {f : Fd} (hi : l[i]? = some f) {p : Int} (hp : (layP 0 l)[i]? = some p) : 0 ≤ p ∧ p + f.long ≤ layN l ∧ layE 0 (l.take i) ≤ p ∧ p + f.long = layE 0 (l.take (i + 1)) := by
  rw [layP_get hi] at hp
  cases hp
  have hm := right_may h
  have h0 : 0 ≤ layE 0 (l.take i) := (layE_bounds _ _ (fun f hf => hm f (List.mem_of_mem_take hf)) (Int.le_refl _)).1
  have h1 := place_ge (hm f (List.mem_of_getElem? hi)) h0
  have h2 := layE_take hi 0
  have h3 := layN_bounds h
  have h4 := layE_mono hm (i := i + 1) (j := l.length) (by
    by_cases c : i < l.length
    · omega
    · rw [List.getElem?_eq_none (by omega)] at hi; cases hi)
  rw [List.take_length] at h4
  omega
theorem lay_apart {l : List Fd} (h : rightL l = true) {i j : Nat} {f f' : Fd} (hi : l[i]? = some f) (hj : l[j]? = some f') (hij : i < j) {p q : Int} (hp : (layP 0 l)[i]? = some p) (hq : (layP 0 l)[j]? = some q) : p + f.long ≤ q := by
  have h1 := lay_in h hi hp
  have h2 := lay_in h hj hq
  have h3 := layE_mono (right_may h) (i := i + 1) (j := j) (by omega)
  omega
end Go.Proofs.YtaegencmnmjgbaaGreat

namespace Go.Proofs.YtaegencmnmjgbaaGreat
open Go.RowKit
set_option linter.unusedVariables false
set_option maxHeartbeats 400000 in
theorem lay_any (g off n cap x : Nat) (nn : Int) (cs : Array Value) (w : World) (hn : U64 nn) (hg : w.heap[g]? = some (.cells cs 5 (0, 0))) (hx : x ≤ n) (hx8 : x ≤ 8) (hoff : off + n ≤ cs.size) (hnc : n ≤ cap) :
    Calls Tryz.prog 120 #[.slice (some ⟨g, off, none⟩) n cap, .int .i64 x, .int .u64 nn] w fun e w' => e = .returned (.tuple #[]) ∧ w'.heap[g]? = some (.cells (splice cs.toList off ((le nn x).map bv)).toArray 5 (0, 0)) ∧ w.grownBy w' (some g) ∧ w'.heap.size = w.heap.size := by
  have h0 := hn.1
  go_enter Tryz.func120, Tryz.ntmps120
  go_wp2
  go_loopw [8] (fun i wr => ∃ k : Nat, k ≤ x ∧ i = .int .i64 k ∧ Hid (wr.heap[g]? = some (.cells (splice cs.toList off ((le nn k).map bv)).toArray 5 (0, 0))) ∧ w.grownBy wr (some g) ∧ Hid (wr.heap.size = w.heap.size)) (fun i _ => x - (intOf i).toNat)
  case atStart => exact ⟨0, by omega, rfl, show _ = _ by simpa [splice, le] using hg, grown_refl _ _, rfl⟩
  case round =>
    obtain ⟨k, hk, rfl, hr, hgr, hsz⟩ := hrel
    by_cases hlt : k < x
    · have hfz := row_frozen hr.out (off + k)
      have hlen : (splice cs.toList off ((le nn k).map bv)).length = cs.size := by rw [length_splice _ _ _ (by simp [le_length]; omega)]; simp
      have hc : ∃ v, wr.cell? ⟨g, off + k, none⟩ = some v := by
        rw [row_cell hr.out]
        exact ⟨_, Array.getElem?_eq_getElem (by rw [List.size_toArray, hlen]; omega)⟩
      obtain ⟨v, hc⟩ := hc
      have HS := hid hlen; clear hlen
      go_wp2
      refine ⟨⟨k + 1, by omega, by go_num, ?_, grown_set hgr _ _, (size_set _ _ _).trans hsz.out⟩, by simp [intOf]; omega⟩
      show _ = _
      rw [row_set hr.out, splice_snoc _ _ _ _ _ (by simp [le_length]) (by simp; omega)]
      simp [le, bv_byteAt, two_pw]
    · go_wp2
      obtain rfl : k = x := by omega
      go_end0
      exact ⟨rfl, hr.out, hgr, hsz.out⟩
end Go.Proofs.YtaegencmnmjgbaaGreat

namespace Go.Proofs.YtaegencmnmjgbaaGreat
open Go.RowKit
set_option linter.unusedVariables false
def holdsB (len : Nat) (at_ x : Int) : Bool := isW x && decide (0 ≤ at_) && decide (at_ ≤ (len : Int) - x)
set_option maxHeartbeats 1000000 in
theorem holds_any (A : Option Addr) (n cap : Nat) (at_ x : Int) (w : World) (hm : n ≤ maxLen) :
    Calls Tryz.prog 108 #[.slice A n cap, .int .i64 at_, .int .i64 x] w fun e w' => e = .returned (.bool (holdsB n at_ x)) ∧ Below w.heap.size w w' := by
  unfold maxLen at hm
  by_cases hx : isW x = true
  · have hx8 : 1 ≤ x ∧ x ≤ 8 := by rcases isW_cases hx with rfl | rfl | rfl | rfl <;> omega
    obtain ⟨h1, h8⟩ := hx8
    by_cases ha : 0 ≤ at_
    all_goals
      go_enter Tryz.func108, Tryz.ntmps108
      go_wp2_with fail
      refine (widths_any _).mono ?_
      rintro e w1 ⟨rfl, rfl⟩
      go_wp2_with fail
      refine (isWidth_any _ _ _ (by simp) (by simp) (by simp) (by simp)).mono ?_
      rintro e w1 ⟨rfl, rfl⟩
      go_wp2_with fail
      go_ret
    · exact ⟨ret_bool (by simp [holdsB, hx, ha]), B1 _ _⟩
    · exact ⟨ret_bool (by simp [holdsB, hx]; omega), B1 _ _⟩
  · have hx' : isW x = false := by simpa using hx
    go_enter Tryz.func108, Tryz.ntmps108
    go_wp2_with fail
    refine (widths_any _).mono ?_
    rintro e w1 ⟨rfl, rfl⟩
    go_wp2_with fail
    refine (isWidth_any _ _ _ (by simp) (by simp) (by simp) (by simp)).mono ?_
    rintro e w1 ⟨rfl, rfl⟩
    go_wp2_with fail
    go_ret
    exact ⟨ret_bool (by simp [holdsB, hx']), B1 _ _⟩
set_option maxHeartbeats 1000000 in
theorem clone_any (A : Option Addr) (n cap : Nat) (l : List UInt8) (w : World) (h : Rd w w.heap.size A n cap l) (hm : n ≤ 1000000) :
    Calls Tryz.prog 55 #[.slice A n cap] w fun e w' => ∃ v, e = .returned v ∧ Own w' w.heap.size v l ∧ Below w.heap.size w w' := by
  have hq := fun W => Lib.run_eql_slice_nil (P := Tryz.prog) W 35 5 A n cap 0 0 Tryz.underlying35
  rcases A with _ | ad
  · have h0 := h.2.2.2.1 rfl
    have hn0 : n = 0 := by have := h.2.1; omega
    subst h0; subst hn0
    have hl : l = [] := List.eq_nil_of_length_eq_zero h.1
    subst hl
    clear hq h
    have hq := fun W => Lib.run_eql_slice_nil (P := Tryz.prog) W 35 5 none 0 0 0 0 Tryz.underlying35
    go_enter Tryz.func55, Tryz.ntmps55
    go_wp2_with fail
    go_ret
    exact ⟨_, rfl, World.ownsRow_nil _ _ _ _, B0 _⟩
  · have H := hid h; clear h
    go_enter Tryz.func55, Tryz.ntmps55
    go_wp2_with (at_builtin; refine wpList_append8 rfl (.tmp 5) (.tmp 6) rfl rfl (own_new w [] 0 rfl (by unfold maxLen; omega)) rfl (H.out.on (B1 _ _)) (by simp) (by simp; omega) ?_; intro v' w' how hgr hnil)
    go_ret
    refine ⟨_, rfl, by simpa using how, ?_⟩
    have hg : (w.alloc (Obj.cells #[] 5)).grownBy w' (some w.heap.size) := hgr
    exact (B1 w (Obj.cells #[] 5)).grown hg (by simp) (fun k hk => by cases hk; exact Nat.le_refl _)
set_option maxHeartbeats 1000000 in
theorem put_true (A : Option Addr) (n cap : Nat) (l : List UInt8) (x : Nat) (nn : Int) (w : World) (h : Rd w w.heap.size A n cap l) (hm : n ≤ 1000000) (hn : U64 nn) (hf : fits nn x false = true) (hx : x = 1 ∨ x = 2 ∨ x = 4 ∨ x = 8) :
    Calls Tryz.prog 82 #[.slice A n cap, .int .i64 x, .int .u64 nn] w fun e w' => ∃ v, e = .returned (.tuple #[v, .bool true]) ∧ Own w' w.heap.size v (l ++ le nn x) ∧ Below w.heap.size w w' := by
  obtain ⟨m, hm'⟩ : ∃ m : Nat, m = n + x := ⟨_, rfl⟩
  have hnm : n ≤ m := by omega
  have hnm2 : n < m := by omega
  have hmk := fun W => run_make8 m ((n : Int) + x) (by omega) (by omega) W
  have hx8 : x ≤ 8 := by omega
  have HM := hid hm'; clear hm'
  have HL := hid h.1
  have H := hid h; clear h
  go_enter Tryz.func82, Tryz.ntmps82
  go_wp2_with fail
  refine (fits_any nn x false _ hn).mono ?_
  rintro e w1 ⟨rfl, hb1⟩
  have hcp := run_copy_new (H.out.on hb1) m hnm 3
  go_wp2_with fail
  refine (lay_any w1.heap.size n (m - n) (m - n) x nn (lrow l (m - n)).toArray _ hn (heap_alloc_new w1 _) ?_ hx8 ?_ (Nat.le_refl _)).mono ?_
  · have := HM.out; omega
  · have := HL.out; simp [lrow_length]; omega
  rintro e w2 ⟨rfl, hg, hgr, hsz⟩
  have HG := hid hg; clear hg
  have HS := hid hsz; clear hsz
  have HR := hid hgr; clear hgr
  go_wp2_with fail
  go_ret2
  refine ⟨_, rfl, ?_, ?_⟩
  · have h1 := HM.out; have h2 := HL.out
    have h3 := HG.out
    have e1 : m - n = (le nn x).length := by rw [le_length]; omega
    rw [e1, ← h2, splice_lrow] at h3
    exact own_row h3 hb1.size (by simp [le_length]; omega) (by unfold maxLen; omega)
  · exact (Ba hb1 _).grown HR.out (by simp; have := hb1.size; omega) (fun k hk => by cases hk; exact hb1.size)
theorem fits_w {nn x : Int} {b : Bool} (h : fits nn x b = true) : x = 1 ∨ x = 2 ∨ x = 4 ∨ x = 8 := by
  unfold fits at h
  exact isW_cases (Bool.and_eq_true_iff.1 h).1
end Go.Proofs.YtaegencmnmjgbaaGreat

namespace Go.Proofs.YtaegencmnmjgbaaGreat
open Go.RowKit
set_option linter.unusedVariables false
def num : List UInt8 → Int
  | [] => 0
  | c :: r => c.toNat + 256 * num r
theorem num_append (a b : List UInt8) : num (a ++ b) = num a + pw a.length * num b := by
  induction a with
  | nil => simp [num, pw]
  | cons c r ih =>
    simp only [List.cons_append, num, ih, List.length_cons, pw_succ]
    rw [Int.mul_add, ← Int.mul_assoc, Int.mul_comm 256 (pw _)]; omega
theorem num_bounds (a : List UInt8) : 0 ≤ num a ∧ num a < pw a.length := by
  induction a with
  | nil => simp [num, pw]
  | cons c r ih =>
    have h := c.toNat_lt
    simp only [num, List.length_cons, pw_succ]; omega
theorem or_step (a c : Int) (k : Nat) (hk : k < 8) (h0 : 0 ≤ a) (ha : a < pw k) (hc0 : 0 ≤ c) (hc : c < 256) :
    bits .or .u64 a (IntKind.u64.wrap (c * 2 ^ (8 * k))) = a + pw k * c := by
  obtain ⟨a, rfl⟩ := Int.eq_ofNat_of_zero_le h0
  obtain ⟨c, rfl⟩ := Int.eq_ofNat_of_zero_le hc0
  rw [two_pw, IntKind.wrap_u64]
  have hp := pw_pos k
  have hp7 := pw_le7 (k := k) (by omega)
  obtain ⟨q, hq⟩ := Int.eq_ofNat_of_zero_le (show 0 ≤ pw k by omega)
  have hq2 : q = 2 ^ (8 * k) := by
    have := two_pw k; rw [hq] at this; exact_mod_cast this.symm
  rw [hq] at ha hp hp7 ⊢
  have h1 : (c : Int) * q ≤ 255 * q := Int.mul_le_mul_of_nonneg_right (by omega) (by omega)
  have h2 : (c : Int) * q = ((c * q : Nat) : Int) := by simp
  rw [Int.emod_eq_of_lt (by rw [h2]; omega) (by omega), h2, u64_or_nat a (c * q) (by omega) (by omega), Nat.or_comm, nat_join (8 * k) (c * q) a (by rw [hq2]; exact Nat.mul_mod_left _ _) (by omega)]
  rw [Nat.mul_comm c q]; simp; omega
theorem take_step {l : List UInt8} {at_ k : Nat} {c : UInt8} (h : l[at_ + k]? = some c) : (l.drop at_).take (k + 1) = (l.drop at_).take k ++ [c] := by
  rw [List.take_add_one, List.getElem?_drop, h]; rfl
set_option maxHeartbeats 1000000 in
theorem get_true (A : Option Addr) (n cap : Nat) (l : List UInt8) (at_ x : Nat) (w : World) (h : Rd w w.heap.size A n cap l) (hh : holdsB n at_ x = true) (hx : x = 1 ∨ x = 2 ∨ x = 4 ∨ x = 8) (hat : at_ + x ≤ n) :
    Calls Tryz.prog 70 #[.slice A n cap, .int .i64 at_, .int .i64 x] w fun e w' => e = .returned (.tuple #[.int .u64 (num ((l.drop at_).take x)), .bool true]) ∧ Below w.heap.size w w' := by
  have hmax : n ≤ maxLen := Nat.le_trans h.2.1 h.2.2.1
  obtain ⟨b, off, rfl, hlt, hc⟩ := h.2.2.2.2 (by omega)
  have HL := hid h.1
  have HC := hid hc
  clear h hc
  have hmax' : n ≤ 9223372036854775807 := hmax
  go_enter Tryz.func70, Tryz.ntmps70
  go_wp2_with fail
  refine (holds_any _ n cap at_ x _ hmax).mono ?_
  rintro e w1 ⟨rfl, hb1⟩
  go_wp2_with fail
  go_loop [8, 16] (fun s i => ∃ k : Nat, k ≤ x ∧ i = .int .i64 k ∧ s = .int .u64 (num ((l.drop at_).take k))) (fun _ i => x - (intOf i).toNat)
  case atStart => exact ⟨0, by omega, rfl, by simp [num]⟩
  case round =>
    obtain ⟨k, hk, rfl, rfl⟩ := hrel
    by_cases hlt2 : k < x
    · have hi : at_ + k < l.length := by have := HL.out; omega
      have hcell : w1.cell? ⟨b, off + (at_ + k), none⟩ = some (.int .u8 (l[at_ + k].toNat)) := (hb1.cell (p := ⟨b, off + (at_ + k), none⟩) hlt).trans (HC.out (at_ + k) hi)
      have hin : (at_ : Int) + k < n := by omega
      obtain ⟨c, hcc⟩ : ∃ c, l[at_ + k]? = some c := ⟨_, List.getElem?_eq_getElem hi⟩
      have e : l[at_ + k] = c := by rw [List.getElem?_eq_getElem hi] at hcc; exact Option.some.inj hcc
      rw [e] at hcell
      have HCC := hid hcc; clear hcc e hi
      have hc0 : 0 ≤ (c.toNat : Int) := by omega
      have hc1 : (c.toNat : Int) < 256 := by have := c.toNat_lt; omega
      go_wp2
      refine ⟨⟨k + 1, by omega, by go_num, ?_⟩, by simp [intOf]; omega⟩
      have hl := HL.out
      have hlen : ((l.drop at_).take k).length = k := by simp; omega
      have hb := num_bounds ((l.drop at_).take k)
      rw [hlen] at hb
      rw [or_step _ _ k (by omega) hb.1 hb.2 hc0 hc1, take_step HCC.out, num_append, hlen]
      simp [num]
    · go_wp2
      go_ret2
      obtain rfl : k = x := by omega
      exact ⟨rfl, hb1⟩
set_option maxHeartbeats 1000000 in
theorem get_false (A : Option Addr) (n cap : Nat) (at_ x : Int) (w : World) (hmax : n ≤ maxLen) (hh : holdsB n at_ x = false) :
    Calls Tryz.prog 70 #[.slice A n cap, .int .i64 at_, .int .i64 x] w fun e w' => e = .returned (.tuple #[.int .u64 0, .bool false]) ∧ Below w.heap.size w w' := by
  go_enter Tryz.func70, Tryz.ntmps70
  go_wp2_with fail
  refine (holds_any _ n cap at_ x _ hmax).mono ?_
  rintro e w1 ⟨rfl, hb1⟩
  go_wp2_with fail
  go_ret2
  exact ⟨rfl, hb1⟩
def getN (l : List UInt8) (at_ x : Int) : Int := if holdsB l.length at_ x then num ((l.drop at_.toNat).take x.toNat) else 0
theorem get_any (A : Option Addr) (n cap : Nat) (l : List UInt8) (at_ x : Int) (w : World) (h : Rd w w.heap.size A n cap l) :
    Calls Tryz.prog 70 #[.slice A n cap, .int .i64 at_, .int .i64 x] w fun e w' => e = .returned (.tuple #[.int .u64 (getN l at_ x), .bool (holdsB n at_ x)]) ∧ Below w.heap.size w w' := by
  have hl := h.1
  cases hh : holdsB n at_ x with
  | false =>
    refine (get_false A n cap at_ x w (Nat.le_trans h.2.1 h.2.2.1) hh).mono ?_
    rintro e w' ⟨rfl, hb⟩
    exact ⟨by simp [getN, hl, hh], hb⟩
  | true =>
    have hh' := hh
    simp [holdsB] at hh'
    have hx := isW_cases hh'.1.1
    obtain ⟨k, rfl⟩ := Int.eq_ofNat_of_zero_le (show 0 ≤ x by omega)
    obtain ⟨a, rfl⟩ := Int.eq_ofNat_of_zero_le (show 0 ≤ at_ by omega)
    refine (get_true A n cap l a k w h hh (by omega) (by omega)).mono ?_
    rintro e w' ⟨rfl, hb⟩
    exact ⟨by simp [getN, hl, hh], hb⟩
end Go.Proofs.YtaegencmnmjgbaaGreat
