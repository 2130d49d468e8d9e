/-
  Values and fields: whether a field may be, how many bytes, whether a value is right, what may be cast (the words of the proofs).
  Fields: names, which are right, where they stand: mathematics (the words of the proofs).
  The contract of word.lay: the lowest bytes of a number over those of a row.
  Contracts of the functions of word that work on bytes: holds, Put, Set, Pad; and of bytes.Clone.
  The contract of word.Get.
  Contracts of the document's own answers for layer 1 that take numbers alone: Right, top, Sign, Fits, Size; and of word.Size.
  Contracts of the document's own answers for layer 1 that work on bytes: Put, Get, Set, Pad.
  The contract of the document's own Set for layer 1.
  Regions that draw their order: what is held may grow on the way.
-/
import Derived.Test.YtjodbopnibdolaaM1
import Derived.Laws.BitsAllLaws
import Derived.Deep.QuietTactic
import Derived.BigQuiet
import Derived.Deep.RegionHeld3

namespace Go.Proofs.Ytjodbopnibdolaa
open Go.RowKit
set_option linter.unusedVariables false

def mayF (k g : Int) : Bool := if k = 12 then decide (0 < g) && decide (g ≤ 64) else decide (0 < k) && decide (k < 12) && decide (g = 0)
def longF (k g : Int) : Int := if mayF k g then (if k = 12 then g else sizeOfKind k) else 0
/-- Is a value of the kind vk, with bits n and m bytes of text, right of a field? -/
def rightF (vk n : Int) (m : Nat) (k g : Int) : Bool :=
  mayF k g && decide (vk = k) && (if k = 12 then decide (n = 0) && decide ((m : Int) = g) else decide (m = 0) && (if k = 9 then decide (n < 2) else (decide (9 < k) || fits n (longF k g) (decide (4 < k)))))
def castsF (k g k' g' : Int) : Bool :=
  mayF k g && mayF k' g' && (if k = k' then true else if k ≤ 4 ∧ k' ≤ 8 then decide (longF k g < longF k' g') else if k = 9 ∧ k' ≤ 8 then decide (longF k g < longF k' g') || decide (k' = 1) else if 5 ≤ k ∧ k ≤ 8 ∧ 5 ≤ k' ∧ k' ≤ 8 then decide (longF k g < longF k' g') else if k ≤ 8 ∧ k' = 10 then true else decide (k = 10) && decide (k' = 8))

theorem mayF12 (g : Int) : mayF 12 g = (decide (0 < g) && decide (g ≤ 64)) := by simp [mayF]
theorem mayF_ne {k g : Int} (h : k ≠ 12) : mayF k g = (decide (0 < k) && decide (k < 12) && decide (g = 0)) := by simp [mayF, h]
/-- The kinds that may be, but Bytes. -/
theorem may_cases {k g : Int} (h : mayF k g = true) (hk : k ≠ 12) : g = 0 ∧ (k = 1 ∨ k = 2 ∨ k = 3 ∨ k = 4 ∨ k = 5 ∨ k = 6 ∨ k = 7 ∨ k = 8 ∨ k = 9 ∨ k = 10 ∨ k = 11) := by
  rw [mayF_ne hk] at h; simp at h; omega
theorem may12 {g : Int} (h : mayF 12 g = true) : 0 < g ∧ g ≤ 64 := by
  rw [mayF12] at h; simpa using h
theorem longF_nonneg (k g : Int) : 0 ≤ longF k g := by
  unfold longF; split
  · rename_i h; split
    · rename_i h2; subst h2; have := may12 h; omega
    · unfold sizeOfKind; repeat' split
      all_goals omega
  · omega
theorem longF_le (k g : Int) : longF k g ≤ 64 := by
  unfold longF; split
  · rename_i h; split
    · rename_i h2; subst h2; have := may12 h; omega
    · unfold sizeOfKind; repeat' split
      all_goals omega
  · omega
end Go.Proofs.Ytjodbopnibdolaa

namespace Go.Proofs.Ytjodbopnibdolaa
open Go.RowKit
set_option linter.unusedVariables false

/-- A field: its name, kind, and length. -/
structure Fd where
  nm : List UInt8
  k : Int
  g : Int
  deriving DecidableEq
/-- The most bytes that a text of an argument has. -/
def nmMax : Nat := 140737488351232
def Fd.may (f : Fd) : Bool := mayF f.k f.g
def Fd.long (f : Fd) : Int := longF f.k f.g
def ltB (c : UInt8) : Bool := decide (97 ≤ c.toNat) && decide (c.toNat ≤ 122)
def chB (c : UInt8) : Bool := ltB c || (decide (48 ≤ c.toNat) && decide (c.toNat ≤ 57)) || decide (c.toNat = 95)
/-- May it be a name? -/
def nameB (s : List UInt8) : Bool := decide (1 ≤ s.length) && decide (s.length ≤ 15) && s.all chB && s.head?.any ltB
/-- The number of the first field of a name; -1: there is none. -/
def findN : List Fd → List UInt8 → Option Nat
  | [], _ => none
  | f :: l, nm => if f.nm = nm then some 0 else (findN l nm).map (· + 1)
def findI (l : List Fd) (nm : List UInt8) : Int := match findN l nm with | some i => (i : Int) | none => -1
def rightL (l : List Fd) : Bool := decide (l.length ≤ 16) && (List.range l.length).all fun i => match l[i]? with | some f => nameB f.nm && f.may && decide (findN l f.nm = some i) | none => true
/-- Where a field stands that may begin at a place. -/
def placeF (at_ : Int) (f : Fd) : Int := if f.k = 12 then at_ else (at_ + f.long - 1) / f.long * f.long
def layP : Int → List Fd → List Int
  | _, [] => []
  | at_, f :: l => placeF at_ f :: layP (placeF at_ f + f.long) l
def layE : Int → List Fd → Int
  | at_, [] => at_
  | at_, f :: l => layE (placeF at_ f + f.long) l
def up8 (n : Int) : Int := (n + 7) / 8 * 8
/-- How many bytes an object has. -/
def layN (l : List Fd) : Int := up8 (layE 0 l)

theorem findN_get : ∀ {l : List Fd} {nm : List UInt8} {i : Nat}, findN l nm = some i → ∃ f, l[i]? = some f ∧ f.nm = nm ∧ ∀ j, j < i → ∀ f', l[j]? = some f' → f'.nm ≠ nm := by
  intro l
  induction l with
  | nil => intro nm i h; cases h
  | cons f l ih =>
    intro nm i h
    unfold findN at h
    by_cases c : f.nm = nm
    · rw [if_pos c] at h; cases h
      exact ⟨f, rfl, c, fun j hj => absurd hj (by omega)⟩
    · rw [if_neg c] at h
      cases hf : findN l nm with
      | none => rw [hf] at h; cases h
      | some j =>
        rw [hf] at h
        obtain rfl : j + 1 = i := by simpa using h
        obtain ⟨f', h1, h2, h3⟩ := ih hf
        refine ⟨f', by simpa using h1, h2, fun m hm f'' hf'' => ?_⟩
        cases m with
        | zero => simp at hf''; rw [← hf'']; exact c
        | succ m => exact h3 m (by omega) f'' (by simpa using hf'')
theorem findN_none : ∀ {l : List Fd} {nm : List UInt8}, findN l nm = none → ∀ f ∈ l, f.nm ≠ nm := by
  intro l
  induction l with
  | nil => intro nm _ f hf; cases hf
  | cons f l ih =>
    intro nm h f' hf'
    unfold findN at h
    by_cases c : f.nm = nm
    · rw [if_pos c] at h; cases h
    · rw [if_neg c] at h
      cases hf : findN l nm with
      | none =>
        rcases List.mem_cons.1 hf' with rfl | h2
        · exact c
        · exact ih hf f' h2
      | some j => rw [hf] at h; cases h
theorem findN_some {l : List Fd} {nm : List UInt8} {i : Nat} {f : Fd} (hi : l[i]? = some f) (hn : f.nm = nm) (h : ∀ j, j < i → ∀ f', l[j]? = some f' → f'.nm ≠ nm) : findN l nm = some i := by
  cases hf : findN l nm with
  | none => exact absurd hn (findN_none hf f (List.mem_of_getElem? hi))
  | some k =>
    obtain ⟨f', h1, h2, h3⟩ := findN_get hf
    rcases Nat.lt_trichotomy k i with c | c | c
    · exact absurd h2 (h k c f' h1)
    · rw [c]
    · exact absurd hn (h3 i c f hi)
theorem findN_no {l : List Fd} {nm : List UInt8} (h : ∀ f ∈ l, f.nm ≠ nm) : findN l nm = none := by
  cases hf : findN l nm with
  | none => rfl
  | some k =>
    obtain ⟨f, h1, h2, _⟩ := findN_get hf
    exact absurd h2 (h f (List.mem_of_getElem? h1))
theorem findN_le {l : List Fd} {i : Nat} {f : Fd} (hi : l[i]? = some f) : ∃ j, findN l f.nm = some j ∧ j ≤ i := by
  cases hf : findN l f.nm with
  | none => exact absurd rfl (findN_none hf f (List.mem_of_getElem? hi))
  | some k =>
    refine ⟨k, rfl, ?_⟩
    obtain ⟨f', h1, h2, h3⟩ := findN_get hf
    by_cases c : k ≤ i
    · exact c
    · exact absurd rfl (h3 i (by omega) f hi)
theorem findI_some {l : List Fd} {nm : List UInt8} {i : Nat} (h : findN l nm = some i) : findI l nm = (i : Int) := by unfold findI; rw [h]
theorem findI_none {l : List Fd} {nm : List UInt8} (h : findN l nm = none) : findI l nm = -1 := by unfold findI; rw [h]
theorem rightL_iff {l : List Fd} : rightL l = true ↔ l.length ≤ 16 ∧ ∀ i f, l[i]? = some f → nameB f.nm = true ∧ f.may = true ∧ findN l f.nm = some i := by
  unfold rightL
  simp only [Bool.and_eq_true, decide_eq_true_eq, List.all_eq_true, List.mem_range]
  refine and_congr_right fun _ => ⟨fun h i f hi => ?_, fun h i hi => ?_⟩
  · have hl : i < l.length := by
      by_cases c : i < l.length
      · exact c
      · rw [List.getElem?_eq_none (by omega)] at hi; cases hi
    have := h i hl
    rw [hi] at this
    simp only [Bool.and_eq_true, decide_eq_true_eq] at this
    exact ⟨this.1.1, this.1.2, this.2⟩
  · rw [List.getElem?_eq_getElem hi]
    obtain ⟨h1, h2, h3⟩ := h i _ (List.getElem?_eq_getElem hi)
    simp [h1, h2, h3]
/-! ### where they stand -/
theorem long_pos {f : Fd} (h : f.may = true) : 1 ≤ f.long ∧ f.long ≤ 64 := by
  unfold Fd.may at h
  refine ⟨?_, longF_le _ _⟩
  unfold Fd.long longF
  rw [if_pos h]
  by_cases c : f.k = 12
  · rw [if_pos c]; rw [c] at h; have := may12 h; omega
  · rw [if_neg c]
    obtain ⟨_, h2⟩ := may_cases h c
    rcases h2 with h2 | h2 | h2 | h2 | h2 | h2 | h2 | h2 | h2 | h2 | h2 <;> rw [h2] <;> decide
theorem long_w {f : Fd} (h : f.may = true) (c : f.k ≠ 12) : f.long = 1 ∨ f.long = 2 ∨ f.long = 4 ∨ f.long = 8 := by
  unfold Fd.may at h
  unfold Fd.long longF
  rw [if_pos h, if_neg c]
  obtain ⟨_, h2⟩ := may_cases h c
  rcases h2 with h2 | h2 | h2 | h2 | h2 | h2 | h2 | h2 | h2 | h2 | h2 <;> rw [h2] <;> decide
theorem place_ge {at_ : Int} {f : Fd} (h : f.may = true) (h0 : 0 ≤ at_) : at_ ≤ placeF at_ f ∧ placeF at_ f < at_ + 8 ∧ (f.k ≠ 12 → placeF at_ f % f.long = 0 ∧ placeF at_ f < at_ + f.long) := by
  unfold placeF
  by_cases c : f.k = 12
  · rw [if_pos c]; exact ⟨by omega, by omega, fun h => absurd c h⟩
  · rw [if_neg c]
    rcases long_w h c with e | e | e | e <;> rw [e] <;> refine ⟨by omega, by omega, fun _ => ⟨by omega, by omega⟩⟩
/-- The first place from one on that is a multiple is the place. -/
theorem place_first {at_ z : Int} {f : Fd} (h : f.may = true) (c : f.k ≠ 12) (h0 : 0 ≤ at_) (h1 : at_ ≤ z) (h2 : z ≤ placeF at_ f) (h3 : z % f.long = 0) : z = placeF at_ f := by
  have hp := (place_ge h h0).2.2 c
  unfold placeF at h2 hp ⊢
  rw [if_neg c] at h2 hp ⊢
  rcases long_w h c with e | e | e | e <;> rw [e] at h2 h3 hp ⊢ <;> omega
theorem up8_ge (n : Int) : n ≤ up8 n ∧ up8 n < n + 8 ∧ up8 n % 8 = 0 := by unfold up8; omega
theorem layP_length : ∀ (l : List Fd) (a : Int), (layP a l).length = l.length := by
  intro l; induction l with
  | nil => intro a; rfl
  | cons f l ih => intro a; simp [layP, ih]
theorem layE_append : ∀ (l l' : List Fd) (a : Int), layE a (l ++ l') = layE (layE a l) l' := by
  intro l; induction l with
  | nil => intro l' a; rfl
  | cons f l ih => intro l' a; exact ih l' _
theorem layP_append : ∀ (l l' : List Fd) (a : Int), layP a (l ++ l') = layP a l ++ layP (layE a l) l' := by
  intro l; induction l with
  | nil => intro l' a; rfl
  | cons f l ih => intro l' a; have := ih l' (placeF a f + f.long); show placeF a f :: layP (placeF a f + f.long) (l ++ l') = placeF a f :: (layP (placeF a f + f.long) l ++ layP (layE (placeF a f + f.long) l) l'); rw [this]
theorem layE_take {l : List Fd} {i : Nat} {f : Fd} (h : l[i]? = some f) (a : Int) : layE a (l.take (i + 1)) = placeF (layE a (l.take i)) f + f.long := by
  rw [List.take_add_one, h, layE_append]; rfl
theorem layP_take {l : List Fd} {i : Nat} {f : Fd} (h : l[i]? = some f) (a : Int) : layP a (l.take (i + 1)) = layP a (l.take i) ++ [placeF (layE a (l.take i)) f] := by
  rw [List.take_add_one, h, layP_append]; rfl
theorem layP_get {l : List Fd} {i : Nat} {f : Fd} (h : l[i]? = some f) (a : Int) : (layP a l)[i]? = some (placeF (layE a (l.take i)) f) := by
  have hi : i < l.length := by
    by_cases c : i < l.length
    · exact c
    · rw [List.getElem?_eq_none (by omega)] at h; cases h
  have e : l = l.take i ++ l.drop i := (List.take_append_drop i l).symm
  have hd : l.drop i = f :: l.drop (i + 1) := by
    rw [List.drop_eq_getElem_cons hi]
    rw [List.getElem?_eq_getElem hi] at h
    cases h; rfl
  have hl : (layP a (l.take i)).length = i := by rw [layP_length, List.length_take]; omega
  have e2 : layP a l = layP a (l.take i) ++ layP (layE a (l.take i)) (l.drop i) := by rw [← layP_append, List.take_append_drop]
  rw [e2, List.getElem?_append_right (by omega), hl, Nat.sub_self, hd]
  rfl
theorem layE_bounds : ∀ (l : List Fd) (a : Int), (∀ f ∈ l, f.may = true) → 0 ≤ a → a ≤ layE a l ∧ layE a l ≤ a + 72 * l.length := by
  intro l; induction l with
  | nil => intro a _ _; show a ≤ a ∧ a ≤ a + 72 * ((0 : Nat) : Int); omega
  | cons f l ih =>
    intro a hm h0
    have hf := hm f (by simp)
    have h1 := place_ge hf h0
    have h2 := long_pos hf
    have h3 := ih (placeF a f + f.long) (fun x hx => hm x (by simp [hx])) (by omega)
    show a ≤ layE (placeF a f + f.long) l ∧ layE (placeF a f + f.long) l ≤ a + 72 * ((l.length + 1 : Nat) : Int)
    omega
theorem layE_mono {l : List Fd} (hm : ∀ f ∈ l, f.may = true) {i j : Nat} (h : i ≤ j) : layE 0 (l.take i) ≤ layE 0 (l.take j) := by
  have e : l.take j = l.take i ++ (l.take j).drop i := by
    have := (List.take_append_drop i (l.take j)).symm
    rwa [List.take_take, Nat.min_eq_left h] at this
  rw [e, layE_append]
  exact (layE_bounds _ _ (fun f hf => hm f (List.mem_of_mem_take (List.mem_of_mem_drop hf))) (layE_bounds _ _ (fun f hf => hm f (List.mem_of_mem_take hf)) (Int.le_refl _)).1).1
theorem right_may {l : List Fd} (h : rightL l = true) : ∀ f ∈ l, f.may = true := fun f hf => by
  obtain ⟨i, hi⟩ := List.mem_iff_getElem?.1 hf
  exact ((rightL_iff.1 h).2 i f hi).2.1
theorem right_len {l : List Fd} (h : rightL l = true) : l.length ≤ 16 := (rightL_iff.1 h).1
theorem layN_bounds {l : List Fd} (h : rightL l = true) : 0 ≤ layN l ∧ layN l ≤ 1160 ∧ layE 0 l ≤ layN l := by
  have h1 := layE_bounds l 0 (right_may h) (Int.le_refl _)
  have h2 := right_len h
  have h3 := up8_ge (layE 0 l)
  unfold layN
  omega
/-- A field stands within the object, behind all fields ahead. -/
theorem lay_in {l : List Fd} (h : rightL l = true) {i : Nat} {f : Fd} (hi : l[i]? = some f) {p : Int} (hp : (layP 0 l)[i]? = some p) : 0 ≤ p ∧ p + f.long ≤ layN l ∧ layE 0 (l.take i) ≤ p ∧ p + f.long = layE 0 (l.take (i + 1)) := by
  rw [layP_get hi] at hp
  cases hp
  have hm := right_may h
  have h0 : 0 ≤ layE 0 (l.take i) := (layE_bounds _ _ (fun f hf => hm f (List.mem_of_mem_take hf)) (Int.le_refl _)).1
  have h1 := place_ge (hm f (List.mem_of_getElem? hi)) h0
  have h2 := layE_take hi 0
  have h3 := layN_bounds h
  have h4 := layE_mono hm (i := i + 1) (j := l.length) (by
    by_cases c : i < l.length
    · omega
    · rw [List.getElem?_eq_none (by omega)] at hi; cases hi)
  rw [List.take_length] at h4
  omega
/-- Two fields stand apart. -/
theorem lay_apart {l : List Fd} (h : rightL l = true) {i j : Nat} {f f' : Fd} (hi : l[i]? = some f) (hj : l[j]? = some f') (hij : i < j) {p q : Int} (hp : (layP 0 l)[i]? = some p) (hq : (layP 0 l)[j]? = some q) : p + f.long ≤ q := by
  have h1 := lay_in h hi hp
  have h2 := lay_in h hj hq
  have h3 := layE_mono (right_may h) (i := i + 1) (j := j) (by omega)
  omega
end Go.Proofs.Ytjodbopnibdolaa

namespace Go.Proofs.Ytjodbopnibdolaa
open Go.RowKit
set_option linter.unusedVariables false

end Go.Proofs.Ytjodbopnibdolaa

namespace Go.Proofs.Ytjodbopnibdolaa
open Go.RowKit
set_option linter.unusedVariables false

/-- Whether a number of that width stands in so many bytes from at on. -/
def holdsB (len : Nat) (at_ x : Int) : Bool := isW x && decide (0 ≤ at_) && decide (at_ ≤ (len : Int) - x)

/-- Bytes, and as many bytes 0 behind as it takes to whole words. -/
def padL (l : List UInt8) : List UInt8 := l ++ List.replicate ((l.length + 7) / 8 * 8 - l.length) 0
theorem padL_length (l : List UInt8) : (padL l).length = (l.length + 7) / 8 * 8 := by simp [padL]; omega

/-- What Put answers. -/
def putL (l : List UInt8) (nn x : Int) : List UInt8 := if fits nn x false then l ++ le nn x.toNat else l

theorem fits_w {nn x : Int} {b : Bool} (h : fits nn x b = true) : x = 1 ∨ x = 2 ∨ x = 4 ∨ x = 8 := by
  unfold fits at h
  exact isW_cases (Bool.and_eq_true_iff.1 h).1

/-- What Set answers. -/
def setOk (n : Nat) (at_ x nn : Int) : Bool := holdsB n at_ x && fits nn x false

def setR (l : List UInt8) (at_ x nn : Int) : List UInt8 := if setOk l.length at_ x nn then setL l at_.toNat (le nn x.toNat) else []

end Go.Proofs.Ytjodbopnibdolaa

namespace Go.Proofs.Ytjodbopnibdolaa
open Go.RowKit
set_option linter.unusedVariables false

/-- The number that bytes say, the lowest first. -/
def num : List UInt8 → Int
  | [] => 0
  | c :: r => c.toNat + 256 * num r

theorem num_append (a b : List UInt8) : num (a ++ b) = num a + pw a.length * num b := by
  induction a with
  | nil => simp [num, pw]
  | cons c r ih =>
    simp only [List.cons_append, num, ih, List.length_cons, pw_succ]
    rw [Int.mul_add, ← Int.mul_assoc, Int.mul_comm 256 (pw _)]; omega

theorem num_bounds (a : List UInt8) : 0 ≤ num a ∧ num a < pw a.length := by
  induction a with
  | nil => simp [num, pw]
  | cons c r ih =>
    have h := c.toNat_lt
    simp only [num, List.length_cons, pw_succ]; omega

theorem or_step (a c : Int) (k : Nat) (hk : k < 8) (h0 : 0 ≤ a) (ha : a < pw k) (hc0 : 0 ≤ c) (hc : c < 256) :
    bits .or .u64 a (IntKind.u64.wrap (c * 2 ^ (8 * k))) = a + pw k * c := by
  obtain ⟨a, rfl⟩ := Int.eq_ofNat_of_zero_le h0
  obtain ⟨c, rfl⟩ := Int.eq_ofNat_of_zero_le hc0
  rw [two_pw, IntKind.wrap_u64]
  have hp := pw_pos k
  have hp7 := pw_le7 (k := k) (by omega)
  obtain ⟨q, hq⟩ := Int.eq_ofNat_of_zero_le (show 0 ≤ pw k by omega)
  have hq2 : q = 2 ^ (8 * k) := by
    have := two_pw k; rw [hq] at this; exact_mod_cast this.symm
  rw [hq] at ha hp hp7 ⊢
  have h1 : (c : Int) * q ≤ 255 * q := Int.mul_le_mul_of_nonneg_right (by omega) (by omega)
  have h2 : (c : Int) * q = ((c * q : Nat) : Int) := by simp
  rw [Int.emod_eq_of_lt (by rw [h2]; omega) (by omega), h2, u64_or_nat a (c * q) (by omega) (by omega), Nat.or_comm, nat_join (8 * k) (c * q) a (by rw [hq2]; exact Nat.mul_mod_left _ _) (by omega)]
  rw [Nat.mul_comm c q]; simp; omega

theorem take_step {l : List UInt8} {at_ k : Nat} {c : UInt8} (h : l[at_ + k]? = some c) : (l.drop at_).take (k + 1) = (l.drop at_).take k ++ [c] := by
  rw [List.take_add_one, List.getElem?_drop, h]; rfl

/-- What Get answers. -/
def getN (l : List UInt8) (at_ x : Int) : Int := if holdsB l.length at_ x then num ((l.drop at_.toNat).take x.toNat) else 0

end Go.Proofs.Ytjodbopnibdolaa

namespace Go.Proofs.Ytjodbopnibdolaa
open Go.RowKit
set_option linter.unusedVariables false

set_option maxHeartbeats 400000 in
theorem right_any (x : Int) (w : World) :
    Calls Try.prog 57 #[.int .i64 x] w fun e w' => e = .returned (.bool (isW x)) ∧ w = w' := by
  by_cases h1 : x = 1
  · subst h1; go_enter Try.func57, Try.ntmps57; go_wp2; go_ret; exact ⟨rfl, rfl⟩
  have b1 : (x == 1) = false := by simpa using h1
  by_cases h2 : x = 2
  · subst h2; go_enter Try.func57, Try.ntmps57; go_wp2; go_ret; exact ⟨rfl, rfl⟩
  have b2 : (x == 2) = false := by simpa using h2
  by_cases h4 : x = 4
  · subst h4; go_enter Try.func57, Try.ntmps57; go_wp2; go_ret; exact ⟨rfl, rfl⟩
  have b4 : (x == 4) = false := by simpa using h4
  by_cases h8 : x = 8
  · subst h8; go_enter Try.func57, Try.ntmps57; go_wp2; go_ret; exact ⟨rfl, rfl⟩
  have b8 : (x == 8) = false := by simpa using h8
  go_enter Try.func57, Try.ntmps57; go_wp2; go_ret
  exact ⟨ret_bool (by simp [isW, b1, b2, b4, b8]), rfl⟩

set_option maxHeartbeats 400000 in
theorem top_any (x : Int) (w : World) (hx : 0 ≤ x) (hx8 : x ≤ 8) :
    Calls Try.prog 59 #[.int .i64 x] w fun e w' => e = .returned (.int .u64 (pw x - 1)) ∧ w = w' := by
  obtain ⟨m, rfl⟩ := Int.eq_ofNat_of_zero_le hx
  go_enter Try.func59, Try.ntmps59
  go_wp2
  go_loop [3, 4] (fun n i => ∃ k : Nat, k ≤ m ∧ i = .int .i64 k ∧ n = .int .u64 (pw k - 1)) (fun _ i => m - (intOf i).toNat)
  case atStart => exact ⟨0, by omega, rfl, by simp [pw]⟩
  case round =>
    obtain ⟨k, hk, rfl, rfl⟩ := hrel
    by_cases hlt : k < m
    · go_wp2
      go_round
      case rel => exact ⟨k + 1, by omega, by go_num, by rw [top_step (by omega)]⟩
      case measure => simp [intOf]; omega
    · go_wp2
      go_ret
      obtain rfl : k = m := by omega
      exact ⟨rfl, rfl⟩

theorem top1 (w : World) : Calls Try.prog 59 #[.int .i64 1] w fun e w' => e = .returned (.int .u64 255) ∧ w = w' := by
  have h := top_any 1 w (by decide) (by decide); rw [pw1] at h; exact h
theorem top2 (w : World) : Calls Try.prog 59 #[.int .i64 2] w fun e w' => e = .returned (.int .u64 65535) ∧ w = w' := by
  have h := top_any 2 w (by decide) (by decide); rw [pw2] at h; exact h
theorem top4 (w : World) : Calls Try.prog 59 #[.int .i64 4] w fun e w' => e = .returned (.int .u64 4294967295) ∧ w = w' := by
  have h := top_any 4 w (by decide) (by decide); rw [pw4] at h; exact h
theorem top8 (w : World) : Calls Try.prog 59 #[.int .i64 8] w fun e w' => e = .returned (.int .u64 18446744073709551615) ∧ w = w' := by
  have h := top_any 8 w (by decide) (by decide); rw [pw8] at h; exact h


set_option maxHeartbeats 1000000 in
theorem rsign1 (n : Int) (w : World) (hn : U64 n) :
    Calls Try.prog 58 #[.int .u64 n, .int .i64 1] w fun e w' => e = .returned (.int .u64 (sgn n 1)) ∧ w = w' := by
  have h0 := hn.1
  have hw : isW 1 = true := rfl
  by_cases hlow : n % 256 ≤ 127
  all_goals
    go_enter Try.func58, Try.ntmps58
    go_wp2_with (first | (go_at_call 57; refine (right_any _ _).mono ?_; rintro e w' ⟨rfl, rfl⟩) | (go_at_call 59; refine (top1 _).mono ?_; rintro e w' ⟨rfl, rfl⟩))
    go_ret
  · exact ⟨ret_int (by simp [sgn, hw, pw1]; omega), rfl⟩
  · exact ⟨ret_int (by rw [IntKind.wrap_u64, IntKind.wrap_u64]; simp [sgn, hw, pw1, pw8]; omega), rfl⟩

set_option maxHeartbeats 1000000 in
theorem rsign2 (n : Int) (w : World) (hn : U64 n) :
    Calls Try.prog 58 #[.int .u64 n, .int .i64 2] w fun e w' => e = .returned (.int .u64 (sgn n 2)) ∧ w = w' := by
  have h0 := hn.1
  have hw : isW 2 = true := rfl
  by_cases hlow : n % 65536 ≤ 32767
  all_goals
    go_enter Try.func58, Try.ntmps58
    go_wp2_with (first | (go_at_call 57; refine (right_any _ _).mono ?_; rintro e w' ⟨rfl, rfl⟩) | (go_at_call 59; refine (top2 _).mono ?_; rintro e w' ⟨rfl, rfl⟩))
    go_ret
  · exact ⟨ret_int (by simp [sgn, hw, pw2]; omega), rfl⟩
  · exact ⟨ret_int (by rw [IntKind.wrap_u64, IntKind.wrap_u64]; simp [sgn, hw, pw2, pw8]; omega), rfl⟩

set_option maxHeartbeats 1000000 in
theorem rsign4 (n : Int) (w : World) (hn : U64 n) :
    Calls Try.prog 58 #[.int .u64 n, .int .i64 4] w fun e w' => e = .returned (.int .u64 (sgn n 4)) ∧ w = w' := by
  have h0 := hn.1
  have hw : isW 4 = true := rfl
  by_cases hlow : n % 4294967296 ≤ 2147483647
  all_goals
    go_enter Try.func58, Try.ntmps58
    go_wp2_with (first | (go_at_call 57; refine (right_any _ _).mono ?_; rintro e w' ⟨rfl, rfl⟩) | (go_at_call 59; refine (top4 _).mono ?_; rintro e w' ⟨rfl, rfl⟩))
    go_ret
  · exact ⟨ret_int (by simp [sgn, hw, pw4]; omega), rfl⟩
  · exact ⟨ret_int (by rw [IntKind.wrap_u64, IntKind.wrap_u64]; simp [sgn, hw, pw4, pw8]; omega), rfl⟩

set_option maxHeartbeats 1000000 in
theorem rsign8 (n : Int) (w : World) (hn : U64 n) :
    Calls Try.prog 58 #[.int .u64 n, .int .i64 8] w fun e w' => e = .returned (.int .u64 (sgn n 8)) ∧ w = w' := by
  have h0 := hn.1
  have hw : isW 8 = true := rfl
  have h1 := hn.2
  by_cases hlow : n ≤ 9223372036854775807
  all_goals
    go_enter Try.func58, Try.ntmps58
    go_wp2_with (first | (go_at_call 57; refine (right_any _ _).mono ?_; rintro e w' ⟨rfl, rfl⟩) | (go_at_call 59; refine (top8 _).mono ?_; rintro e w' ⟨rfl, rfl⟩))
    go_ret
  · exact ⟨ret_int (sgn8 n hn).symm, rfl⟩
  · exact ⟨ret_int (by rw [sgn8 n hn]; rw [pw8] at h1; rw [IntKind.wrap_u64, IntKind.wrap_u64]; omega), rfl⟩

set_option maxHeartbeats 1000000 in
theorem rsign_any (n x : Int) (w : World) (hn : U64 n) :
    Calls Try.prog 58 #[.int .u64 n, .int .i64 x] w fun e w' => e = .returned (.int .u64 (sgn n x)) ∧ w = w' := by
  by_cases hx : isW x = true
  · rcases isW_cases hx with rfl | rfl | rfl | rfl
    · exact rsign1 n w hn
    · exact rsign2 n w hn
    · exact rsign4 n w hn
    · exact rsign8 n w hn
  · have hx' : isW x = false := by simpa using hx
    go_enter Try.func58, Try.ntmps58
    go_wp2_with (first | (go_at_call 57; refine (right_any _ _).mono ?_; rintro e w' ⟨rfl, rfl⟩))
    go_ret
    exact ⟨ret_int (by simp [sgn, hx']), rfl⟩

set_option maxHeartbeats 1000000 in
theorem rfits_any (n x : Int) (sg : Bool) (w : World) (hn : U64 n) :
    Calls Try.prog 46 #[.int .u64 n, .int .i64 x, .bool sg] w fun e w' => e = .returned (.bool (fits n x sg)) ∧ w = w' := by
  have h0 := hn.1
  by_cases hx : isW x = true
  · have hx8 : 0 ≤ x ∧ x ≤ 8 := by rcases isW_cases hx with rfl | rfl | rfl | rfl <;> omega
    cases sg
    · go_enter Try.func46, Try.ntmps46
      go_wp2_with (first | (go_at_call 57; refine (right_any _ _).mono ?_; rintro e w' ⟨rfl, rfl⟩) | (go_at_call 59; refine (top_any _ _ hx8.1 hx8.2).mono ?_; rintro e w' ⟨rfl, rfl⟩))
      go_ret
      exact ⟨ret_bool (by rw [Bool.eq_iff_iff]; simp [fits, hx]; omega), rfl⟩
    · go_enter Try.func46, Try.ntmps46
      go_wp2_with (first | (go_at_call 57; refine (right_any _ _).mono ?_; rintro e w' ⟨rfl, rfl⟩) | (go_at_call 58; refine (rsign_any _ _ _ hn).mono ?_; rintro e w' ⟨rfl, rfl⟩))
      go_ret
      exact ⟨ret_bool (by simp [fits, hx]), rfl⟩
  · have hx' : isW x = false := by simpa using hx
    go_enter Try.func46, Try.ntmps46
    go_wp2_with (first | (go_at_call 57; refine (right_any _ _).mono ?_; rintro e w' ⟨rfl, rfl⟩))
    go_ret
    exact ⟨ret_bool (by simp [fits, hx']), rfl⟩
end Go.Proofs.Ytjodbopnibdolaa

namespace Go.Proofs.Ytjodbopnibdolaa
open Go.RowKit
set_option linter.unusedVariables false

/-- What the document's Put answers. -/
def rputL (nn x : Int) : List UInt8 := if fits nn x false then le nn x.toNat else []

theorem conv1 (W : World) (c : UInt8) : (convert 106 9 (.slice (some ⟨W.heap.size, 0, none⟩) 1 1)).run Try.prog (W.alloc (.cells #[bv c] 5)) = .ok (.string ⟨#[c]⟩) (W.alloc (.cells #[bv c] 5)) := by
  obtain ⟨A, cap, hv, hr⟩ := (own_new W [c] 1 rfl (by unfold maxLen; omega)).rd
  cases hv
  exact hr.conv

theorem div_pw (n : Int) (k : Nat) : n / pw k / 256 = n / pw (k + 1 : Nat) := by
  rw [pw_succ, Int.ediv_ediv_of_nonneg (Int.le_of_lt (pw_pos k))]

theorem num_step {l : List UInt8} {j : Nat} {c : UInt8} {k : Nat} (h : l[j]? = some c) : num ((l.drop j).take (k + 1)) = c.toNat + 256 * num ((l.drop (j + 1)).take k) := by
  obtain ⟨hj, hc⟩ := List.getElem?_eq_some_iff.1 h
  rw [List.drop_eq_getElem_cons hj, hc, List.take_succ_cons]; rfl

/-- How long a text in a slot is. -/
def strLen : Value → Nat | .string s => s.size | _ => 0

end Go.Proofs.Ytjodbopnibdolaa

namespace Go.Proofs.Ytjodbopnibdolaa
open Go.RowKit
set_option linter.unusedVariables false

end Go.Proofs.Ytjodbopnibdolaa

namespace Go.Proofs.Ytjodbopnibdolaa
open Go.RowKit
set_option linter.unusedVariables false

section
variable {P : Program} {md : Region.Mode} {ops : Array Oper} {Q : Exit → Act → World → Prop} {S S' : World → Prop}
/-- What is shown under a stronger condition is shown under the weaker one. -/
theorem held_weaken (hS : ∀ w, S' w → S w) : ∀ (fuel : Nat) (listed : Array Bool) (a : Act) (w : World), wpAnyH P md ops Q S' fuel listed a w → wpAnyH P md ops Q S fuel listed a w
  | 0, _, _, _, h => h
  | fuel + 1, _, _, _, h => ⟨h.1, fun i hi => wpOp_mono (fun a' w' h' => ⟨hS _ h'.1, held_weaken hS fuel _ a' w' h'.2⟩) (h.2 i hi)⟩
end

/-- A world that goes on from w. -/
def Ext (w w' : World) : Prop := Below w.heap.size w w'
theorem Ext.refl (w : World) : Ext w w := B0 w
theorem Ext.trans {a b c : World} (h : Ext a b) (k : Ext b c) : Ext a c := Bt h k

variable {P : Program} {md : Region.Mode} {ops : Array Oper} {Q : Exit → Act → World → Prop}
/-- The beginning: from the world behind the draw on. -/
theorem reg_begin {id : Nat} {a : Act} {w : World} (hm : P.follows .mixedOrders = true)
    (h : ∀ w0, Ext w w0 → Ext w0 w0 → wpAnyH P .any ops (NoPanic Q) (Ext w0) ops.size (Array.replicate ops.size false) a w0) : (Code.region id ops true).wp P Q a w :=
  wp_region_noPanic <| wp_region_held_drew (S := Ext w.drew) hm (Ext.refl _) (fun _ => h w.drew (Below.drew (B0 w)) (Ext.refl _))
/-- Behind a call: on from the world that it left. -/
theorem reg_on {w w1 : World} {fuel : Nat} {listed : Array Bool} {a : Act} (h : Ext w w1) (k : Ext w1 w1 → wpAnyH P md ops Q (Ext w1) fuel listed a w1) : wpAnyH P md ops Q (Ext w) fuel listed a w1 :=
  held_weaken (fun _ h' => h.trans h') _ _ _ _ (k (Ext.refl _))
theorem at0 {α : Type} {o : α} {l : List α} : (o :: l).toArray[0]? = some o := rfl
theorem atS {α : Type} {o x : α} {l : List α} {n : Nat} (h : l.toArray[n]? = some x) : (o :: l).toArray[n + 1]? = some x := by simpa using h
theorem atS5 {α : Type} {o1 o2 o3 o4 o5 x : α} {l : List α} {n : Nat} (h : l.toArray[n]? = some x) : (o1 :: o2 :: o3 :: o4 :: o5 :: l).toArray[n + 5]? = some x := by simpa using h
/-- What yields in every world that goes on from here is taken first. -/
theorem reg_take (i : Nat) {oi : Oper} {v : Value} {fuel : Nat} {listed : Array Bool} {a : Act} {w w1 : World} (hi : ops[i]? = some oi)
    (hs : Region.noSelect ops = true) (hf : Region.free md ops listed i = true) (hr : (Region.ready md ops listed).contains i = true)
    (hy : Region.wanted oi (yielded ops a.tmps) = true) (hv : ∀ w', Ext w1 w' → (execOp a.eval oi).run P w' = .ok (.value v) w') (hS : Ext w1 w)
    (h : wpAnyH P md ops (NoPanic Q) (Ext w1) fuel (listed.setIfInBounds i true) (a.put oi.dst v) w) : wpAnyH P md ops (NoPanic Q) (Ext w1) (fuel + 1) listed a w :=
  wpAnyH_take hi hs hf hr (fun _ _ _ h => h) (Or.inl ⟨hy, hv⟩) hS h

/-! ### The same from a base on: what lies behind it may turn -/
def ExB (B : Nat) (w w' : World) : Prop := Below B w w'
theorem ExB.refl (B : Nat) (w : World) : ExB B w w := Below.refl _ _
theorem ExB.trans {B : Nat} {a b c : World} (h : ExB B a b) (k : ExB B b c) : ExB B a c := Below.trans h k
theorem reg_beginB (B : Nat) {id : Nat} {a : Act} {w : World} (hm : P.follows .mixedOrders = true)
    (h : ∀ w0, Hid (w0.heap = w.heap) → ExB B w w0 → ExB B w0 w0 → wpAnyH P .any ops (NoPanic Q) (ExB B w0) ops.size (Array.replicate ops.size false) a w0) : (Code.region id ops true).wp P Q a w :=
  wp_region_noPanic <| wp_region_held_drew (S := ExB B w.drew) hm (ExB.refl _ _) (fun _ => h w.drew (hid rfl) (Below.drew (Below.refl _ _)) (ExB.refl _ _))
theorem reg_onB {B : Nat} {w w1 : World} {fuel : Nat} {listed : Array Bool} {a : Act} (h : ExB B w w1) (k : ExB B w1 w1 → wpAnyH P md ops Q (ExB B w1) fuel listed a w1) : wpAnyH P md ops Q (ExB B w) fuel listed a w1 :=
  held_weaken (fun _ h' => h.trans h') _ _ _ _ (k (ExB.refl _ _))
theorem reg_takeB (i : Nat) {B : Nat} {oi : Oper} {v : Value} {fuel : Nat} {listed : Array Bool} {a : Act} {w w1 : World} (hi : ops[i]? = some oi)
    (hs : Region.noSelect ops = true) (hf : Region.free md ops listed i = true) (hr : (Region.ready md ops listed).contains i = true)
    (hy : Region.wanted oi (yielded ops a.tmps) = true) (hv : ∀ w', ExB B w1 w' → (execOp a.eval oi).run P w' = .ok (.value v) w') (hS : ExB B w1 w)
    (h : wpAnyH P md ops (NoPanic Q) (ExB B w1) fuel (listed.setIfInBounds i true) (a.put oi.dst v) w) : wpAnyH P md ops (NoPanic Q) (ExB B w1) (fuel + 1) listed a w :=
  wpAnyH_take hi hs hf hr (fun _ _ _ h => h) (Or.inl ⟨hy, hv⟩) hS h
/-- append at a step of a region, by its run's equation. -/
theorem step_append8 {w w' : World} {o : Oper} {a : Act} {K : Act → World → Prop} {Q : Exit → Act → World → Prop} {y : Nat → Option Bool} {v v' u : Value} (hgd : o.guard = none) (s x : Operand)
    (hop : o.op = .call { callee := .builtin .append, args := #[s, x], argTypes := #[106, 106] }) (hs : a.eval s = v) (hx : a.eval x = u)
    (hrun : (Builtin.append_ #[106, 106] o.type #[v, u]).run Try.prog w = .ok v' w') (hk : K (a.put o.dst v') w') :
    if Region.wanted o y = true then Oper.wp Try.prog o a w K Q else K (a.put o.dst undef) w := by
  simp only [Region.wanted, hgd, if_true]
  unfold Oper.wp execOp
  simp only [hop, resolve, invoke, builtin, Sem.run_bind, Sem.run_pure, Result.andThen_ok, List.map_toArray, List.map_cons, List.map_nil, hs, hx, hrun]
  exact hk
theorem reg_skip {P : Program} {md : Region.Mode} {ops : Array Oper} {Q : Exit → Act → World → Prop} (i : Nat) {oi : Oper} {fuel : Nat} {listed : Array Bool} {a : Act} {w w1 : World} (hi : ops[i]? = some oi)
    (hs : Region.noSelect ops = true) (hf : Region.free md ops listed i = true) (hr : (Region.ready md ops listed).contains i = true)
    (hy : Region.wanted oi (yielded ops a.tmps) = false) (hS : Ext w1 w)
    (h : wpAnyH P md ops (NoPanic Q) (Ext w1) fuel (listed.setIfInBounds i true) (a.put oi.dst undef) w) : wpAnyH P md ops (NoPanic Q) (Ext w1) (fuel + 1) listed a w :=
  wpAnyH_take hi hs hf hr (fun _ _ _ h => h) (Or.inr ⟨hy, rfl⟩) hS h

/-! ### Regions that draw: one block may turn -/
def ExO (r : Option Nat) (w w' : World) : Prop := w.grownBy w' r
theorem ExO.refl (r : Option Nat) (w : World) : ExO r w w := grown_refl w r
theorem ExO.trans {r : Option Nat} {a b c : World} (h : ExO r a b) (k : ExO r b c) : ExO r a c := World.grownBy.trans h k
section
variable {P : Program} {md : Region.Mode} {ops : Array Oper} {Q : Exit → Act → World → Prop}
theorem reg_beginO (r : Option Nat) {id : Nat} {a : Act} {w : World} (hm : P.follows .mixedOrders = true)
    (h : ∀ w0, Hid (w0.heap = w.heap) → ExO r w w0 → ExO r w0 w0 → wpAnyH P .any ops (NoPanic Q) (ExO r w0) ops.size (Array.replicate ops.size false) a w0) : (Code.region id ops true).wp P Q a w :=
  wp_region_noPanic <| wp_region_held_drew (S := ExO r w.drew) hm (ExO.refl _ _) (fun _ => h w.drew (hid rfl) ⟨rfl, rfl, rfl, Nat.le_refl _, fun _ _ _ => rfl⟩ (ExO.refl _ _))
theorem reg_onO {r : Option Nat} {w w1 : World} {fuel : Nat} {listed : Array Bool} {a : Act} (h : ExO r w w1) (k : ExO r w1 w1 → wpAnyH P md ops Q (ExO r w1) fuel listed a w1) : wpAnyH P md ops Q (ExO r w) fuel listed a w1 :=
  held_weaken (fun _ h' => h.trans h') _ _ _ _ (k (ExO.refl _ _))
theorem reg_takeO (i : Nat) {r : Option Nat} {oi : Oper} {v : Value} {fuel : Nat} {listed : Array Bool} {a : Act} {w w1 : World} (hi : ops[i]? = some oi)
    (hs : Region.noSelect ops = true) (hf : Region.free md ops listed i = true) (hr : (Region.ready md ops listed).contains i = true)
    (hy : Region.wanted oi (yielded ops a.tmps) = true) (hv : ∀ w', ExO r w1 w' → (execOp a.eval oi).run P w' = .ok (.value v) w') (hS : ExO r w1 w)
    (h : wpAnyH P md ops (NoPanic Q) (ExO r w1) fuel (listed.setIfInBounds i true) (a.put oi.dst v) w) : wpAnyH P md ops (NoPanic Q) (ExO r w1) (fuel + 1) listed a w :=
  wpAnyH_take hi hs hf hr (fun _ _ _ h => h) (Or.inl ⟨hy, hv⟩) hS h
end
end Go.Proofs.Ytjodbopnibdolaa
