/-
  Contract of the document's Decode (written by tools/kindd.py).
  Whole numbers of 64 bits; slices of them that read as a list.
  Fields in memory; the document's Find, Name, Right of layer 6.
  From what a law's arguments hold to what its walk is told: slices of fields, slices of values.
  Contract of the document's Casts (written by tools/kindc.py).
-/
import Derived.Test.YtjodbopnibdolaaGreatM4
import Derived.Test.YtjodbopnibdolaaGreatM1
import Derived.Deep.QuietTactic
import Derived.BigQuiet
import Derived.Test.YtjodbopnibdolaaGreatM2
import Derived.Deep.Slices
import Derived.Deep.Fields
import Derived.ChangeSame
import Derived.SizedLaws

namespace Go.Proofs.YtjodbopnibdolaaGreat
open Go.RowKit
set_option linter.unusedVariables false
set_option linter.unusedSimpArgs false

/-- What bytes say, by a field's kind. -/
def decN (k : Int) (l : List UInt8) : Int := if k = 12 then 0 else if 4 < k ∧ k < 9 then sgn (getN l 0 l.length) l.length else getN l 0 l.length
def decT (k : Int) (l : List UInt8) : ByteArray := if k = 12 then ⟨l.toArray⟩ else ⟨#[]⟩
def decB (l : List UInt8) (k g : Int) : Bool := rightF k (decN k l) (decT k l).size k g && decide ((encT k (decN k l) (decT k l) k g).toList = l)
def decR (l : List UInt8) (k g : Int) : Value := if decB l k g then .tuple #[.agg #[.int .i64 k, .int .u64 (decN k l), .string (decT k l)], .int .i64 0] else .tuple #[.agg #[.int .i64 0, .int .u64 0, .string ⟨#[]⟩], .int .i64 50]
theorem decR_ok {l : List UInt8} {k g : Int} (h : decB l k g = true) : decR l k g = .tuple #[.agg #[.int .i64 k, .int .u64 (decN k l), .string (decT k l)], .int .i64 0] := by simp [decR, h]
theorem decR_no {l : List UInt8} {k g : Int} (h : decB l k g = false) : decR l k g = .tuple #[.agg #[.int .i64 0, .int .u64 0, .string ⟨#[]⟩], .int .i64 50] := by simp [decR, h]
theorem getN_U64 (l : List UInt8) (a x : Int) : U64 (getN l a x) := by
  unfold getN; split
  · rename_i h
    have hw0 : isW x = true := by
      unfold holdsB at h
      rw [Bool.and_eq_true, Bool.and_eq_true] at h
      exact h.1.1
    have hw := isW_cases hw0
    have hb := num_bounds ((l.drop a.toNat).take x.toNat)
    have hle : ((l.drop a.toNat).take x.toNat).length ≤ 8 := by rw [List.length_take]; omega
    refine ⟨hb.1, Int.lt_of_lt_of_le hb.2 ?_⟩
    rw [pw8]
    have h8 : ∀ m : Nat, m ≤ 8 → pw (m : Int) ≤ 18446744073709551616 := by
      intro m hm
      have : m = 0 ∨ m = 1 ∨ m = 2 ∨ m = 3 ∨ m = 4 ∨ m = 5 ∨ m = 6 ∨ m = 7 ∨ m = 8 := by omega
      rcases this with rfl | rfl | rfl | rfl | rfl | rfl | rfl | rfl | rfl <;> decide
    exact h8 _ hle
  · exact ⟨by decide, by rw [pw8]; decide⟩
theorem decN_U64 (k : Int) (l : List UInt8) : U64 (decN k l) := by
  unfold decN; split
  · exact ⟨by decide, by rw [pw8]; decide⟩
  · split
    · exact sgn_U64 _ _ (getN_U64 _ _ _)
    · exact getN_U64 _ _ _
theorem vb_new2 (w : World) (o : Obj) (k n : Int) (t : ByteArray) : VB ((w.alloc o).alloc (.cells #[.int .i64 k, .int .u64 n, .string t] 33)) (w.heap.size + 1) k n t := by
  have h := vb_new (w.alloc o) k n t
  rwa [World.size_alloc] at h
theorem vb_new3 (w : World) (o o' : Obj) (k n : Int) (t : ByteArray) : VB (((w.alloc o).alloc o').alloc (.cells #[.int .i64 k, .int .u64 n, .string t] 33)) (w.heap.size + 1 + 1) k n t := by
  have h := vb_new2 (w.alloc o) o' k n t
  rwa [World.size_alloc] at h
end Go.Proofs.YtjodbopnibdolaaGreat

namespace Go.Proofs.YtjodbopnibdolaaGreat
open Go.RowKit
set_option linter.unusedVariables false

def I64 (k : Int) : Prop := (Lit.int .i64 k).wf = true
theorem i64_iff {k : Int} : I64 k ↔ -9223372036854775808 ≤ k ∧ k ≤ 9223372036854775807 := by
  simp [I64, Lit.wf, IntKind.min, IntKind.max, IntKind.bits, IntKind.signed]

/-! ### A slice of numbers that reads as a list -/
def RdI (w : World) (B : Nat) (A : Option Addr) (n cap : Nat) (l : List Int) : Prop :=
  l.length = n ∧ n ≤ cap ∧ cap ≤ maxLen ∧ (∀ x ∈ l, I64 x) ∧
    (0 < n → ∃ b off, A = some ⟨b, off, none⟩ ∧ b < B ∧ ∀ i (h : i < l.length), w.cell? ⟨b, off + i, none⟩ = some (.int .i64 l[i]))
section
variable {w w' : World} {B B' n cap : Nat} {A : Option Addr} {l : List Int}
theorem RdI.below (h : RdI w B A n cap l) (hb : Below B w w') : RdI w' B A n cap l :=
  ⟨h.1, h.2.1, h.2.2.1, h.2.2.2.1, fun hn => by
    obtain ⟨b, off, e, hlt, hc⟩ := h.2.2.2.2 hn
    exact ⟨b, off, e, hlt, fun i hi => (hb.cell (p := ⟨b, off + i, none⟩) hlt).trans (hc i hi)⟩⟩
theorem RdI.more (h : RdI w B A n cap l) (hB : B ≤ B') : RdI w B' A n cap l :=
  ⟨h.1, h.2.1, h.2.2.1, h.2.2.2.1, fun hn => by
    obtain ⟨b, off, e, hlt, hc⟩ := h.2.2.2.2 hn
    exact ⟨b, off, e, by omega, hc⟩⟩
theorem RdI.on (h : RdI w w.heap.size A n cap l) (hb : Below w.heap.size w w') : RdI w' w'.heap.size A n cap l := (h.below hb).more hb.size
theorem RdI.nil (w : World) (B : Nat) : RdI w B none 0 0 [] := ⟨rfl, by omega, by simp [maxLen], by simp, fun h => by omega⟩
end

end Go.Proofs.YtjodbopnibdolaaGreat

namespace Go.Proofs.YtjodbopnibdolaaGreat
open Go.RowKit
set_option linter.unusedVariables false

abbrev bs (x : List UInt8) : ByteArray := ⟨x.toArray⟩
theorem bs_toList (x : List UInt8) : (bs x).toList = x := ByteArray.toList_mk x
def FdC (w : World) (b off : Nat) (f : Fd) : Prop := w.cell? ⟨b, off, none⟩ = some (.string (bs f.nm)) ∧ w.cell? ⟨b, off + 1, none⟩ = some (.int .i64 f.k) ∧ w.cell? ⟨b, off + 2, none⟩ = some (.int .i64 f.g)
/-- A slice of fields. -/
def RdF (w : World) (B : Nat) (A : Option Addr) (n cap : Nat) (l : List Fd) : Prop :=
  l.length = n ∧ n ≤ cap ∧ cap ≤ maxLen ∧ (∀ f ∈ l, I64 f.k ∧ I64 f.g ∧ f.nm.length ≤ nmMax) ∧ (0 < n → ∃ b off, A = some ⟨b, off, none⟩ ∧ b < B ∧ ∀ i (h : i < l.length), FdC w b (off + i * 3) l[i])
section
variable {w w' : World} {B B' n cap : Nat} {A : Option Addr} {l : List Fd}
theorem FdC.below {b off : Nat} {f : Fd} (h : FdC w b off f) (hb : Below B w w') (hlt : b < B) : FdC w' b off f :=
  ⟨(hb.cell (p := ⟨b, off, none⟩) hlt).trans h.1, (hb.cell (p := ⟨b, off + 1, none⟩) hlt).trans h.2.1, (hb.cell (p := ⟨b, off + 2, none⟩) hlt).trans h.2.2⟩
theorem RdF.below (h : RdF w B A n cap l) (hb : Below B w w') : RdF w' B A n cap l :=
  ⟨h.1, h.2.1, h.2.2.1, h.2.2.2.1, fun hn => by
    obtain ⟨b, off, e, hlt, hc⟩ := h.2.2.2.2 hn
    exact ⟨b, off, e, hlt, fun i hi => (hc i hi).below hb hlt⟩⟩
theorem RdF.more (h : RdF w B A n cap l) (hB : B ≤ B') : RdF w B' A n cap l :=
  ⟨h.1, h.2.1, h.2.2.1, h.2.2.2.1, fun hn => by
    obtain ⟨b, off, e, hlt, hc⟩ := h.2.2.2.2 hn
    exact ⟨b, off, e, by omega, hc⟩⟩
theorem RdF.on (h : RdF w w.heap.size A n cap l) (hb : Below w.heap.size w w') : RdF w' w'.heap.size A n cap l := (h.below hb).more hb.size
theorem RdF.nil (w : World) (B : Nat) : RdF w B none 0 0 [] := ⟨rfl, by omega, by simp [maxLen], by simp, fun h => by omega⟩
/-- The field at a place of a slice, in every world that goes on from here. -/
theorem RdF.at (h : RdF w B A n cap l) {i : Nat} {f : Fd} (hi : l[i]? = some f) : i < n ∧ I64 f.k ∧ I64 f.g ∧ f.nm.length ≤ nmMax ∧ ∃ b off, A = some ⟨b, off, none⟩ ∧ ∀ w', Below B w w' → FdC w' b (off + i * 3) f := by
  have hl : i < l.length := by
    by_cases c : i < l.length
    · exact c
    · rw [List.getElem?_eq_none (by omega)] at hi; cases hi
  rw [List.getElem?_eq_getElem hl] at hi
  cases hi
  obtain ⟨b, off, e, hlt, hc⟩ := h.2.2.2.2 (by have := h.1; omega)
  obtain ⟨h1, h2, h3⟩ := h.2.2.2.1 _ (List.getElem_mem hl)
  exact ⟨by have := h.1; omega, h1, h2, h3, b, off, e, fun w' hb => (hc i hl).below hb hlt⟩
end
set_option maxHeartbeats 1000000 in
theorem r6find_any {w : World} {A : Option Addr} {n c : Nat} {l : List Fd} (h : RdF w w.heap.size A n c l) (nm : List UInt8) :
    Calls Tryz.prog 16 #[.slice A n c, .string (bs nm)] w fun e w' => e = .returned (.int .i64 (findI l nm)) ∧ Below w.heap.size w w' := by
  have HL := hid h.1
  have hnm : (n : Int) ≤ 9223372036854775807 := by have := Nat.le_trans h.2.1 h.2.2.1; unfold maxLen at this; omega
  have H := hid h; clear h
  go_enter Tryz.func16, Tryz.ntmps16
  go_wp2_with fail
  go_loopw [5] (fun i wr => ∃ j : Nat, j ≤ n ∧ i = .int .i64 j ∧ Hid (∀ m, m < j → ∀ f, l[m]? = some f → f.nm ≠ nm) ∧ Hid (Below w.heap.size w wr)) (fun i _ => n - (intOf i).toNat)
  case atStart => exact ⟨0, by omega, rfl, hid (fun m hm => absurd hm (by omega)), B0 w⟩
  case round =>
    obtain ⟨j, hj, rfl, HN, hb⟩ := hrel
    by_cases hlt : j < n
    · have hjl : j < l.length := by have := HL.out; omega
      obtain ⟨f, hf⟩ : ∃ f, l[j]? = some f := ⟨_, List.getElem?_eq_getElem hjl⟩
      obtain ⟨_, _, _, _, b, off, rfl, hc⟩ := H.out.at hf
      obtain ⟨c0, _, _⟩ := hc wr hb.out
      have HF := hid hf
      have hji : (j : Int) < n := by omega
      have hj0 : (0 : Int) ≤ j := by omega
      clear hc hjl hf
      by_cases he : f.nm = nm
      · have t1 : (f.nm == nm) = true := by simpa using he
        have t2 : decide (f.nm = nm) = true := by simpa using he
        have HE : Hid (findI l nm = (j : Int)) := findI_some (findN_some HF.out he HN.out)
        clear he
        go_wp2_with fail
        go_ret
        exact ⟨by rw [HE.out]; rfl, hb.out⟩
      · have t1 : (f.nm == nm) = false := by rw [beq_eq_false_iff_ne]; exact he
        have t2 : decide (f.nm = nm) = false := by simpa using he
        have HE := hid he
        clear he
        go_wp2_with fail
        exact ⟨⟨j + 1, by omega, by go_num, hid (fun m hm f' hf' => by
          by_cases e : m = j
          · subst e; rw [HF.out] at hf'; cases hf'; exact HE.out
          · exact HN.out m (by omega) f' hf'), hb⟩, by simp [intOf]; omega⟩
    · obtain rfl : j = n := by omega
      have HE : Hid (findI l nm = -1) := findI_none (findN_no fun f hf => by
        obtain ⟨i, hi⟩ := List.mem_iff_getElem?.1 hf
        refine HN.out i ?_ f hi
        have := HL.out
        by_cases c : i < l.length
        · omega
        · rw [List.getElem?_eq_none (by omega)] at hi; cases hi)
      go_wp2_with fail
      go_ret
      exact ⟨by rw [HE.out]; rfl, hb.out⟩

def sgL : List UInt8 := [97, 98, 99, 100, 101, 102, 103, 104, 105, 106, 107, 108, 109, 110, 111, 112, 113, 114, 115, 116, 117, 118, 119, 120, 121, 122, 48, 49, 50, 51, 52, 53, 54, 55, 56, 57, 95]
/-- The last place of a sign among the first k. -/
def posI (c : UInt8) : Nat → Int
  | 0 => -1
  | k + 1 => if sgL.getD k 0 = c then (k : Int) else posI c k
theorem pos_all : ∀ n : Fin 256, (decide (posI (UInt8.ofNat n.val) 37 < 0) = !chB (UInt8.ofNat n.val)) ∧ (chB (UInt8.ofNat n.val) = true → decide (25 < posI (UInt8.ofNat n.val) 37) = !ltB (UInt8.ofNat n.val)) := by decide +kernel
theorem pos_ch (c : UInt8) : (decide (posI c 37 < 0) = !chB c) ∧ (chB c = true → decide (25 < posI c 37) = !ltB c) := by
  have := pos_all ⟨c.toNat, c.toNat_lt⟩
  simpa using this
theorem posI_le (c : UInt8) : ∀ k, -1 ≤ posI c k ∧ posI c k < k := by
  intro k; induction k with
  | zero => exact ⟨by simp [posI], by simp [posI]⟩
  | succ k ih => unfold posI; split <;> omega

theorem sg_at {m : Nat} (hm : m < 37) (h : m < (⟨sgL.toArray⟩ : ByteArray).size) : (⟨sgL.toArray⟩ : ByteArray)[m] = sgL.getD m 0 := by
  show sgL.toArray[m]'(by simpa [ByteArray.size] using h) = _
  rw [List.getElem_toArray, List.getD_eq_getElem?_getD, List.getElem?_eq_getElem (by show m < 37; exact hm)]
  rfl
theorem bs_at {s : List UInt8} {j : Nat} (hj : j < s.length) (h : j < (bs s).size) : (bs s)[j] = s[j] := by
  show s.toArray[j]'(by simpa [ByteArray.size] using h) = _
  rw [List.getElem_toArray]
theorem pos_step {s : List UInt8} {m j : Nat} {c : UInt8} (hm : m < 37) (hj : j < s.length) (hc : c = s[j]) (h1 : m < (⟨sgL.toArray⟩ : ByteArray).size) (h2 : j < (bs s).size) {B : Bool} (h : (((⟨sgL.toArray⟩ : ByteArray)[m].toNat : Int) == ((bs s)[j].toNat : Int)) = B) : posI c (m + 1) = if B then (m : Int) else posI c m := by
  rw [sg_at hm h1, bs_at hj h2, ← hc] at h
  have e : B = decide (sgL.getD m 0 = c) := by
    rw [← h, Bool.eq_iff_iff, beq_iff_eq, decide_eq_true_eq, Int.ofNat_inj, UInt8.toNat_inj]
  rw [e]
  show (if sgL.getD m 0 = c then (m : Int) else posI c m) = _
  simp
theorem name_take {s : List UInt8} {j : Nat} {c : UInt8} (hj : j < s.length) (hc : c = s[j]) (h : (s.take j).all chB = true) (hc2 : chB c = true) : (s.take (j + 1)).all chB = true := by
  rw [List.take_add_one, List.getElem?_eq_getElem hj, ← hc, List.all_append, h]; simp [hc2]
theorem name_no {s : List UInt8} {j : Nat} {c : UInt8} (hj : j < s.length) (hc : c = s[j]) (hc2 : chB c = false) : nameB s = false := by
  have : s.all chB = false := by
    cases h : s.all chB with
    | false => rfl
    | true => have := List.all_eq_true.1 h s[j] (List.getElem_mem hj); rw [← hc, hc2] at this; cases this
  simp [nameB, this]
theorem name_no0 {s : List UInt8} {c : UInt8} (hj : 0 < s.length) (hc : c = s[0]) (hc2 : ltB c = false) : nameB s = false := by
  have : s.head?.any ltB = false := by
    cases s with
    | nil => rfl
    | cons x s => simp at hc ⊢; rw [← hc]; exact hc2
  simp [nameB, this]

set_option maxRecDepth 20000 in
set_option maxHeartbeats 2000000 in
theorem r6name_any {w : World} (s : List UInt8) (hs : s.length ≤ 100000) :
    Calls Tryz.prog 14 #[.string (bs s)] w fun e w' => e = .returned (.bool (nameB s)) ∧ Below w.heap.size w w' := by
  have hsl : (s.length : Int) ≤ 100000 := by omega
  go_enter Tryz.func14, Tryz.ntmps14
  go_wp2_with fail
  go_loopw [4] (fun i wr => ∃ j : Nat, j ≤ s.length ∧ i = .int .i64 j ∧ Hid ((s.take j).all chB = true) ∧ Hid (0 < j → s.head?.any ltB = true) ∧ Hid (Below w.heap.size w wr)) (fun i _ => s.length - (intOf i).toNat)
  case atStart => exact ⟨0, by omega, rfl, hid (by simp), hid (fun h => absurd h (by omega)), B0 w⟩
  case round =>
    obtain ⟨j, hj, rfl, HA, HH, hb⟩ := hrel
    by_cases hlt : j < s.length
    · obtain ⟨c, hc⟩ : ∃ c, c = s[j] := ⟨_, rfl⟩
      have hji : (j : Int) < s.length := by omega
      go_wp2_with fail
      go_loopw [5, 6] (fun a k wr' => ∃ m : Nat, m ≤ 37 ∧ k = .int .i64 m ∧ a = .int .i64 (posI c m) ∧ Hid (Below w.heap.size w wr')) (fun _ k _ => 37 - (intOf k).toNat)
      case atStart => exact ⟨0, by omega, rfl, rfl, hb⟩
      case round =>
        obtain ⟨m, hm, rfl, rfl, hb2⟩ := hrel
        by_cases hm2 : m < 37
        · have hmi : (m : Int) < 37 := by omega
          go_wp2_with fail
          go_region
          go_wp2_with fail
          · rename_i hq
            exact ⟨⟨m + 1, by omega, by go_num, by rw [pos_step hm2 hlt hc _ _ hq]; rfl, Bd hb2.out 1⟩, by simp [intOf]; omega⟩
          · rename_i hq
            exact ⟨⟨m + 1, by omega, by go_num, by rw [pos_step hm2 hlt hc _ _ hq]; rfl, Bd hb2.out 1⟩, by simp [intOf]; omega⟩
        · obtain rfl : m = 37 := by omega
          obtain ⟨P, hP⟩ : ∃ P, P = posI c 37 := ⟨_, rfl⟩
          have hpc := pos_ch c
          have hpl := posI_le c 37
          rw [← hP] at hpc hpl ⊢
          have HLT := hid hlt; have HC := hid hc
          clear hP hc hm hm2
          cases hch : chB c with
          | false =>
            have d1 : decide (P < 0) = true := by rw [hpc.1, hch]; rfl
            have HE : Hid (nameB s = false) := name_no HLT.out HC.out hch
            clear hpc
            go_wp2_with fail
            go_ret
            exact ⟨by rw [HE.out]; rfl, hb2.out⟩
          | true =>
            have d1 : decide (P < 0) = false := by rw [hpc.1, hch]; rfl
            have d2 := hpc.2 hch
            have HCH := hid hch
            by_cases hz : j = 0
            · subst hz
              cases hl : ltB c with
              | false =>
                rw [hl] at d2
                have d3 : decide (25 < P) = true := d2
                have HE : Hid (nameB s = false) := name_no0 HLT.out HC.out hl
                clear hpc d2 hch
                go_wp2_with fail
                go_ret
                exact ⟨by rw [HE.out]; rfl, hb2.out⟩
              | true =>
                rw [hl] at d2
                have d3 : decide (25 < P) = false := d2
                have HLB := hid hl
                clear hpc d2 hch hl
                go_wp2_with fail
                exact ⟨⟨1, HLT.out, by go_num, hid (name_take HLT.out HC.out HA.out HCH.out), hid (fun _ => by
                  have h1 := HC.out; have h2 := HLT.out; have h3 := HLB.out
                  cases s with
                  | nil => simp at h2
                  | cons x s => simp at h1 ⊢; rw [← h1]; exact h3), hb2⟩, by have := HLT.out; simp [intOf]; omega⟩
            · have hz1 : ((j : Int) == 0) = false := by simpa using hz
              clear hpc d2 hch
              go_wp2_with fail
              exact ⟨⟨j + 1, HLT.out, by go_num, hid (name_take HLT.out HC.out HA.out HCH.out), hid (fun _ => HH.out (by omega)), hb2⟩, by have := HLT.out; simp [intOf]; omega⟩
    · obtain rfl : j = s.length := by omega
      have HA2 : Hid (s.all chB = true) := by have := HA.out; rw [List.take_length] at this; exact this
      by_cases h0 : s.length = 0
      · have HE : Hid (nameB s = false) := by show _ = _; simp [nameB, h0]
        have d1 : decide ((0 : Int) < (s.length : Int)) = false := decide_eq_false (by omega)
        go_wp2_with fail
        go_ret
        exact ⟨by rw [HE.out]; rfl, hb.out⟩
      · have d1 : decide ((0 : Int) < (s.length : Int)) = true := decide_eq_true (by omega)
        have HE : Hid (nameB s = decide ((s.length : Int) < 16)) := by
          show _ = _
          unfold nameB
          rw [HA2.out, HH.out (by omega), Bool.eq_iff_iff]
          simp only [Bool.and_true, Bool.and_eq_true, decide_eq_true_eq]; omega
        go_wp2_with fail
        go_ret
        exact ⟨by rw [HE.out]; rfl, hb.out⟩
end Go.Proofs.YtjodbopnibdolaaGreat

namespace Go.Proofs.YtjodbopnibdolaaGreat
open Go.ChangeShapes Go.WideShapes Go.ChangeAt Go.RowKit Go.Deep
set_option linter.unusedVariables false

section
variable {H : Type} {enc : TypeId × Value → H} {W : World} {fuel : Nat} {x : DataW H × List MemPlace}
theorem f_one : Tryz.prog.cellsOf 3 = 1 := by kernel_rfl
theorem f_ones : Tryz.prog.cellsOf 9 = 1 := by kernel_rfl
theorem f_oneu : Tryz.prog.cellsOf 31 = 1 := by kernel_rfl
theorem f_fd : Tryz.prog.cellsOf 29 = 3 := by kernel_rfl
theorem f_vl : Tryz.prog.cellsOf 33 = 3 := by kernel_rfl
theorem bs_data (s : ByteArray) : bs s.data.toList = s := by unfold bs; simp

set_option maxRecDepth 20000 in
theorem fd_of_trod {cs : List Value} (h : DataW.trod enc Tryz.prog W 0 (fun _ => true) true fuel 29 cs = some x) :
    ∃ f : Fd, (I64 f.k ∧ I64 f.g) ∧ cs = [.string (bs f.nm), .int .i64 f.k, .int .i64 f.g] ∧ f.nm.length ∈ x.1.weights Tryz.prog 29 := by
  obtain ⟨xs, n, _, hx, hlen, hxl, hf⟩ := DataW.trod_struct Tryz.underlying29 h
  rw [f_fd] at hlen
  match cs, hlen with
  | [c0, c1, c2], _ =>
    match xs, hxl with
    | [y0, y1, y2], _ =>
      have g0 : DataW.trod enc Tryz.prog W 0 (fun _ => true) true n 9 (List.take (Tryz.prog.cellsOf 9) (List.drop 0 [c0, c1, c2])) = some y0 := hf 0 _ rfl
      rw [f_ones] at g0
      change DataW.trod enc Tryz.prog W 0 (fun _ => true) true n 9 [c0] = some y0 at g0
      have g1 : DataW.trod enc Tryz.prog W 0 (fun _ => true) true n 3 (List.take (Tryz.prog.cellsOf 3) (List.drop 1 [c0, c1, c2])) = some y1 := hf 1 _ rfl
      rw [f_one] at g1
      change DataW.trod enc Tryz.prog W 0 (fun _ => true) true n 3 [c1] = some y1 at g1
      have g2 : DataW.trod enc Tryz.prog W 0 (fun _ => true) true n 3 (List.take (Tryz.prog.cellsOf 3) (List.drop 2 [c0, c1, c2])) = some y2 := hf 2 _ rfl
      rw [f_one] at g2
      change DataW.trod enc Tryz.prog W 0 (fun _ => true) true n 3 [c2] = some y2 at g2
      obtain ⟨a0, q0, e0, w0⟩ := DataW.trod_string Tryz.underlying9 g0
      obtain ⟨a1, q1, _, w1⟩ := DataW.trod_int Tryz.underlying3 g1
      obtain ⟨a2, q2, _, w2⟩ := DataW.trod_int Tryz.underlying3 g2
      simp at q0 q1 q2
      subst q0; subst q1; subst q2
      refine ⟨⟨a0.data.toList, a1, a2⟩, ⟨w1, w2⟩, by rw [bs_data], ?_⟩
      rw [hx, e0]
      simp [DataW.weights, Tryz.underlying29, DataW.weightsEach]
set_option maxRecDepth 20000 in
theorem rdF_of_trod {v : Value} (h : DataW.trod enc Tryz.prog W 0 (fun _ => true) true fuel 22 [v] = some x) (hz : ∀ n ∈ x.1.weights Tryz.prog 22, n ≤ reachBytes) : ∃ a len cap l, v = .slice a len cap ∧ RdF W W.heap.size a len cap l := by
  rcases open_slice Tryz.underlying22 h with ⟨hcs, _⟩ | ⟨a, len, cap, m, n, D, Pl, hcs, _, hl, hm, hmm, hx, hi⟩
  · simp at hcs
    exact ⟨none, 0, 0, [], hcs, RdF.nil _ _⟩
  · simp at hcs
    have hmc : m = cap := by simpa using hmm
    rw [f_fd] at hi
    have hch : ∀ i, i < len → ∃ o : Fd, ((I64 o.k ∧ I64 o.g) ∧ o.nm.length ≤ nmMax) ∧ ∃ cs', W.cells? 0 (a.add (i * 3)) 3 = some cs' ∧ cs' = [.string (bs o.nm), .int .i64 o.k, .int .i64 o.g] := by
      intro i hil
      obtain ⟨cs', hc, ht⟩ := hi i (by omega)
      obtain ⟨o, ho, e, hwt⟩ := fd_of_trod ht
      refine ⟨o, ⟨ho, ?_⟩, cs', hc, e⟩
      refine hz _ ?_
      rw [hx]
      have hin : ∀ (l : List (DataW H)) (d : DataW H) (k : Nat), d ∈ l → k ∈ d.weights Tryz.prog 29 → k ∈ DataW.weightsAll Tryz.prog 29 l := by
        intro l
        induction l with
        | nil => intro d k hd; cases hd
        | cons y l ih =>
          intro d k hd hk
          simp only [DataW.weightsAll, List.mem_append]
          rcases List.mem_cons.1 hd with rfl | hd
          · exact .inl hk
          · exact .inr (ih d k hd hk)
      simp only [DataW.weights, Tryz.underlying22, List.mem_cons, List.mem_append]
      exact .inr (.inl (hin _ (D i) _ (List.mem_map.2 ⟨i, List.mem_range.2 hil, rfl⟩) hwt))
    have hex : ∃ f : Nat → Fd, ∀ i, i < len → ((I64 (f i).k ∧ I64 (f i).g) ∧ (f i).nm.length ≤ nmMax) ∧ ∃ cs', W.cells? 0 (a.add (i * 3)) 3 = some cs' ∧ cs' = [.string (bs (f i).nm), .int .i64 (f i).k, .int .i64 (f i).g] := by
      refine ⟨fun i => if hi : i < len then (hch i hi).choose else ⟨[], 0, 0⟩, fun i hi => ?_⟩
      simp only [hi, dif_pos]
      exact (hch i hi).choose_spec
    obtain ⟨f, hf⟩ := hex
    refine ⟨some a, len, cap, (List.range len).map f, hcs, by simp, hl, hm, ?_, fun hn => ?_⟩
    · intro o ho
      obtain ⟨i, hi, rfl⟩ := List.mem_map.1 ho
      obtain ⟨⟨⟨h1, h2⟩, h3⟩, _⟩ := hf i (List.mem_range.1 hi)
      exact ⟨h1, h2, h3⟩
    · obtain ⟨b, off, spot⟩ := a
      have hcell : ∀ i, i < len → ∀ j, j < 3 → W.cell? ((Addr.mk b off spot).add (i * 3 + j)) = [Value.string (bs (f i).nm), .int .i64 (f i).k, .int .i64 (f i).g][j]? := by
        intro i hi j hj
        obtain ⟨_, cs', hc, e⟩ := hf i hi
        obtain ⟨_, _, hat⟩ := World.cells?_some hc
        have := hat j hj
        rw [Go.Deep.add_add, e] at this
        exact this
      have h0 := hcell 0 hn 0 (by omega)
      have hspot : spot = none := by
        have := World.cell?_spot (v := .string (bs (f 0).nm)) (by simpa using h0)
        simpa [Addr.add] using this
      subst hspot
      refine ⟨b, off, rfl, ?_, fun i hi => ?_⟩
      · simp only [add_plain] at h0
        by_cases hb : b < W.heap.size
        · exact hb
        · simp [World.cell?, Array.getElem?_eq_none (show W.heap.size ≤ b by omega)] at h0
      · simp at hi
        have c := fun j hj => hcell i hi j hj
        simp only [add_plain] at c
        have c0 := c 0 (by omega); have c1 := c 1 (by omega); have c2 := c 2 (by omega)
        simp only [List.getElem_map, List.getElem_range]
        refine ⟨by simpa using c0, ?_, ?_⟩
        · rw [Nat.add_assoc]; simpa using c1
        · rw [Nat.add_assoc]; simpa using c2

/-! ### values -/
/-- A value: its kind, bits, and text. -/
structure Vl where
  k : Int
  n : Int
  t : List UInt8
def VlC (w : World) (b off : Nat) (v : Vl) : Prop := w.cell? ⟨b, off, none⟩ = some (.int .i64 v.k) ∧ w.cell? ⟨b, off + 1, none⟩ = some (.int .u64 v.n) ∧ w.cell? ⟨b, off + 2, none⟩ = some (.string (bs v.t))
/-- A slice of values. -/
def RdV (w : World) (B : Nat) (A : Option Addr) (n cap : Nat) (l : List Vl) : Prop :=
  l.length = n ∧ n ≤ cap ∧ cap ≤ maxLen ∧ (∀ v ∈ l, I64 v.k ∧ U64 v.n ∧ v.t.length ≤ maxLen) ∧ (0 < n → ∃ b off, A = some ⟨b, off, none⟩ ∧ b < B ∧ ∀ i (h : i < l.length), VlC w b (off + i * 3) l[i])
set_option maxRecDepth 20000 in
theorem vl_of_trod {cs : List Value} (h : DataW.trod enc Tryz.prog W 0 (fun _ => true) true fuel 33 cs = some x) :
    ∃ f : Vl, (I64 f.k ∧ U64 f.n ∧ f.t.length ≤ maxLen) ∧ cs = [.int .i64 f.k, .int .u64 f.n, .string (bs f.t)] := by
  obtain ⟨xs, n, _, hx, hlen, hxl, hf⟩ := DataW.trod_struct Tryz.underlying33 h
  rw [f_vl] at hlen
  match cs, hlen with
  | [c0, c1, c2], _ =>
    match xs, hxl with
    | [y0, y1, y2], _ =>
      have g0 : DataW.trod enc Tryz.prog W 0 (fun _ => true) true n 3 (List.take (Tryz.prog.cellsOf 3) (List.drop 0 [c0, c1, c2])) = some y0 := hf 0 _ rfl
      rw [f_one] at g0
      change DataW.trod enc Tryz.prog W 0 (fun _ => true) true n 3 [c0] = some y0 at g0
      have g1 : DataW.trod enc Tryz.prog W 0 (fun _ => true) true n 31 (List.take (Tryz.prog.cellsOf 31) (List.drop 1 [c0, c1, c2])) = some y1 := hf 1 _ rfl
      rw [f_oneu] at g1
      change DataW.trod enc Tryz.prog W 0 (fun _ => true) true n 31 [c1] = some y1 at g1
      have g2 : DataW.trod enc Tryz.prog W 0 (fun _ => true) true n 9 (List.take (Tryz.prog.cellsOf 9) (List.drop 2 [c0, c1, c2])) = some y2 := hf 2 _ rfl
      rw [f_ones] at g2
      change DataW.trod enc Tryz.prog W 0 (fun _ => true) true n 9 [c2] = some y2 at g2
      obtain ⟨a0, q0, _, w0⟩ := DataW.trod_int Tryz.underlying3 g0
      obtain ⟨a1, q1, _, w1⟩ := DataW.trod_int Tryz.underlying31 g1
      obtain ⟨a2, q2, _, w2⟩ := DataW.trod_string Tryz.underlying9 g2
      simp at q0 q1 q2
      subst q0; subst q1; subst q2
      exact ⟨⟨a0, a1, a2.data.toList⟩, ⟨w0, U64.of_wf w1, by show a2.data.toList.length ≤ maxLen; rw [Array.length_toList]; exact w2⟩, by rw [bs_data]⟩
set_option maxRecDepth 20000 in
theorem rdV_of_trod {v : Value} (h : DataW.trod enc Tryz.prog W 0 (fun _ => true) true fuel 24 [v] = some x) : ∃ a len cap l, v = .slice a len cap ∧ RdV W W.heap.size a len cap l := by
  rcases open_slice Tryz.underlying24 h with ⟨hcs, _⟩ | ⟨a, len, cap, m, n, D, Pl, hcs, _, hl, hm, hmm, hx, hi⟩
  · simp at hcs
    exact ⟨none, 0, 0, [], hcs, rfl, by omega, by simp [maxLen], by simp, fun h => by omega⟩
  · simp at hcs
    have hmc : m = cap := by simpa using hmm
    rw [f_vl] at hi
    have hch : ∀ i, i < len → ∃ o : Vl, (I64 o.k ∧ U64 o.n ∧ o.t.length ≤ maxLen) ∧ ∃ cs', W.cells? 0 (a.add (i * 3)) 3 = some cs' ∧ cs' = [.int .i64 o.k, .int .u64 o.n, .string (bs o.t)] := by
      intro i hil
      obtain ⟨cs', hc, ht⟩ := hi i (by omega)
      obtain ⟨o, ho, e⟩ := vl_of_trod ht
      exact ⟨o, ho, cs', hc, e⟩
    have hex : ∃ f : Nat → Vl, ∀ i, i < len → (I64 (f i).k ∧ U64 (f i).n ∧ (f i).t.length ≤ maxLen) ∧ ∃ cs', W.cells? 0 (a.add (i * 3)) 3 = some cs' ∧ cs' = [.int .i64 (f i).k, .int .u64 (f i).n, .string (bs (f i).t)] := by
      refine ⟨fun i => if hi : i < len then (hch i hi).choose else ⟨0, 0, []⟩, fun i hi => ?_⟩
      simp only [hi, dif_pos]
      exact (hch i hi).choose_spec
    obtain ⟨f, hf⟩ := hex
    refine ⟨some a, len, cap, (List.range len).map f, hcs, by simp, hl, hm, ?_, fun hn => ?_⟩
    · intro o ho
      obtain ⟨i, hi, rfl⟩ := List.mem_map.1 ho
      exact (hf i (List.mem_range.1 hi)).1
    · obtain ⟨b, off, spot⟩ := a
      have hcell : ∀ i, i < len → ∀ j, j < 3 → W.cell? ((Addr.mk b off spot).add (i * 3 + j)) = [Value.int .i64 (f i).k, .int .u64 (f i).n, .string (bs (f i).t)][j]? := by
        intro i hi j hj
        obtain ⟨_, cs', hc, e⟩ := hf i hi
        obtain ⟨_, _, hat⟩ := World.cells?_some hc
        have := hat j hj
        rw [Go.Deep.add_add, e] at this
        exact this
      have h0 := hcell 0 hn 0 (by omega)
      have hspot : spot = none := by
        have := World.cell?_spot (v := .int .i64 (f 0).k) (by simpa using h0)
        simpa [Addr.add] using this
      subst hspot
      refine ⟨b, off, rfl, ?_, fun i hi => ?_⟩
      · simp only [add_plain] at h0
        by_cases hb : b < W.heap.size
        · exact hb
        · simp [World.cell?, Array.getElem?_eq_none (show W.heap.size ≤ b by omega)] at h0
      · simp at hi
        have c := fun j hj => hcell i hi j hj
        simp only [add_plain] at c
        have c0 := c 0 (by omega); have c1 := c 1 (by omega); have c2 := c 2 (by omega)
        simp only [List.getElem_map, List.getElem_range]
        refine ⟨by simpa using c0, ?_, ?_⟩
        · rw [Nat.add_assoc]; simpa using c1
        · rw [Nat.add_assoc]; simpa using c2
end
end Go.Proofs.YtjodbopnibdolaaGreat

namespace Go.Proofs.YtjodbopnibdolaaGreat
open Go.RowKit
set_option linter.unusedVariables false
set_option linter.unusedSimpArgs false

end Go.Proofs.YtjodbopnibdolaaGreat
