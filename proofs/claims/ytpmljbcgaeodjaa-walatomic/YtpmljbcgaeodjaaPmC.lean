/-
  The contracts of Fence, among and Crash.
-/
import Derived.Test.YtpmljbcgaeodjaaPmB
namespace Go.Proofs.Ytpmljbcgaeodjaa
open Go.RowKit Go.Maps
set_option linter.unusedVariables false

theorem Dev.keep {w w' : World} {B d g cap lb fb r : Nat} {S : List UInt8} {L : Int → Option (List UInt8)} {F : Int → Bool} (h : Dev w B d g cap lb fb S L F) (hg : w.grownBy w' (some r)) (h1 : d < r) (h2 : g < r) (h3 : lb < r) (h4 : fb < r) : Dev w' B d g cap lb fb S L F :=
  h.cong (hg.block d h.dlt (by simp; omega)) (hg.block g h.glt (by simp; omega)) (hg.block lb h.llt (by simp; omega)) (hg.block fb h.flt (by simp; omega))

/-- What is loose behind a Fence. -/
def feL (L : Int → Option (List UInt8)) (F : Int → Bool) : Int → Option (List UInt8) := fun k => if F k then none else L k

set_option maxHeartbeats 1000000 in
theorem fence_any {w : World} {B d g cap lb fb : Nat} {S : List UInt8} {L : Int → Option (List UInt8)} {F : Int → Bool} (h : Dev w B d g cap lb fb S L F) :
    Calls Try.prog 56 #[.pointer (some ⟨d, 0, none⟩)] w fun e w' => e = .returned (.tuple #[]) ∧ Dev w' B d g cap lb fb S (feL L F) (fun _ => false) ∧ Fr g lb fb w w' := by
  have hc2 := h.c2
  have HD := hid h
  clear h
  go_enter Try.func56, Try.ntmps56
  go_wp2_with (at_range; refine wpList_rangeM rfl _ 83 rfl 4 Try.underlying83 HD.out.mpF rfl ?_; intro w0 cnt0 hrg0 hg0 hs0)
  go_frame
  have hr0 : w.heap.size ≠ lb := by have := HD.out.llt; omega
  go_loopw [2] (fun _ wr => ∃ (left : Int → Bool) (cnt : Nat), Hid (MRg wr fb w.heap.size 8192 (ffun F) left cnt) ∧ Hid (Dev wr B d g cap lb fb S (feL L (fun k => F k && !left k)) F) ∧ Hid (Fr g lb fb w wr)) (fun _ wr => wr.rangeLeft fb w.heap.size)
  case atStart =>
    have hb0 : Fr g lb fb w w0 := (Fr.refl g lb fb w).by hg0 (fun j hj => by cases hj)
    refine ⟨_, cnt0, hrg0, ?_, hb0⟩
    have e : feL L (fun k => F k && !(ffun F k).isSome) = L := by
      funext k; unfold feL ffun; cases hF : F k <;> simp [hF]
    rw [e]
    exact HD.out.on ((B0 w).grown hg0 (Nat.le_refl _) (fun j hj => by cases hj))
  case round =>
    obtain ⟨left, cnt, hrg, hr, hbw⟩ := hrel
    have hcr1 := hr.out.c1; have hcr2 := hr.out.c2
    have HM := hid hrg.out.left_eq
    go_wp2_with (at_next; refine wpList_nextM rfl _ rfl hrg.out rfl ?_ ?_)
    · intro hl0
      have HL0 := hid hl0; clear hl0
      have HD1 : Hid (Dev wr B d g cap lb fb S (feL L F) F) := by
        have e : feL L (fun k => F k && !left k) = feL L F := by
          funext k; unfold feL
          cases hF : F k with
          | false => simp [hF]
          | true =>
            have h1 := HD.out.keyF k hF; have h2 := HD.out.len.2
            simp [hF, HL0.out k (i64_iff.2 (by omega))]
        rw [← e]; exact hr
      obtain ⟨w3, hrun3, hm3, ht3⟩ := HD1.out.mpF.clear Try.underlying83
      have hg3 := ht3.grown
      have HD3 : Hid (Dev w3 B d g cap lb fb S (feL L F) (fun _ => false)) := HD1.out.setF hg3 ⟨_, hm3.ext fun j => by simp [ffun]⟩ fun j hj => by cases hj
      have HB3 : Hid (Fr g lb fb w w3) := Fr.f hbw.out hg3
      clear hm3 ht3 hg3
      go_wp2_with fail
      go_end0
      exact ⟨rfl, HD3.out, HB3.out⟩
    · intro x c w1 cnt1 hx hlx hfx hrg1 hlt hg1 hs1 hen
      have hFx : F x = true := by unfold ffun at hfx; cases hF : F x <;> simp [hF] at hfx ⊢
      have HD1 : Hid (Dev w1 B d g cap lb fb S (feL L (fun k => F k && !left k)) F) := hr.out.keep hg1 HD.out.dlt HD.out.glt HD.out.llt HD.out.flt
      have hc11 := HD1.out.c1
      have HR1 := hid hrg1; have HFX := hid hfx; have HG1 := hid hg1
      clear hrg1 hfx hlx hg1
      go_wp2_with (at_delete; refine wpList_dropM (k := x) rfl _ _ 82 rfl 87 Try.underlying82 HD1.out.mpL rfl rfl hx ?_; intro w3 hm3 ht3; go_frame)
      have hg3 := ht3.grown
      refine ⟨⟨fun z => left z && !decide (z = x), cnt1, HR1.out.kept hg3 (by have := HD.out.ne; simp; omega) (by simp; omega), ?_, ?_⟩, ?_⟩
      · refine HD1.out.setL hg3 ⟨_, hm3.ext fun j => ?_⟩ fun j y hj => ?_
        · by_cases e : j = x
          · subst e; simp [cut, lfun, feL, hFx]
          · simp [cut, lfun, feL, e]
        · by_cases e : j = x
          · subst e; simp [feL, hFx] at hj
          · refine HD1.out.keyL j y ?_
            simpa [feL, e] using hj
      · exact Fr.l (Fr.n hbw.out HG1.out (Nat.le_refl _)) hg3
      · rw [(HR1.out.kept hg3 (by have := HD.out.ne; simp; omega) (by simp; omega)).left_eq, HM.out]; exact hlt

/-! ### A slice of numbers that reads as a list -/
def RdI (w : World) (B : Nat) (A : Option Addr) (n cap : Nat) (l : List Int) : Prop :=
  l.length = n ∧ n ≤ cap ∧ cap ≤ maxLen ∧ (∀ x ∈ l, I64 x) ∧
    (0 < n → ∃ b off, A = some ⟨b, off, none⟩ ∧ b < B ∧ ∀ i (h : i < l.length), w.cell? ⟨b, off + i, none⟩ = some (.int .i64 l[i]))
section
variable {w w' : World} {B B' n cap : Nat} {A : Option Addr} {l : List Int}
theorem RdI.below (h : RdI w B A n cap l) (hb : Below B w w') : RdI w' B A n cap l :=
  ⟨h.1, h.2.1, h.2.2.1, h.2.2.2.1, fun hn => by
    obtain ⟨b, off, e, hlt, hc⟩ := h.2.2.2.2 hn
    exact ⟨b, off, e, hlt, fun i hi => (hb.cell (p := ⟨b, off + i, none⟩) hlt).trans (hc i hi)⟩⟩
theorem RdI.more (h : RdI w B A n cap l) (hB : B ≤ B') : RdI w B' A n cap l :=
  ⟨h.1, h.2.1, h.2.2.1, h.2.2.2.1, fun hn => by
    obtain ⟨b, off, e, hlt, hc⟩ := h.2.2.2.2 hn
    exact ⟨b, off, e, by omega, hc⟩⟩
theorem RdI.on (h : RdI w w.heap.size A n cap l) (hb : Below w.heap.size w w') : RdI w' w'.heap.size A n cap l := (h.below hb).more hb.size
theorem RdI.nil (w : World) (B : Nat) : RdI w B none 0 0 [] := ⟨rfl, by omega, by simp [maxLen], by simp, fun h => by omega⟩
end

/-- The set of a list. -/
def inF (l : List Int) : Int → Option Value := fun k => if k ∈ l then some (.bool true) else none

set_option maxHeartbeats 1000000 in
theorem among_any {w : World} {A : Option Addr} {n c : Nat} {l : List Int} (h : RdI w w.heap.size A n c l) :
    Calls Try.prog 39 #[.slice A n c] w fun e w' => e = .returned (.func (.func 58) #[] #[.pointer (some ⟨w.heap.size + 1, 0, none⟩)]) ∧
      w'.heap[w.heap.size + 1]? = some (.cells #[.map (some w.heap.size)] 83 (0, 0)) ∧ (∃ m, Mp w' w.heap.size m (inF l)) ∧ Below w.heap.size w w' := by
  have hmm := @run_makeMap Try.prog
  have HL := hid h.1; have HCm := hid (Nat.le_trans h.2.1 h.2.2.1)
  have H := hid h; clear h
  go_enter Try.func39, Try.ntmps39
  go_wp2_with fail
  go_loopw [9] (fun i wr => ∃ j : Nat, j ≤ n ∧ i = .int .i64 j ∧ Hid (wr.heap[w.heap.size + 1]? = some (.cells #[.map (some w.heap.size)] 83 (0, 0))) ∧ Hid (Mp wr w.heap.size j (inF (l.take j))) ∧ Hid (Below w.heap.size w wr)) (fun i _ => n - (intOf i).toNat)
  case atStart =>
    refine ⟨0, by omega, rfl, ?_, ?_, Ba (B1 w _) _⟩
    · have := heap_alloc_new (w.alloc (.map #[] 0)) (.cells #[.map (some w.heap.size)] 83)
      show _ = _
      simpa using this
    · exact ((Mp.made w).alloc _).ext fun k => by simp [inF]
  case round =>
    obtain ⟨j, hj, rfl, hq, hm, hb⟩ := hrel
    by_cases hlt : j < n
    · obtain ⟨b, off, rfl, hbl, hc⟩ := H.out.2.2.2.2 (by omega)
      have hjl : j < l.length := by have := HL.out; omega
      have hcell : wr.cell? ⟨b, off + j, none⟩ = some (.int .i64 l[j]) := (hb.out.cell (p := ⟨b, off + j, none⟩) hbl).trans (hc j hjl)
      have hki : I64 l[j] := H.out.2.2.2.1 _ (List.getElem_mem hjl)
      have hcm : wr.cell? ⟨w.heap.size + 1, 0, none⟩ = some (.map (some w.heap.size)) := by rw [row_cell hq.out]; rfl
      have hjb : (j : Int) + 1 ≤ 9223372036854775807 := by have := HCm.out; unfold maxLen at this; omega
      have HT : Hid (∀ k, inF (l.take (j + 1)) k = upd (inF (l.take j)) l[j] (.bool true) k) := by
        intro k
        rw [List.take_succ_eq_append_getElem hjl]
        simp only [inF, upd, List.mem_append, List.mem_singleton]
        by_cases e : k = l[j] <;> simp [e]
      obtain ⟨x, hx⟩ : ∃ x, x = l[j] := ⟨_, rfl⟩
      rw [← hx] at hcell hki HT
      clear hx hc hjl
      go_wp2_with (at_mapUpdate; refine wpList_storeM (v := .bool true) (k := x) rfl _ _ _ 83 rfl 4 Try.underlying83 hm.out rfl (Nat.lt_of_lt_of_le hlt HCm.out) rfl rfl hki ?_; intro w3 hm3 ht3)
      have hg3 := ht3.grown
      have HM3 : Hid (Mp w3 w.heap.size (j + 1) (inF (l.take (j + 1)))) := hm3.ext fun k => (HT.out k).symm
      have HQ3 : Hid (w3.heap[w.heap.size + 1]? = some (.cells #[.map (some w.heap.size)] 83 (0, 0))) := (hg3.block _ (row_lt hq.out) (by simp)).trans hq.out
      have HB3 : Hid (Below w.heap.size w w3) := below_grown hb.out hg3 (Nat.le_refl _) (Nat.le_refl _)
      clear hm3 ht3 hg3
      go_wp2_with fail
      exact ⟨⟨j + 1, by omega, by go_num, HQ3, HM3, HB3⟩, by simp [intOf]; omega⟩
    · obtain rfl : j = n := by omega
      go_wp2_with fail
      go_ret
      have e : l.take j = l := List.take_of_length_le (by have := HL.out; omega)
      have := hm.out; rw [e] at this
      exact ⟨rfl, hq.out, ⟨j, this⟩, hb.out⟩

theorem asked_any {w : World} {q mb m : Nat} {l : List Int} (hq : w.cell? ⟨q, 0, none⟩ = some (.map (some mb))) (hm : Mp w mb m (inF l)) (k : Int) (hk : I64 k) :
    Calls Try.prog 58 #[.int .i64 k, .pointer (some ⟨q, 0, none⟩)] w fun e w' => e = .returned (.bool (decide (k ∈ l))) ∧ w' = w := by
  have hlk := hm.look Try.underlying83 (Try.zeroValue4 w) hk
  have e : (inF l k).getD (.bool false) = .bool (decide (k ∈ l)) := by unfold inF; by_cases h : k ∈ l <;> simp [h]
  rw [e] at hlk
  go_enter Try.func58, Try.ntmps58
  go_wp2
  go_ret
  exact ⟨rfl, rfl⟩

/-- What a crash leaves: kept words, and safe ones, as they are seen; else as they were. -/
def crS (S : List UInt8) (L : Int → Option (List UInt8)) (done : Int → Bool) : List UInt8 :=
  (List.range S.length).map fun i => match L (i / 8 : Nat) with
    | some x => if done (i / 8 : Nat) then x.getD (i % 8) 0 else S.getD i 0
    | none => S.getD i 0
theorem crS_length (S : List UInt8) (L : Int → Option (List UInt8)) (done : Int → Bool) : (crS S L done).length = S.length := by simp [crS]
end Go.Proofs.Ytpmljbcgaeodjaa
