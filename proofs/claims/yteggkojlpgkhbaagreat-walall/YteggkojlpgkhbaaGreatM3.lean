/-
  The contracts of Fence, among and Crash.
  The contract of Crash.
  That the functions of the library which pmem calls (maps.Keys, slices.Sorted, slices.Sort, maps.Clone) have at this program the bodies of which their contracts speak.
-/
import Derived.Test.YteggkojlpgkhbaaGreatPmB
import Derived.Shelf.SlIterI.Nil
import Derived.Shelf.SortM.Plain
import Derived.Shelf.SortM.SortNone
import Derived.Ground.GgzProg
import Derived.Ground.SlgmProg
import Derived.Ground.SlmcProg
import Derived.Test.YteggkojlpgkhbaaGreatProg

namespace Go.Proofs.YteggkojlpgkhbaaGreat
open Go.RowKit Go.Maps
set_option linter.unusedVariables false

theorem Dev.keep {w w' : World} {B d g cap lb fb r : Nat} {S : List UInt8} {L : Int → Option (List UInt8)} {F : Int → Bool} (h : Dev w B d g cap lb fb S L F) (hg : w.grownBy w' (some r)) (h1 : d < r) (h2 : g < r) (h3 : lb < r) (h4 : fb < r) : Dev w' B d g cap lb fb S L F :=
  h.cong (hg.block d h.dlt (by simp; omega)) (hg.block g h.glt (by simp; omega)) (hg.block lb h.llt (by simp; omega)) (hg.block fb h.flt (by simp; omega))

/-- What is loose behind a Fence. -/
def feL (L : Int → Option (List UInt8)) (F : Int → Bool) : Int → Option (List UInt8) := fun k => if F k then none else L k

set_option maxHeartbeats 1000000 in
theorem fence_any {w : World} {B d g cap lb fb : Nat} {S : List UInt8} {L : Int → Option (List UInt8)} {F : Int → Bool} (h : Dev w B d g cap lb fb S L F) :
    Calls Tryz.prog 53 #[.pointer (some ⟨d, 0, none⟩)] w fun e w' => e = .returned (.tuple #[]) ∧ Dev w' B d g cap lb fb S (feL L F) (fun _ => false) ∧ Fr g lb fb w w' := by
  have hc2 := h.c2
  have HD := hid h
  clear h
  go_enter Tryz.func53, Tryz.ntmps53
  go_wp2_with (at_range; refine wpList_rangeM rfl _ 116 rfl 4 Tryz.underlying116 HD.out.mpF rfl ?_; intro w0 cnt0 hrg0 hg0 hs0)
  go_frame
  have hr0 : w.heap.size ≠ lb := by have := HD.out.llt; omega
  go_loopw [2] (fun _ wr => ∃ (left : Int → Bool) (cnt : Nat), Hid (MRg wr fb w.heap.size 8192 (ffun F) left cnt) ∧ Hid (Dev wr B d g cap lb fb S (feL L (fun k => F k && !left k)) F) ∧ Hid (Fr g lb fb w wr)) (fun _ wr => wr.rangeLeft fb w.heap.size)
  case atStart =>
    have hb0 : Fr g lb fb w w0 := (Fr.refl g lb fb w).by hg0 (fun j hj => by cases hj)
    refine ⟨_, cnt0, hrg0, ?_, hb0⟩
    have e : feL L (fun k => F k && !(ffun F k).isSome) = L := by
      funext k; unfold feL ffun; cases hF : F k <;> simp [hF]
    rw [e]
    exact HD.out.on ((B0 w).grown hg0 (Nat.le_refl _) (fun j hj => by cases hj))
  case round =>
    obtain ⟨left, cnt, hrg, hr, hbw⟩ := hrel
    have hcr1 := hr.out.c1; have hcr2 := hr.out.c2
    have HM := hid hrg.out.left_eq
    go_wp2_with (at_next; refine wpList_nextM rfl _ rfl hrg.out rfl ?_ ?_)
    · intro hl0
      have HL0 := hid hl0; clear hl0
      have HD1 : Hid (Dev wr B d g cap lb fb S (feL L F) F) := by
        have e : feL L (fun k => F k && !left k) = feL L F := by
          funext k; unfold feL
          cases hF : F k with
          | false => simp [hF]
          | true =>
            have h1 := HD.out.keyF k hF; have h2 := HD.out.len.2
            simp [hF, HL0.out k (i64_iff.2 (by omega))]
        rw [← e]; exact hr
      obtain ⟨w3, hrun3, hm3, ht3⟩ := HD1.out.mpF.clear Tryz.underlying116
      have hg3 := ht3.grown
      have HD3 : Hid (Dev w3 B d g cap lb fb S (feL L F) (fun _ => false)) := HD1.out.setF hg3 ⟨_, hm3.ext fun j => by simp [ffun]⟩ fun j hj => by cases hj
      have HB3 : Hid (Fr g lb fb w w3) := Fr.f hbw.out hg3
      clear hm3 ht3 hg3
      go_wp2_with fail
      go_end0
      exact ⟨rfl, HD3.out, HB3.out⟩
    · intro x c w1 cnt1 hx hlx hfx hrg1 hlt hg1 hs1 hen
      have hFx : F x = true := by unfold ffun at hfx; cases hF : F x <;> simp [hF] at hfx ⊢
      have HD1 : Hid (Dev w1 B d g cap lb fb S (feL L (fun k => F k && !left k)) F) := hr.out.keep hg1 HD.out.dlt HD.out.glt HD.out.llt HD.out.flt
      have hc11 := HD1.out.c1
      have HR1 := hid hrg1; have HFX := hid hfx; have HG1 := hid hg1
      clear hrg1 hfx hlx hg1
      go_wp2_with (at_delete; refine wpList_dropM (k := x) rfl _ _ 115 rfl 119 Tryz.underlying115 HD1.out.mpL rfl rfl hx ?_; intro w3 hm3 ht3; go_frame)
      have hg3 := ht3.grown
      refine ⟨⟨fun z => left z && !decide (z = x), cnt1, HR1.out.kept hg3 (by have := HD.out.ne; simp; omega) (by simp; omega), ?_, ?_⟩, ?_⟩
      · refine HD1.out.setL hg3 ⟨_, hm3.ext fun j => ?_⟩ fun j y hj => ?_
        · by_cases e : j = x
          · subst e; simp [cut, lfun, feL, hFx]
          · simp [cut, lfun, feL, e]
        · by_cases e : j = x
          · subst e; simp [feL, hFx] at hj
          · refine HD1.out.keyL j y ?_
            simpa [feL, e] using hj
      · exact Fr.l (Fr.n hbw.out HG1.out (Nat.le_refl _)) hg3
      · rw [(HR1.out.kept hg3 (by have := HD.out.ne; simp; omega) (by simp; omega)).left_eq, HM.out]; exact hlt

/-! ### A slice of numbers that reads as a list -/
def RdI (w : World) (B : Nat) (A : Option Addr) (n cap : Nat) (l : List Int) : Prop :=
  l.length = n ∧ n ≤ cap ∧ cap ≤ maxLen ∧ (∀ x ∈ l, I64 x) ∧
    (0 < n → ∃ b off, A = some ⟨b, off, none⟩ ∧ b < B ∧ ∀ i (h : i < l.length), w.cell? ⟨b, off + i, none⟩ = some (.int .i64 l[i]))
section
variable {w w' : World} {B B' n cap : Nat} {A : Option Addr} {l : List Int}
theorem RdI.below (h : RdI w B A n cap l) (hb : Below B w w') : RdI w' B A n cap l :=
  ⟨h.1, h.2.1, h.2.2.1, h.2.2.2.1, fun hn => by
    obtain ⟨b, off, e, hlt, hc⟩ := h.2.2.2.2 hn
    exact ⟨b, off, e, hlt, fun i hi => (hb.cell (p := ⟨b, off + i, none⟩) hlt).trans (hc i hi)⟩⟩
theorem RdI.more (h : RdI w B A n cap l) (hB : B ≤ B') : RdI w B' A n cap l :=
  ⟨h.1, h.2.1, h.2.2.1, h.2.2.2.1, fun hn => by
    obtain ⟨b, off, e, hlt, hc⟩ := h.2.2.2.2 hn
    exact ⟨b, off, e, by omega, hc⟩⟩
theorem RdI.on (h : RdI w w.heap.size A n cap l) (hb : Below w.heap.size w w') : RdI w' w'.heap.size A n cap l := (h.below hb).more hb.size
theorem RdI.nil (w : World) (B : Nat) : RdI w B none 0 0 [] := ⟨rfl, by omega, by simp [maxLen], by simp, fun h => by omega⟩
end

/-- The set of a list. -/
def inF (l : List Int) : Int → Option Value := fun k => if k ∈ l then some (.bool true) else none

set_option maxHeartbeats 1000000 in
theorem among_any {w : World} {A : Option Addr} {n c : Nat} {l : List Int} (h : RdI w w.heap.size A n c l) :
    Calls Tryz.prog 55 #[.slice A n c] w fun e w' => e = .returned (.func (.func 76) #[] #[.pointer (some ⟨w.heap.size + 1, 0, none⟩)]) ∧
      w'.heap[w.heap.size + 1]? = some (.cells #[.map (some w.heap.size)] 116 (0, 0)) ∧ (∃ m, Mp w' w.heap.size m (inF l)) ∧ Below w.heap.size w w' := by
  have hmm := @run_makeMap Tryz.prog
  have HL := hid h.1; have HCm := hid (Nat.le_trans h.2.1 h.2.2.1)
  have H := hid h; clear h
  go_enter Tryz.func55, Tryz.ntmps55
  go_wp2_with fail
  go_loopw [9] (fun i wr => ∃ j : Nat, j ≤ n ∧ i = .int .i64 j ∧ Hid (wr.heap[w.heap.size + 1]? = some (.cells #[.map (some w.heap.size)] 116 (0, 0))) ∧ Hid (Mp wr w.heap.size j (inF (l.take j))) ∧ Hid (Below w.heap.size w wr)) (fun i _ => n - (intOf i).toNat)
  case atStart =>
    refine ⟨0, by omega, rfl, ?_, ?_, Ba (B1 w _) _⟩
    · have := heap_alloc_new (w.alloc (.map #[] 0)) (.cells #[.map (some w.heap.size)] 116)
      show _ = _
      simpa using this
    · exact ((Mp.made w).alloc _).ext fun k => by simp [inF]
  case round =>
    obtain ⟨j, hj, rfl, hq, hm, hb⟩ := hrel
    by_cases hlt : j < n
    · obtain ⟨b, off, rfl, hbl, hc⟩ := H.out.2.2.2.2 (by omega)
      have hjl : j < l.length := by have := HL.out; omega
      have hcell : wr.cell? ⟨b, off + j, none⟩ = some (.int .i64 l[j]) := (hb.out.cell (p := ⟨b, off + j, none⟩) hbl).trans (hc j hjl)
      have hki : I64 l[j] := H.out.2.2.2.1 _ (List.getElem_mem hjl)
      have hcm : wr.cell? ⟨w.heap.size + 1, 0, none⟩ = some (.map (some w.heap.size)) := by rw [row_cell hq.out]; rfl
      have hjb : (j : Int) + 1 ≤ 9223372036854775807 := by have := HCm.out; unfold maxLen at this; omega
      have HT : Hid (∀ k, inF (l.take (j + 1)) k = upd (inF (l.take j)) l[j] (.bool true) k) := by
        intro k
        rw [List.take_succ_eq_append_getElem hjl]
        simp only [inF, upd, List.mem_append, List.mem_singleton]
        by_cases e : k = l[j] <;> simp [e]
      obtain ⟨x, hx⟩ : ∃ x, x = l[j] := ⟨_, rfl⟩
      rw [← hx] at hcell hki HT
      clear hx hc hjl
      go_wp2_with (at_mapUpdate; refine wpList_storeM (v := .bool true) (k := x) rfl _ _ _ 116 rfl 4 Tryz.underlying116 hm.out rfl (Nat.lt_of_lt_of_le hlt HCm.out) rfl rfl hki ?_; intro w3 hm3 ht3)
      have hg3 := ht3.grown
      have HM3 : Hid (Mp w3 w.heap.size (j + 1) (inF (l.take (j + 1)))) := hm3.ext fun k => (HT.out k).symm
      have HQ3 : Hid (w3.heap[w.heap.size + 1]? = some (.cells #[.map (some w.heap.size)] 116 (0, 0))) := (hg3.block _ (row_lt hq.out) (by simp)).trans hq.out
      have HB3 : Hid (Below w.heap.size w w3) := below_grown hb.out hg3 (Nat.le_refl _) (Nat.le_refl _)
      clear hm3 ht3 hg3
      go_wp2_with fail
      exact ⟨⟨j + 1, by omega, by go_num, HQ3, HM3, HB3⟩, by simp [intOf]; omega⟩
    · obtain rfl : j = n := by omega
      go_wp2_with fail
      go_ret
      have e : l.take j = l := List.take_of_length_le (by have := HL.out; omega)
      have := hm.out; rw [e] at this
      exact ⟨rfl, hq.out, ⟨j, this⟩, hb.out⟩

theorem asked_any {w : World} {q mb m : Nat} {l : List Int} (hq : w.cell? ⟨q, 0, none⟩ = some (.map (some mb))) (hm : Mp w mb m (inF l)) (k : Int) (hk : I64 k) :
    Calls Tryz.prog 76 #[.int .i64 k, .pointer (some ⟨q, 0, none⟩)] w fun e w' => e = .returned (.bool (decide (k ∈ l))) ∧ w' = w := by
  have hlk := hm.look Tryz.underlying116 (Tryz.zeroValue4 w) hk
  have e : (inF l k).getD (.bool false) = .bool (decide (k ∈ l)) := by unfold inF; by_cases h : k ∈ l <;> simp [h]
  rw [e] at hlk
  go_enter Tryz.func76, Tryz.ntmps76
  go_wp2
  go_ret
  exact ⟨rfl, rfl⟩

/-- What a crash leaves: kept words, and safe ones, as they are seen; else as they were. -/
def crS (S : List UInt8) (L : Int → Option (List UInt8)) (done : Int → Bool) : List UInt8 :=
  (List.range S.length).map fun i => match L (i / 8 : Nat) with
    | some x => if done (i / 8 : Nat) then x.getD (i % 8) 0 else S.getD i 0
    | none => S.getD i 0
theorem crS_length (S : List UInt8) (L : Int → Option (List UInt8)) (done : Int → Bool) : (crS S L done).length = S.length := by simp [crS]
end Go.Proofs.YteggkojlpgkhbaaGreat

namespace Go.Proofs.YteggkojlpgkhbaaGreat
open Go.RowKit Go.Maps
set_option linter.unusedVariables false

theorem setL_get (S : List UInt8) (at_ : Nat) (xs : List UInt8) (h : at_ + xs.length ≤ S.length) (i : Nat) :
    (setL S at_ xs)[i]? = if at_ ≤ i ∧ i < at_ + xs.length then xs[i - at_]? else S[i]? := by
  unfold setL splice
  by_cases h1 : i < at_
  · rw [if_neg (by omega), List.getElem?_append_left (by simp; omega), List.getElem?_take_of_lt h1]
  · rw [List.getElem?_append_right (by simp; omega)]
    have e : (S.take at_).length = at_ := by simp; omega
    rw [e]
    by_cases h2 : i < at_ + xs.length
    · rw [if_pos (by omega), List.getElem?_append_left (by omega)]
    · rw [if_neg (by omega), List.getElem?_append_right (by omega), List.getElem?_drop]
      congr 1; omega

theorem crS_get {S : List UInt8} {L : Int → Option (List UInt8)} {done : Int → Bool} {i : Nat} (h : i < S.length) :
    (crS S L done)[i]? = some (match L (i / 8 : Nat) with
      | some x => if done (i / 8 : Nat) then x.getD (i % 8) 0 else S.getD i 0
      | none => S.getD i 0) := by
  unfold crS
  rw [List.getElem?_map, List.getElem?_range h]; rfl
theorem crS_none {S : List UInt8} {L : Int → Option (List UInt8)} {done : Int → Bool} {i : Nat} (h : S.length ≤ i) : (crS S L done)[i]? = none :=
  List.getElem?_eq_none (by rw [crS_length]; exact h)
theorem crS_congr {S : List UInt8} {L : Int → Option (List UInt8)} {done done' : Int → Bool} (h : ∀ k x, L k = some x → done k = done' k) : crS S L done = crS S L done' := by
  unfold crS
  refine List.map_congr_left fun i _ => ?_
  cases hl : L (i / 8 : Nat) with
  | none => rfl
  | some x => simp only [h _ x hl]
theorem crS_id {S : List UInt8} {L : Int → Option (List UInt8)} {done : Int → Bool} (h : ∀ k x, L k = some x → done k = false) : crS S L done = S := by
  refine List.ext_getElem? fun i => ?_
  by_cases hi : i < S.length
  · rw [crS_get hi]
    cases hl : L (i / 8 : Nat) with
    | none => simp [List.getD_eq_getElem?_getD, hi]
    | some x => simp only [h _ x hl, Bool.false_eq_true, if_false]; simp [List.getD_eq_getElem?_getD, hi]
  · rw [crS_none (by omega), List.getElem?_eq_none (by omega)]
theorem crS_set {S : List UInt8} {L : Int → Option (List UInt8)} {done : Int → Bool} {k : Int} {m : Nat} {x : List UInt8} (hm : (m : Int) = k * 8) (h8 : m + 8 ≤ S.length) (hl : L k = some x) (hx : x.length = 8) :
    setL (crS S L done) m x = crS S L (fun j => done j || decide (j = k)) := by
  refine List.ext_getElem? fun i => ?_
  rw [setL_get _ _ _ (by rw [crS_length]; omega)]
  by_cases hi : i < S.length
  · rw [crS_get hi, crS_get hi]
    by_cases hik : m ≤ i ∧ i < m + x.length
    · have e1 : ((i / 8 : Nat) : Int) = k := by omega
      have e2 : i % 8 = i - m := by omega
      rw [if_pos hik, e1, hl, e2]
      simp [List.getD_eq_getElem?_getD, show i - m < x.length by omega]
    · have e1 : ((i / 8 : Nat) : Int) ≠ k := by omega
      rw [if_neg hik]
      simp only [decide_eq_false e1, Bool.or_false]
  · rw [if_neg (by omega), crS_none (by omega), crS_none (by omega)]

theorem rd_arr {w : World} {g : Nat} {y : List UInt8} {cs : Array Value} {t : TypeId} (hblk : w.heap[g]? = some (.cells cs t (0, 0))) (hn : arr y = .agg cs) (h8 : y.length = 8) : Rd w w.heap.size (some ⟨g, 0, none⟩) 8 8 y := by
  have hyc : (y.map bv).toArray = cs := by unfold arr at hn; exact Value.agg.inj hn
  rw [← hyc] at hblk
  refine ⟨h8, Nat.le_refl _, by decide, (by simp), fun _ => ⟨g, 0, rfl, row_lt hblk, fun i hi => ?_⟩⟩
  rw [Nat.zero_add, row_cell hblk]; simp [hi]

theorem step_copyM {w w' : World} {o : Oper} {a : Act} {K : Act → World → Prop} {Q : Exit → Act → World → Prop} {y : Nat → Option Bool} {v1 v2 v : Value} (hgd : o.guard = none) (m x : Operand)
    (hop : o.op = Op.call { callee := Callee.builtin Builtin.copy, args := #[m, x], argTypes := #[22, 22] }) (hm : a.eval m = v1) (hx : a.eval x = v2)
    (hrun : (Builtin.copy_ #[22, 22] o.type #[v1, v2]).run Tryz.prog w = .ok v w') (hk : K (a.put o.dst v) w') :
    if Region.wanted o y = true then Oper.wp Tryz.prog o a w K Q else K (a.put o.dst undef) w := by
  simp only [Region.wanted, hgd, if_true]
  unfold Oper.wp
  simp [execOp, hop, resolve, invoke, builtin, hm, hx, hrun, Result.andThen]
  exact hk

set_option maxHeartbeats 2000000 in
theorem crash_any {w : World} {B d g cap lb fb : Nat} {S : List UInt8} {L : Int → Option (List UInt8)} {F : Int → Bool} (h : Dev w B d g cap lb fb S L F) {A : Option Addr} {n c : Nat} {l : List Int} (hk : RdI w w.heap.size A n c l) :
    Calls Tryz.prog 22 #[.pointer (some ⟨d, 0, none⟩), .slice A n c] w fun e w' => e = .returned (.tuple #[]) ∧ Dev w' B d g cap lb fb (crS S L (fun k => !decide (k ∈ l))) (fun _ => none) (fun _ => false) ∧ Fr g lb fb w w' := by
  have HD := hid h; have HK := hid hk
  clear h hk
  go_enter Tryz.func22, Tryz.ntmps22
  go_wp2_with fail
  refine (among_any HK.out).mono ?_
  rintro e w1 ⟨rfl, hq1, ⟨m, hm1⟩, hb1⟩
  obtain ⟨q, hq⟩ : ∃ q, q = w.heap.size + 1 := ⟨_, rfl⟩
  obtain ⟨mb, hmb⟩ : ∃ mb, mb = w.heap.size := ⟨_, rfl⟩
  rw [← hq, ← hmb] at hq1
  rw [← hmb] at hm1
  rw [← hq]
  have HQ1 := hid hq1; have HM1 := hid hm1; have Hq := hid hq; have Hmb := hid hmb
  have HD1 := hid (HD.out.on hb1)
  have HB1 : Hid (Fr g lb fb w w1) := (Fr.refl g lb fb w).then hb1
  have hcl := HD1.out.c1
  clear hq1 hm1 hq hmb hb1
  go_wp2_with (at_range; refine wpList_rangeM rfl _ 115 rfl 119 Tryz.underlying115 HD1.out.mpL rfl ?_; intro w0 cnt0 hrg0 hg0 hs0)
  go_frame
  have HS1 : Hid (w.heap.size ≤ w1.heap.size) := HB1.out.size
  have hb0 : Below w1.heap.size w1 w0 := (B0 w1).grown hg0 (Nat.le_refl _) (fun j hj => by cases hj)
  have HQ0 : Hid (w0.heap[q]? = some (.cells #[.map (some mb)] 116 (0, 0))) := (hb0.block q (row_lt HQ1.out)).trans HQ1.out
  have HM0 := hid (HM1.out.below hb0 HM1.out.lt)
  have HD0 := hid (HD1.out.on hb0)
  have HB0 : Hid (Fr g lb fb w w0) := HB1.out.then hb0
  obtain ⟨r, hr⟩ : ∃ r, r = w1.heap.size := ⟨_, rfl⟩
  have Hrd : Hid (d < r) := show _ < _ by rw [hr]; exact HD1.out.dlt
  have Hrg : Hid (g < r) := show _ < _ by rw [hr]; exact HD1.out.glt
  have Hrl : Hid (lb < r) := show _ < _ by rw [hr]; exact HD1.out.llt
  have Hrf : Hid (fb < r) := show _ < _ by rw [hr]; exact HD1.out.flt
  have Hrq : Hid (q < r) := show _ < _ by rw [hr]; exact row_lt HQ1.out
  have Hrm : Hid (mb < r) := show _ < _ by rw [hr]; exact HM1.out.lt
  have Hgq : Hid (g < q) := show _ < _ by have := HD.out.glt; have := Hq.out; omega
  have Hgm : Hid (g < mb) := show _ < _ by have := HD.out.glt; have := Hmb.out; omega
  rw [← hr] at hrg0 ⊢
  have HBr : Hid (w.heap.size ≤ r) := show _ ≤ _ by rw [hr]; exact HS1.out
  clear hr hg0 hs0 hb0 HQ1 HM1 HD1 HB1 hcl
  go_loopw [5] (fun _ wr => ∃ (left : Int → Bool) (cnt : Nat), Hid (MRg wr lb r 8192 (lfun L) left cnt) ∧ Hid (Dev wr B d g cap lb fb (crS S L (fun k => !left k && !decide (k ∈ l))) L F) ∧ Hid (wr.heap[q]? = some (.cells #[.map (some mb)] 116 (0, 0))) ∧ Hid (Mp wr mb m (inF l)) ∧ Hid (Fr g lb fb w wr)) (fun _ wr => wr.rangeLeft lb r)
  case atStart =>
    refine ⟨_, cnt0, hrg0, ?_, HQ0, HM0, HB0⟩
    rw [crS_id (fun k x hl => by simp [lfun, hl])]
    exact HD0
  case round =>
    obtain ⟨left, cnt, hrg, hr, hqr, hmr, hbw⟩ := hrel
    have hcr1 := hr.out.c1; have hcr2 := hr.out.c2
    have HMe := hid hrg.out.left_eq
    clear HQ0 HM0 HD0 HB0
    go_wp2_with (at_next; refine wpList_nextM rfl _ rfl hrg.out rfl ?_ ?_)
    · intro hl0
      have HL0 := hid hl0; clear hl0
      have HD1 : Hid (Dev wr B d g cap lb fb (crS S L (fun k => !decide (k ∈ l))) L F) := by
        have e : crS S L (fun k => !left k && !decide (k ∈ l)) = crS S L (fun k => !decide (k ∈ l)) := crS_congr fun k x hl => by
          have h1 := HD.out.keyL k x hl; have h2 := HD.out.len.2
          simp [HL0.out k (i64_iff.2 (by omega))]
        rw [← e]; exact hr
      obtain ⟨w3, hrun3, hm3, ht3⟩ := HD1.out.mpL.clear Tryz.underlying115
      have hg3 := ht3.grown
      have HD3 : Hid (Dev w3 B d g cap lb fb (crS S L (fun k => !decide (k ∈ l))) (fun _ => none) F) := HD1.out.setL hg3 ⟨_, hm3.ext fun j => by simp [lfun]⟩ fun j x hj => by cases hj
      have HB3 : Hid (Fr g lb fb w w3) := Fr.l hbw.out hg3
      have hc32 := HD3.out.c2
      clear hm3 ht3 hg3
      obtain ⟨w4, hrun4, hm4, ht4⟩ := HD3.out.mpF.clear Tryz.underlying116
      have hg4 := ht4.grown
      have HD4 : Hid (Dev w4 B d g cap lb fb (crS S L (fun k => !decide (k ∈ l))) (fun _ => none) (fun _ => false)) := HD3.out.setF hg4 ⟨_, hm4.ext fun j => by simp [ffun]⟩ fun j hj => by cases hj
      have HB4 : Hid (Fr g lb fb w w4) := Fr.f HB3.out hg4
      clear hm4 ht4 hg4
      go_wp2_with fail
      go_end0
      exact ⟨rfl, HD4.out, HB4.out⟩
    · intro x c1 w1 cnt1 hx hlx hfx hrg1 hlt hg1 hs1 hen
      obtain ⟨y, hLy, hcy⟩ : ∃ y, L x = some y ∧ arr y = c1 := by
        unfold lfun at hfx
        cases hl : L x with
        | none => rw [hl] at hfx; cases hfx
        | some y => rw [hl] at hfx; exact ⟨y, rfl, by simpa using hfx⟩
      have hky := HD.out.keyL x y hLy
      obtain ⟨n0, n1, n2, n3, n4, n5, n6, n7, hn⟩ := arr8 hky.2.2
      rw [hn] at hcy
      subst hcy
      have HD1 : Hid (Dev w1 B d g cap lb fb (crS S L (fun k => !left k && !decide (k ∈ l))) L F) := hr.out.keep hg1 Hrd.out Hrg.out Hrl.out Hrf.out
      have HQ1 : Hid (w1.heap[q]? = some (.cells #[.map (some mb)] 116 (0, 0))) := (hg1.block q (row_lt hqr.out) (by have := Hrq.out; simp; omega)).trans hqr.out
      have HM1 := hid (hmr.out.kept hg1 (by have := Hrm.out; simp; omega))
      have HB1 : Hid (Fr g lb fb w w1) := Fr.n hbw.out hg1 HBr.out
      have HR1 := hid hrg1; have HFX := hid hfx; have HN := hid hn; have HLy := hid hLy; have HKY := hid hky
      have HLT := hid hlt
      clear hrg1 hfx hg1 hn hLy hky hcr1 hcr2 hs1 hlt
      go_wp2_with fail
      have hqc : ∀ o, (w1.alloc o).cell? ⟨q, 0, none⟩ = some (.map (some mb)) := fun o => by
        rw [row_cell (((B1 w1 o).block q (row_lt HQ1.out)).trans HQ1.out)]; rfl
      refine (asked_any (hqc _) (HM1.out.alloc _) x hx).mono ?_
      rintro e w2 ⟨rfl, rfl⟩
      have HRN := hid (HR1.out.alloc (.cells #[.int .u8 n0, .int .u8 n1, .int .u8 n2, .int .u8 n3, .int .u8 n4, .int .u8 n5, .int .u8 n6, .int .u8 n7] 119))
      have HDN := hid (HD1.out.alloc (.cells #[.int .u8 n0, .int .u8 n1, .int .u8 n2, .int .u8 n3, .int .u8 n4, .int .u8 n5, .int .u8 n6, .int .u8 n7] 119))
      by_cases hin : x ∈ l
      · have hind : decide (x ∈ l) = true := decide_eq_true hin
        go_wp2_with fail
        refine ⟨⟨fun z => left z && !decide (z = x), cnt1, HRN.out, ?_, ?_, HM1.out.alloc _, Fr.alloc HB1.out _⟩, ?_⟩
        · have e : crS S L (fun k => !(left k && !decide (k = x)) && !decide (k ∈ l)) = crS S L (fun k => !left k && !decide (k ∈ l)) := crS_congr fun k z hl => by
            by_cases e : k = x
            · subst e; simp [hin]
            · simp [e]
          rw [e]; exact HDN.out
        · exact ((B1 w1 _).block q (row_lt HQ1.out)).trans HQ1.out
        · rw [HRN.out.left_eq, HMe.out]; exact HLT.out
      · have hind : decide (x ∈ l) = false := decide_eq_false hin
        obtain ⟨m0, hm0⟩ : ∃ m0 : Nat, (m0 : Int) = x * 8 := ⟨(x * 8).toNat, by have := HKY.out; omega⟩
        have HM0 := hid hm0; clear hm0
        have HM8 : Hid (m0 + 8 ≤ S.length) := show _ ≤ _ by have := HM0.out; have := HKY.out; omega
        have HMC : Hid (m0 + 8 ≤ (crS S L (fun k => !left k && !decide (k ∈ l))).length) := show _ ≤ _ by rw [crS_length]; exact HM8.out
        go_wp2_with fail
        refine reg_beginO (some g) (by kernel_rfl) (fun w0 hh0 hx0 hHeld => ?_)
        have HD0 := hid (HDN.out.cong (w' := w0) (by rw [hh0.out]) (by rw [hh0.out]) (by rw [hh0.out]) (by rw [hh0.out]))
        have HRd := hid (rd_arr (w := w0) (g := w1.heap.size) (by rw [hh0.out]; exact heap_alloc_new w1 _) HN.out HKY.out.2.2)
        refine reg_takeO 0 (v := ?vb0) at0 (by kernel_rfl) (by kernel_rfl) (by kernel_rfl) (by rfl) ?hyb0 hHeld ?restb0
        case hyb0 => (intro w' hSw; go_simp; try with_reducible rfl)
        try simp only [Act.put, List.setIfInBounds_toArray, List.set_cons_zero, List.set_cons_succ]
        refine reg_takeO 1 (v := ?vb1) (atS at0) (by kernel_rfl) (by kernel_rfl) (by kernel_rfl) (by rfl) ?hyb1 hHeld ?restb1
        case hyb1 => (intro w' hSw; go_simp; try with_reducible rfl)
        try simp only [Act.put, List.setIfInBounds_toArray, List.set_cons_zero, List.set_cons_succ]
        refine reg_takeO 3 (v := ?vb3) (atS (atS (atS at0))) (by kernel_rfl) (by kernel_rfl) (by kernel_rfl) (by rfl) ?hyb3 hHeld ?restb3
        case hyb3 => (intro w' hSw; go_simp; try with_reducible rfl)
        try simp only [Act.put, List.setIfInBounds_toArray, List.set_cons_zero, List.set_cons_succ]
        refine wpAnyH_ready (rs := [2]) (by kernel_rfl) (by simp) ?_
        refine AllReadyH.cons (atS (atS at0)) (fun K hK => ?_) AllReadyH.nil
        go_simp
        refine (word_any HD0.out x m0 HM0.out HMC.out).mono ?_
        rintro e w4 ⟨rfl, rfl⟩
        go_wp2_with fail
        refine hK.out _ _ (ExO.refl _ _) (fun hHeld => ?_)
        clear hK K
        try simp only [Act.put, List.setIfInBounds_toArray, List.set_cons_zero, List.set_cons_succ]
        obtain ⟨w5, hrun5, hrow5, hg5⟩ := HD0.out.row.copy (off := m0) (m := 8) (k := cap - m0) HRd.out (Nat.le_refl _) HMC.out 3
        have hg5 : ExO (some g) w4 w5 := hg5
        refine wpAnyH_ready (rs := [4]) (by kernel_rfl) (by simp) ?_
        refine AllReadyH.cons (atS (atS (atS (atS at0)))) (fun K hK => ?_) AllReadyH.nil
        refine step_copyM (by rfl) (.tmp 25) (.tmp 26) (by rfl) (by rfl) (by rfl) hrun5 ?_
        refine hK.out _ _ hg5 (fun hHeld => ?_)
        clear hK K
        try simp only [Act.put, List.setIfInBounds_toArray, List.set_cons_zero, List.set_cons_succ]
        refine wpAnyH_done (by kernel_rfl) ?_ _
        refine NoPanic.normal ?_
        have HD5 : Hid (Dev w5 B d g cap lb fb (crS S L (fun k => !(left k && !decide (k = x)) && !decide (k ∈ l))) L F) := by
          have e : setL (crS S L (fun k => !left k && !decide (k ∈ l))) m0 y = crS S L (fun k => !(left k && !decide (k = x)) && !decide (k ∈ l)) := by
            rw [crS_set HM0.out HM8.out HLy.out HKY.out.2.2]
            exact crS_congr fun k z hl => by
              by_cases e : k = x
              · subst e; simp [hin]
              · simp [e]
          rw [← e]
          exact HD0.out.setS hg5 hrow5 (setL_length _ _ _ (by have := HKY.out.2.2; have := HMC.out; omega))
        have HB5 : Hid (Fr g lb fb w w5) := Fr.row ((Fr.alloc HB1.out _).heap hh0.out hx0) hg5
        have HR5 : Hid (MRg w5 lb r 8192 (lfun L) (fun z => left z && !decide (z = x)) cnt1) := (HRN.out.kept hx0 (by have := HD.out.gl; simp; omega) (by have := Hrg.out; simp; omega)).kept hg5 (by have := HD.out.gl; simp; omega) (by have := Hrg.out; simp; omega)
        have HM5 : Hid (Mp w5 mb m (inF l)) := ((HM1.out.alloc _).kept hx0 (by have := Hgm.out; simp; omega)).kept hg5 (by have := Hgm.out; simp; omega)
        have HQ5 : Hid (w5.heap[q]? = some (.cells #[.map (some mb)] 116 (0, 0))) := by
          have h1 := ((B1 w1 (.cells #[.int .u8 n0, .int .u8 n1, .int .u8 n2, .int .u8 n3, .int .u8 n4, .int .u8 n5, .int .u8 n6, .int .u8 n7] 119)).block q (row_lt HQ1.out)).trans HQ1.out
          have h2 := (hx0.block q (row_lt h1) (by have := Hgq.out; simp; omega)).trans h1
          exact (hg5.block q (row_lt h2) (by have := Hgq.out; simp; omega)).trans h2
        clear hrun5 hrow5 HD0 HRd
        go_wp2_with fail
        refine ⟨⟨fun z => left z && !decide (z = x), cnt1, HR5, HD5, HQ5, HM5, HB5⟩, ?_⟩
        rw [HR5.out.left_eq, HMe.out]; exact HLT.out
end Go.Proofs.YteggkojlpgkhbaaGreat

namespace Go.Proofs
open Go.Shelf
def Tryz.keysA_ren : Go.Shelf.Ren := ⟨fun | 7 => 74 | 10 => 89 | n => n, fun | 23 => 115 | 26 => 3 | 3 => 119 | 28 => 140 | 0 => 0 | 27 => 139 | 33 => 113 | 4 => 4 | n => n, fun | n => n⟩
theorem Tryz.keysA : Go.Proofs.SlLaysZI.n7 Tryz.prog Tryz.keysA_ren := {
  mixed := by kernel_rfl
  f7 := ⟨Tryz.f74.name, by decide, Tryz.func74.trans (congrArg some (by kernel_rfl))⟩
  f10 := ⟨Tryz.f89.name, by decide, Tryz.func89.trans (congrArg some (by kernel_rfl))⟩
  t0 := Tryz.underlying0
  a0 := Tryz.isAgg0
  z0 := Tryz.sizeOf0
  v0 := Tryz.zeroValue0
  t4 := Tryz.underlying4
  a4 := Tryz.isAgg4
  z4 := Tryz.sizeOf4
  v4 := Tryz.zeroValue4
  t23 := Tryz.underlying115
  a23 := Tryz.isAgg115
  z23 := Tryz.sizeOf115
  v23 := Tryz.zeroValue115
  t26 := Tryz.underlying3
  a26 := Tryz.isAgg3
  z26 := Tryz.sizeOf3
  v26 := Tryz.zeroValue3
  t27 := Tryz.underlying139
  a27 := Tryz.isAgg139
  z27 := Tryz.sizeOf139
  v27 := Tryz.zeroValue139
  t28 := Tryz.underlying140
  a28 := Tryz.isAgg140
  z28 := Tryz.sizeOf140
  v28 := Tryz.zeroValue140
  t33 := Tryz.underlying113
  a33 := Tryz.isAgg113
  z33 := Tryz.sizeOf113
  v33 := Tryz.zeroValue113 }
def Tryz.sortedA_ren : Go.Shelf.Ren := ⟨fun | 6 => 73 | 8 => 87 | 9 => 88 | 11 => 94 | 13 => 96 | 12 => 95 | 23 => 107 | 24 => 108 | 14 => 98 | 15 => 99 | 16 => 100 | 17 => 101 | 18 => 102 | 19 => 103 | 20 => 104 | 21 => 105 | 22 => 106 | 25 => 109 | 26 => 110 | 27 => 111 | 28 => 112 | 29 => 113 | 30 => 114 | 31 => 115 | n => n, fun | 26 => 3 | 28 => 140 | 24 => 52 | 0 => 0 | 3 => 3 | 37 => 157 | 48 => 173 | 50 => 64 | 4 => 4 | 40 => 165 | 39 => 164 | 45 => 170 | 5 => 5 | 9 => 9 | 51 => 175 | 55 => 179 | 57 => 181 | 58 => 142 | 33 => 113 | n => n, fun | n => n⟩
theorem Tryz.sortedA : Go.Proofs.SlLaysZI.n6 Tryz.prog Tryz.sortedA_ren := {
  mixed := by kernel_rfl
  f6 := ⟨Tryz.f73.name, by decide, Tryz.func73.trans (congrArg some (by kernel_rfl))⟩
  f8 := ⟨Tryz.f87.name, by decide, Tryz.func87.trans (congrArg some (by kernel_rfl))⟩
  f11 := ⟨Tryz.f94.name, by decide, Tryz.func94.trans (congrArg some (by kernel_rfl))⟩
  t0 := Tryz.underlying0
  a0 := Tryz.isAgg0
  z0 := Tryz.sizeOf0
  v0 := Tryz.zeroValue0
  t24 := Tryz.underlying52
  a24 := Tryz.isAgg52
  z24 := Tryz.sizeOf52
  v24 := Tryz.zeroValue52
  t26 := Tryz.underlying3
  a26 := Tryz.isAgg3
  z26 := Tryz.sizeOf3
  v26 := Tryz.zeroValue3
  t28 := Tryz.underlying140
  a28 := Tryz.isAgg140
  z28 := Tryz.sizeOf140
  v28 := Tryz.zeroValue140
  i26 := by kernel_rfl }
def Tryz.sortA_ren : Go.Shelf.Ren := ⟨fun | 5 => 88 | 8 => 96 | 7 => 95 | 19 => 107 | 20 => 108 | 10 => 98 | 11 => 99 | 12 => 100 | 13 => 101 | 14 => 102 | 15 => 103 | 16 => 104 | 17 => 105 | 18 => 106 | 30 => 109 | 31 => 110 | 32 => 111 | 33 => 112 | 34 => 113 | 35 => 114 | 40 => 115 | n => n, fun | 23 => 52 | 25 => 3 | 3 => 3 | 32 => 157 | 22 => 52 | 0 => 0 | 44 => 173 | 46 => 64 | 4 => 4 | 36 => 165 | 35 => 164 | 41 => 170 | 5 => 5 | 9 => 9 | 53 => 175 | 57 => 179 | 63 => 181 | 64 => 142 | n => n, fun | n => n⟩
theorem Tryz.sortA : Go.Proofs.SlLaysM.n5 Tryz.prog Tryz.sortA_ren := {
  mixed := by kernel_rfl
  f5 := ⟨Tryz.f88.name, by decide, Tryz.func88.trans (congrArg some (by kernel_rfl))⟩
  f7 := ⟨Tryz.f95.name, by decide, Tryz.func95.trans (congrArg some (by kernel_rfl))⟩
  f8 := Tryz.func96.trans (congrArg some (by kernel_rfl))
  f10 := ⟨Tryz.f98.name, by decide, Tryz.func98.trans (congrArg some (by kernel_rfl))⟩
  f11 := ⟨Tryz.f99.name, by decide, Tryz.func99.trans (congrArg some (by kernel_rfl))⟩
  f12 := ⟨Tryz.f100.name, by decide, Tryz.func100.trans (congrArg some (by kernel_rfl))⟩
  f13 := ⟨Tryz.f101.name, by decide, Tryz.func101.trans (congrArg some (by kernel_rfl))⟩
  f14 := ⟨Tryz.f102.name, by decide, Tryz.func102.trans (congrArg some (by kernel_rfl))⟩
  f15 := ⟨Tryz.f103.name, by decide, Tryz.func103.trans (congrArg some (by kernel_rfl))⟩
  f16 := ⟨Tryz.f104.name, by decide, Tryz.func104.trans (congrArg some (by kernel_rfl))⟩
  f17 := ⟨Tryz.f105.name, by decide, Tryz.func105.trans (congrArg some (by kernel_rfl))⟩
  f18 := ⟨Tryz.f106.name, by decide, Tryz.func106.trans (congrArg some (by kernel_rfl))⟩
  f19 := Tryz.func107.trans (congrArg some (by kernel_rfl))
  f20 := Tryz.func108.trans (congrArg some (by kernel_rfl))
  f30 := ⟨Tryz.f109.name, by decide, Tryz.func109.trans (congrArg some (by kernel_rfl))⟩
  f31 := Tryz.func110.trans (congrArg some (by kernel_rfl))
  f32 := Tryz.func111.trans (congrArg some (by kernel_rfl))
  f33 := ⟨Tryz.f112.name, by decide, Tryz.func112.trans (congrArg some (by kernel_rfl))⟩
  f34 := ⟨Tryz.f113.name, by decide, Tryz.func113.trans (congrArg some (by kernel_rfl))⟩
  f35 := ⟨Tryz.f114.name, by decide, Tryz.func114.trans (congrArg some (by kernel_rfl))⟩
  f40 := ⟨Tryz.f115.name, by decide, Tryz.func115.trans (congrArg some (by kernel_rfl))⟩
  t0 := Tryz.underlying0
  a0 := Tryz.isAgg0
  z0 := Tryz.sizeOf0
  v0 := Tryz.zeroValue0
  t3 := Tryz.underlying3
  a3 := Tryz.isAgg3
  z3 := Tryz.sizeOf3
  v3 := Tryz.zeroValue3
  t4 := Tryz.underlying4
  a4 := Tryz.isAgg4
  z4 := Tryz.sizeOf4
  v4 := Tryz.zeroValue4
  t5 := Tryz.underlying5
  a5 := Tryz.isAgg5
  z5 := Tryz.sizeOf5
  v5 := Tryz.zeroValue5
  t9 := Tryz.underlying9
  a9 := Tryz.isAgg9
  z9 := Tryz.sizeOf9
  v9 := Tryz.zeroValue9
  t22 := Tryz.underlying52
  a22 := Tryz.isAgg52
  z22 := Tryz.sizeOf52
  v22 := Tryz.zeroValue52
  t23 := Tryz.underlying52
  a23 := Tryz.isAgg52
  z23 := Tryz.sizeOf52
  v23 := Tryz.zeroValue52
  t25 := Tryz.underlying3
  a25 := Tryz.isAgg3
  z25 := Tryz.sizeOf3
  v25 := Tryz.zeroValue3
  t32 := Tryz.underlying157
  a32 := Tryz.isAgg157
  z32 := Tryz.sizeOf157
  v32 := Tryz.zeroValue157
  t35 := Tryz.underlying164
  a35 := Tryz.isAgg164
  z35 := Tryz.sizeOf164
  v35 := Tryz.zeroValue164
  t36 := Tryz.underlying165
  a36 := Tryz.isAgg165
  z36 := Tryz.sizeOf165
  v36 := Tryz.zeroValue165
  t41 := Tryz.underlying170
  a41 := Tryz.isAgg170
  z41 := Tryz.sizeOf170
  v41 := Tryz.zeroValue170
  t44 := Tryz.underlying173
  a44 := Tryz.isAgg173
  z44 := Tryz.sizeOf173
  v44 := Tryz.zeroValue173
  t46 := Tryz.underlying64
  a46 := Tryz.isAgg64
  z46 := Tryz.sizeOf64
  v46 := Tryz.zeroValue64
  t53 := Tryz.underlying175
  a53 := Tryz.isAgg175
  z53 := Tryz.sizeOf175
  v53 := Tryz.zeroValue175
  t57 := Tryz.underlying179
  a57 := Tryz.isAgg179
  z57 := Tryz.sizeOf179
  v57 := Tryz.zeroValue179
  t63 := Tryz.underlying181
  a63 := Tryz.isAgg181
  z63 := Tryz.sizeOf181
  v63 := Tryz.zeroValue181
  t64 := Tryz.underlying142
  a64 := Tryz.isAgg142
  z64 := Tryz.sizeOf142
  v64 := Tryz.zeroValue142 }
end Go.Proofs
