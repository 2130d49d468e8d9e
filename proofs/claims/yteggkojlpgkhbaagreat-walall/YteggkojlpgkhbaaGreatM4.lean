/-
  The contracts of Loose and Copy.
  The contracts of the statements' own functions of layer 3: Same, alive.
  Scripts of calls in memory, and the contracts of few, does and made.
  From what a law's arguments hold to what its walk is told: slices of calls, a call by value, slices of numbers.
  From what a law's arguments hold to what its walk is told: a device's bytes, a script and a region by value.
  Plain mathematics of the check sum: a register of 16 bits that is moved by bytes. No program is named here.
-/
import Derived.Test.YteggkojlpgkhbaaGreatM3
import Derived.Lib.SlBytesConst
import Derived.Deep.QuietTactic
import Derived.BigQuiet
import Derived.Test.YteggkojlpgkhbaaGreatM1
import Derived.Deep.Slices
import Derived.Deep.Fields
import Derived.ChangeSame
import Derived.WalkKit
import Derived.Laws.BitsAllLaws

namespace Go.Proofs.YteggkojlpgkhbaaGreat
open Go.RowKit Go.Maps Go.Sort Go.Shelf
set_option linter.unusedVariables false

/-- slices.Sort's two contracts. -/
theorem sortsA (m : Nat) : AnyZI.SortsIn Tryz.prog Tryz.sortedA_ren Fence.wide m :=
  ⟨fun blk off cap ss W hH hblk hsz => callsIn_wide.2 (AnyM.slices_Sort_int Tryz.sortA blk off cap ss W hH hblk hsz),
   fun p cap W => callsIn_wide.2 (AnyM.slices_Sort_int_none Tryz.sortA p cap W)⟩

/-- The numbers of the loose words, rising. -/
def looseL (n : Nat) (L : Int → Option (List UInt8)) : List Int := ((List.range n).map Int.ofNat).filter fun k => (L k).isSome
theorem looseL_mem {n : Nat} {L : Int → Option (List UInt8)} (h : ∀ k x, L k = some x → 0 ≤ k ∧ k < n) (k : Int) : k ∈ looseL n L ↔ (L k).isSome = true := by
  unfold looseL
  rw [List.mem_filter]
  constructor
  · exact fun h => h.2
  · intro hk
    refine ⟨?_, hk⟩
    cases hl : L k with
    | none => rw [hl] at hk; cases hk
    | some x =>
      obtain ⟨h0, h1⟩ := h k x hl
      exact List.mem_map.2 ⟨k.toNat, by simp; omega, by simp; omega⟩
theorem looseL_lt (n : Nat) (L : Int → Option (List UInt8)) : (looseL n L).Pairwise (fun a b => a < b) := by
  unfold looseL
  refine List.Pairwise.filter _ (List.pairwise_map.2 ?_)
  exact List.pairwise_lt_range.imp fun h => by simp; exact h
theorem looseL_sort (n : Nat) (L : Int → Option (List UInt8)) : (looseL n L).mergeSort (fun x y => decide (x ≤ y)) = looseL n L := by
  refine List.mergeSort_of_pairwise ((looseL_lt n L).imp fun h => by simp; omega)

theorem loose_keys {w : World} {b m n : Nat} {L : Int → Option (List UInt8)} {D : DataW Value} (ho : w.ownsMap Tryz.prog 3 RV b m D) (h1 : ∀ k, I64 k → ∀ z, D.atKey (.int .i64 k) z = vw (lfun L k) z) (hk : ∀ k x, L k = some x → 0 ≤ k ∧ k < n) (hn : n ≤ 8192) :
    (looseL n L).Perm (intKeys D) := by
  obtain ⟨es, hD, hpw, _⟩ := ho.entries kI
  obtain ⟨es', hD', hko⟩ := ho.keysOf
  obtain rfl : es = es' := by rw [hD] at hD'; simpa using hD'
  subst hD
  refine perm_intKeys hpw (fun p hp => by obtain ⟨v, hv⟩ := hko p hp; obtain ⟨x, _, hx, _⟩ := Maps.keyOf_i64 Tryz.underlying3 hv; exact ⟨x, hx⟩) ((looseL_lt n L).imp fun h => by omega) fun x => ?_
  rw [looseL_mem hk]
  by_cases hx : I64 x
  · rw [has_vw (h1 x hx)]; simp [lfun]
  · constructor
    · intro h
      cases hl : L x with
      | none => rw [hl] at h; cases h
      | some y => exact absurd (i64_iff.2 (by have := hk x y hl; omega)) hx
    · intro h
      obtain ⟨p, hp, hs⟩ := List.any_eq_true.1 h
      obtain ⟨v, hv⟩ := hko p hp
      obtain ⟨z, _, hz, hwf⟩ := Maps.keyOf_i64 Tryz.underlying3 hv
      rw [hz, same_int] at hs
      simp at hs
      subst hs
      exact absurd hwf hx

set_option maxHeartbeats 1000000 in
theorem loose_any {w : World} {B d g cap lb fb : Nat} {S : List UInt8} {L : Int → Option (List UInt8)} {F : Int → Bool} (h : Dev w B d g cap lb fb S L F) :
    Calls Tryz.prog 47 #[.pointer (some ⟨d, 0, none⟩)] w fun e w' => ∃ v, e = .returned v ∧ w'.ownsRow w.heap.size 3 1 v (looseL (S.length / 8) L).length ((looseL (S.length / 8) L).map encZ) ∧ Below w.heap.size w w' := by
  have hc1 := h.c1
  obtain ⟨D0, hown, hat, _⟩ := h.mpL
  have hbl := hown.lt
  have hsz := hown.size_le
  have hperm := loose_keys (n := S.length / 8) hown hat (fun k x hl => by have := h.keyL k x hl; have := h.len; omega) (by have := h.len; omega)
  have hseq : SeqGives Fence.wide 2 Tryz.prog 89 #[.pointer (some ⟨w.heap.size, 0, none⟩)] encZ (fun ss => ss.Perm (intKeys D0)) (Maps.size D0) (w.alloc (.cells #[.map (some lb)] 115)) :=
    AnyZI.keys_gives (ρ := Tryz.keysA_ren) { Tryz.keysA with } Fence.wide _ trivial rfl (by omega) w.heap.size lb 8192 D0 _ (by simp) (by simp) (by
      obtain ⟨es, clock, hb, Ft, hs, hD⟩ := hown
      exact ⟨es, clock, (Below.heap_alloc _ _ lb hbl).trans hb, Ft, hs, hD⟩)
  have cK : ∀ mb W, CallsIn Fence.wide 5 Tryz.prog 74 #[.map mb] W fun e w' => e = .returned (.func (.func 89) #[] #[.pointer (some ⟨W.heap.size, 0, none⟩)]) ∧ w' = W.alloc (.cells #[.map mb] 115) := fun mb W => AnyZI.keys_in Tryz.keysA Fence.wide 5 trivial rfl mb W
  have cS := AnyZI.sorted_in Tryz.sortedA Fence.wide 5 trivial trivial trivial trivial rfl (by omega) (sortsA _) (enters_of Tryz.func88 (by kernel_rfl) rfl) 89 #[.pointer (some ⟨w.heap.size, 0, none⟩)] trivial (enters_of Tryz.func89 (by kernel_rfl) rfl) _ _ (Nat.le_trans hsz (by decide)) (by omega) _ hseq
  change CallsIn _ _ Tryz.prog 73 _ _ _ at cS
  have hfK : Fence.wide.fn 74 := trivial
  have hfS : Fence.wide.fn 73 := trivial
  have HP := hid hperm
  clear hseq hperm hat hsz h
  refine (callsIn_wide (n := 6)).1 ?_
  refine callsIn_of_wp Tryz.func47 rfl trivial ?_ rfl
  simp only [Tryz.ntmps47, List.size_toArray, List.length_cons, List.length_nil, Nat.reduceAdd, Nat.reduceSub, Array.replicate_succ, Array.replicate_zero, List.push_toArray, List.append_toArray, List.nil_append, List.cons_append]
  gi_wp2_with (first
    | (gi_at_call 74; refine (cK _ _).mono ?_; rintro e w' ⟨rfl, rfl⟩)
    | (gi_at_call 73; refine cS.mono ?_; rintro e w' ⟨v, ss, rfl, hS, hrow, hnil, hb⟩))
  go_ret
  have e1 : ss.mergeSort (fun x y => decide (x ≤ y)) = looseL (S.length / 8) L := (mergeSort_of_perm_i (hS.trans HP.out.symm)).trans (looseL_sort _ _)
  have e2 : ss.length = (looseL (S.length / 8) L).length := (hS.trans HP.out.symm).length_eq
  rw [e1, e2] at hrow
  exact ⟨v, rfl, ownsRow_base_a hrow (by simp), ((Below.refl _ w).alloc (Nat.le_refl _) _).trans (hb.mono (by simp))⟩

theorem Own.some {w : World} {base : Nat} {v : Value} {l : List UInt8} (h : Own w base v l) (hv : v ≠ .slice none 0 0) : ∃ g cap, v = .slice (some ⟨g, 0, none⟩) l.length cap ∧ base ≤ g ∧ Row w g cap l := by
  rcases h.2 with ⟨e, _⟩ | ⟨g, cap, cur, e, hb, hg, h1, h2, h3, h4⟩
  · exact absurd e hv
  · exact ⟨g, cap, e, hb, cur, hg, by simpa using h3, h1, h2, by simpa using h4⟩

end Go.Proofs.YteggkojlpgkhbaaGreat

namespace Go.Proofs.YteggkojlpgkhbaaGreat
open Go.RowKit Go.Maps Go.Sort
set_option linter.unusedVariables false

theorem rdI_of_row {w : World} {base : Nat} {v : Value} {l : List Int} (h : w.ownsRow base 3 1 v l.length (l.map encZ)) (hw : ∀ x ∈ l, I64 x) : ∃ A cap, v = .slice A l.length cap ∧ RdI w w.heap.size A l.length cap l := by
  rcases h.2 with ⟨rfl, hn⟩ | ⟨g, cap, cur, rfl, hbase, hg, hnc, hm, hs, hl⟩
  · have : l = [] := List.eq_nil_of_length_eq_zero hn
    subst this
    exact ⟨none, 0, rfl, RdI.nil _ _⟩
  · refine ⟨some ⟨g, 0, none⟩, cap, rfl, rfl, hnc, hm, hw, fun hn => ⟨g, 0, rfl, row_lt hg, fun i hi => ?_⟩⟩
    rw [Nat.zero_add, row_cell hg]
    have h2 : (cur.toList.take (l.length * 1))[i]? = some (encZ l[i]) := by rw [hl]; simp [hi]
    rw [Nat.mul_one, List.getElem?_take_of_lt hi] at h2
    simpa using h2

set_option maxHeartbeats 1000000 in
theorem same_any {w : World} {A A2 : Option Addr} {n c c2 : Nat} {l l2 : List Int} (h : RdI w w.heap.size A n c l) (h2 : RdI w w.heap.size A2 n c2 l2) (he : l = l2) :
    Calls Tryz.prog 46 #[.slice A n c, .slice A2 n c2] w fun e w' => e = .returned (.bool true) ∧ Below w.heap.size w w' := by
  subst he
  have HL := hid h.1; have HCm := hid (Nat.le_trans h.2.1 h.2.2.1)
  have H := hid h; have H2 := hid h2; clear h h2
  go_enter Tryz.func46, Tryz.ntmps46
  go_wp2_with fail
  go_loopw [5] (fun i wr => ∃ j : Nat, j ≤ n ∧ i = .int .i64 j ∧ Hid (Below w.heap.size w wr)) (fun i _ => n - (intOf i).toNat)
  case atStart => exact ⟨0, by omega, rfl, B0 w⟩
  case round =>
    obtain ⟨j, hj, rfl, hb⟩ := hrel
    by_cases hlt : j < n
    · obtain ⟨b, off, rfl, hbl, hc⟩ := H.out.2.2.2.2 (by omega)
      obtain ⟨b2, off2, rfl, hbl2, hc2⟩ := H2.out.2.2.2.2 (by omega)
      have hjl : j < l.length := by have := HL.out; omega
      have hjb : (j : Int) + 1 ≤ 9223372036854775807 := by have := HCm.out; unfold maxLen at this; omega
      obtain ⟨x, hx⟩ : ∃ x, x = l[j] := ⟨_, rfl⟩
      have hcell : wr.cell? ⟨b, off + j, none⟩ = some (.int .i64 x) := by rw [hx]; exact (hb.out.cell (p := ⟨b, off + j, none⟩) hbl).trans (hc j hjl)
      have hcell2 : wr.cell? ⟨b2, off2 + j, none⟩ = some (.int .i64 x) := by rw [hx]; exact (hb.out.cell (p := ⟨b2, off2 + j, none⟩) hbl2).trans (hc2 j hjl)
      clear hx hc hc2 hjl
      go_wp2_with fail
      go_quiet (fail)
      go_wp2_with fail
      exact ⟨⟨j + 1, by omega, by go_num, Bd hb.out nq⟩, by simp [intOf]; omega⟩
    · obtain rfl : j = n := by omega
      go_wp2_with fail
      go_ret
      exact ⟨rfl, hb.out⟩

theorem rd_abcd (w : World) : Rd (w.alloc (.cells #[.int .u8 97, .int .u8 98, .int .u8 99, .int .u8 100] 5 (4, 5))) (w.alloc (.cells #[.int .u8 97, .int .u8 98, .int .u8 99, .int .u8 100] 5 (4, 5))).heap.size (some ⟨w.heap.size, 0, none⟩) 4 4 [97, 98, 99, 100] := by
  refine ⟨rfl, Nat.le_refl _, by decide, (fun h => by cases h), fun _ => ⟨w.heap.size, 0, rfl, by simp, fun i hi => ?_⟩⟩
  have : i = 0 ∨ i = 1 ∨ i = 2 ∨ i = 3 := by simp at hi; omega
  rw [World.cell?_alloc_mark]
  rcases this with rfl | rfl | rfl | rfl <;> rfl

theorem row_fr {g lb fb : Nat} {w w' : World} {base n : Nat} {e : TypeId} {v : Value} {cs : List Value} (h : w.ownsRow base e 1 v n cs) (hf : Fr g lb fb w w') (h1 : g < base) (h2 : lb < base) (h3 : fb < base) : w'.ownsRow base e 1 v n cs := by
  refine ⟨h.1, ?_⟩
  rcases h.2 with h0 | ⟨b, cap, cur, hv, hb, hg, hr⟩
  · exact .inl h0
  · exact .inr ⟨b, cap, cur, hv, hb, (hf.block b (row_lt hg) (by omega) (by omega) (by omega)).trans hg, hr⟩
theorem row_below {w w' : World} {base n : Nat} {e : TypeId} {v : Value} {cs : List Value} (h : w.ownsRow base e 1 v n cs) (hf : Below w.heap.size w w') : w'.ownsRow base e 1 v n cs := by
  refine ⟨h.1, ?_⟩
  rcases h.2 with h0 | ⟨b, cap, cur, hv, hb, hg, hr⟩
  · exact .inl h0
  · exact .inr ⟨b, cap, cur, hv, hb, (hf.block b (row_lt hg)).trans hg, hr⟩

def aS1 : List UInt8 := setL (zeros 16) 6 [97, 98, 99, 100]
def aL1 : Int → Option (List UInt8) := wrL (zeros 16) (fun _ => none) 0 2
def aF1 : Int → Bool := wrF (fun _ => false) 0 2
def aF2 : Int → Bool := flF aF1 aL1 0 1
def aS4 : List UInt8 := crS aS1 (feL aL1 aF2) (fun k => !decide (k ∈ ([] : List Int)))
theorem aS4_read : (aS4.drop 6).take 4 = [97, 98, 0, 0] := by decide +kernel
theorem aL1_loose : looseL (aS1.length / 8) aL1 = [0, 1] := by decide +kernel
theorem aS1_len : aS1.length = 16 := by decide +kernel
theorem aS4_len : aS4.length = 16 := by unfold aS4; rw [crS_length]; exact aS1_len

end Go.Proofs.YteggkojlpgkhbaaGreat

namespace Go.Proofs.YteggkojlpgkhbaaGreat
open Go.RowKit Go.Maps Go.Sort
set_option linter.unusedVariables false

/-- A call of a script. -/
structure OpV where
  kind : Int
  at_ : Int
  long : Int
  ab : Option Addr
  nb : Nat
  cb : Nat
  bs : List UInt8
  ak : Option Addr
  nk : Nat
  ck : Nat
  ks : List Int
def OpV.ok (w : World) (B : Nat) (o : OpV) : Prop := I64 o.kind ∧ I64 o.at_ ∧ I64 o.long ∧ Rd w B o.ab o.nb o.cb o.bs ∧ RdI w B o.ak o.nk o.ck o.ks
def OpV.val (o : OpV) : Value := .agg #[.int .i64 o.kind, .int .i64 o.at_, .int .i64 o.long, .slice o.ab o.nb o.cb, .slice o.ak o.nk o.ck]
theorem OpV.ok.below {w w' : World} {B : Nat} {o : OpV} (h : o.ok w B) (hb : Below B w w') : o.ok w' B := ⟨h.1, h.2.1, h.2.2.1, h.2.2.2.1.below hb, h.2.2.2.2.below hb⟩
theorem OpV.ok.more {w : World} {B B' : Nat} {o : OpV} (h : o.ok w B) (hb : B ≤ B') : o.ok w B' := ⟨h.1, h.2.1, h.2.2.1, h.2.2.2.1.more hb, h.2.2.2.2.more hb⟩

def OpC (w : World) (b off : Nat) (o : OpV) : Prop :=
  w.cell? ⟨b, off, none⟩ = some (.int .i64 o.kind) ∧ w.cell? ⟨b, off + 1, none⟩ = some (.int .i64 o.at_) ∧ w.cell? ⟨b, off + 2, none⟩ = some (.int .i64 o.long) ∧
    w.cell? ⟨b, off + 3, none⟩ = some (.slice o.ab o.nb o.cb) ∧ w.cell? ⟨b, off + 4, none⟩ = some (.slice o.ak o.nk o.ck)
/-- A slice of calls. -/
def RdO (w : World) (B : Nat) (A : Option Addr) (n cap : Nat) (l : List OpV) : Prop :=
  l.length = n ∧ n ≤ cap ∧ cap ≤ maxLen ∧ (∀ o ∈ l, o.ok w B) ∧ (0 < n → ∃ b off, A = some ⟨b, off, none⟩ ∧ b < B ∧ ∀ i (h : i < l.length), OpC w b (off + i * 5) l[i])
theorem OpC.below {w w' : World} {B b off : Nat} {o : OpV} (h : OpC w b off o) (hb : Below B w w') (hlt : b < B) : OpC w' b off o :=
  ⟨(hb.cell (p := ⟨b, off, none⟩) hlt).trans h.1, (hb.cell (p := ⟨b, off + 1, none⟩) hlt).trans h.2.1, (hb.cell (p := ⟨b, off + 2, none⟩) hlt).trans h.2.2.1, (hb.cell (p := ⟨b, off + 3, none⟩) hlt).trans h.2.2.2.1, (hb.cell (p := ⟨b, off + 4, none⟩) hlt).trans h.2.2.2.2⟩
theorem RdO.below {w w' : World} {B n cap : Nat} {A : Option Addr} {l : List OpV} (h : RdO w B A n cap l) (hb : Below B w w') : RdO w' B A n cap l :=
  ⟨h.1, h.2.1, h.2.2.1, fun o ho => (h.2.2.2.1 o ho).below hb, fun hn => by
    obtain ⟨b, off, e, hlt, hc⟩ := h.2.2.2.2 hn
    exact ⟨b, off, e, hlt, fun i hi => (hc i hi).below hb hlt⟩⟩
theorem RdO.more {w : World} {B B' n cap : Nat} {A : Option Addr} {l : List OpV} (h : RdO w B A n cap l) (hB : B ≤ B') : RdO w B' A n cap l :=
  ⟨h.1, h.2.1, h.2.2.1, fun o ho => (h.2.2.2.1 o ho).more hB, fun hn => by
    obtain ⟨b, off, e, hlt, hc⟩ := h.2.2.2.2 hn
    exact ⟨b, off, e, by omega, hc⟩⟩
theorem RdO.on {w w' : World} {n cap : Nat} {A : Option Addr} {l : List OpV} (h : RdO w w.heap.size A n cap l) (hb : Below w.heap.size w w') : RdO w' w'.heap.size A n cap l := (h.below hb).more hb.size

def isB (v : Value) : Prop := ∃ b, v = .bool b

/-- A value that is a device behind a script, or none. -/
def Made (w w' : World) (e : Ending) : Prop :=
  (e = .returned (.tuple #[.pointer none, .bool false]) ∧ Below w.heap.size w w') ∨
  ∃ d g cap lb fb S L F, e = .returned (.tuple #[.pointer (some ⟨d, 0, none⟩), .bool true]) ∧ Dev w' w.heap.size d g cap lb fb S L F ∧ S.length = 80 ∧ Below w.heap.size w w'

end Go.Proofs.YteggkojlpgkhbaaGreat

namespace Go.Proofs.YteggkojlpgkhbaaGreat
open Go.ChangeShapes Go.WideShapes Go.ChangeAt Go.RowKit Go.Deep
set_option linter.unusedVariables false

section
variable {H : Type} {enc : TypeId × Value → H} {W : World} {fuel : Nat} {x : DataW H × List MemPlace}

theorem rd_of_trod {v : Value} (h : DataW.trod enc Tryz.prog W 0 (fun _ => true) true fuel 22 [v] = some x) : ∃ a len cap l, v = .slice a len cap ∧ Rd W W.heap.size a len cap l := by
  rcases open_ints Tryz.underlying22 Tryz.underlying5 (by kernel_rfl) h with ⟨hcs, _⟩ | ⟨a, l, c, zs, hcs, _, hl, hm, hz, _, hcell, hwz⟩
  · simp at hcs
    exact ⟨none, 0, 0, [], hcs, Rd.nil _ _⟩
  · simp at hcs
    obtain ⟨l', hl'⟩ := rd_of_cells hl hm (by simpa using hz) hcell hwz
    exact ⟨some a, l, c, l', hcs, hl'⟩

theorem rdI_of_cells {a : Addr} {len cap : Nat} {zs : List Int} (hl : len ≤ cap) (hm : cap ≤ maxLen) (hz : zs.length = cap)
    (hcell : ∀ i, i < zs.length → W.cell? (a.add i) = some (.int .i64 (zs.getD i 0))) (hwz : ∀ n ∈ zs, (Lit.int .i64 n).wf = true) :
    RdI W W.heap.size (some a) len cap (zs.take len) := by
  refine ⟨by simp; omega, hl, hm, fun y hy => hwz y (List.mem_of_mem_take hy), fun hn => ?_⟩
  obtain ⟨b, off, spot⟩ := a
  have h0 := hcell 0 (by omega)
  have hspot : spot = none := by simpa [Addr.add] using World.cell?_spot h0
  subst hspot
  refine ⟨b, off, rfl, ?_, fun i hi => ?_⟩
  · rw [add_plain] at h0
    by_cases hb : b < W.heap.size
    · exact hb
    · simp [World.cell?, Array.getElem?_eq_none (show W.heap.size ≤ b by omega)] at h0
  · simp at hi
    have h1 := hcell i (by omega)
    rw [add_plain] at h1
    rw [h1]
    simp [List.getD_eq_getElem?_getD, show i < zs.length by omega]

theorem rdI_of_trod {v : Value} (h : DataW.trod enc Tryz.prog W 0 (fun _ => true) true fuel 52 [v] = some x) : ∃ a len cap l, v = .slice a len cap ∧ RdI W W.heap.size a len cap l := by
  rcases open_ints Tryz.underlying52 Tryz.underlying3 (by kernel_rfl) h with ⟨hcs, _⟩ | ⟨a, l, c, zs, hcs, _, hl, hm, hz, _, hcell, hwz⟩
  · simp at hcs
    exact ⟨none, 0, 0, [], hcs, RdI.nil _ _⟩
  · simp at hcs
    exact ⟨some a, l, c, _, hcs, rdI_of_cells hl hm (by simpa using hz) hcell hwz⟩

theorem one3 : Tryz.prog.cellsOf 3 = 1 := by kernel_rfl
theorem one28 : Tryz.prog.cellsOf 22 = 1 := by kernel_rfl
theorem one30 : Tryz.prog.cellsOf 52 = 1 := by kernel_rfl
theorem five : Tryz.prog.cellsOf 54 = 5 := by kernel_rfl

set_option maxRecDepth 20000 in
theorem op_of_trod {cs : List Value} (h : DataW.trod enc Tryz.prog W 0 (fun _ => true) true fuel 54 cs = some x) :
    ∃ o : OpV, o.ok W W.heap.size ∧ cs = [.int .i64 o.kind, .int .i64 o.at_, .int .i64 o.long, .slice o.ab o.nb o.cb, .slice o.ak o.nk o.ck] := by
  obtain ⟨xs, n, _, _, hlen, hxl, hf⟩ := DataW.trod_struct Tryz.underlying54 h
  rw [five] at hlen
  match cs, hlen with
  | [c0, c1, c2, c3, c4], _ =>
    match xs, hxl with
    | [y0, y1, y2, y3, y4], _ =>
      have g0 : DataW.trod enc Tryz.prog W 0 (fun _ => true) true n 3 (List.take (Tryz.prog.cellsOf 3) (List.drop 0 [c0, c1, c2, c3, c4])) = some y0 := hf 0 _ rfl
      rw [one3] at g0
      change DataW.trod enc Tryz.prog W 0 (fun _ => true) true n 3 [c0] = some y0 at g0
      have g1 : DataW.trod enc Tryz.prog W 0 (fun _ => true) true n 3 (List.take (Tryz.prog.cellsOf 3) (List.drop 1 [c0, c1, c2, c3, c4])) = some y1 := hf 1 _ rfl
      rw [one3] at g1
      change DataW.trod enc Tryz.prog W 0 (fun _ => true) true n 3 [c1] = some y1 at g1
      have g2 : DataW.trod enc Tryz.prog W 0 (fun _ => true) true n 3 (List.take (Tryz.prog.cellsOf 3) (List.drop 2 [c0, c1, c2, c3, c4])) = some y2 := hf 2 _ rfl
      rw [one3] at g2
      change DataW.trod enc Tryz.prog W 0 (fun _ => true) true n 3 [c2] = some y2 at g2
      have g3 : DataW.trod enc Tryz.prog W 0 (fun _ => true) true n 22 (List.take (Tryz.prog.cellsOf 22) (List.drop 3 [c0, c1, c2, c3, c4])) = some y3 := hf 3 _ rfl
      rw [one28] at g3
      change DataW.trod enc Tryz.prog W 0 (fun _ => true) true n 22 [c3] = some y3 at g3
      have g4 : DataW.trod enc Tryz.prog W 0 (fun _ => true) true n 52 (List.take (Tryz.prog.cellsOf 52) (List.drop 4 [c0, c1, c2, c3, c4])) = some y4 := hf 4 _ rfl
      rw [one30] at g4
      change DataW.trod enc Tryz.prog W 0 (fun _ => true) true n 52 [c4] = some y4 at g4
      obtain ⟨a0, q0, _, w0⟩ := DataW.trod_int Tryz.underlying3 g0
      obtain ⟨a1, q1, _, w1⟩ := DataW.trod_int Tryz.underlying3 g1
      obtain ⟨a2, q2, _, w2⟩ := DataW.trod_int Tryz.underlying3 g2
      obtain ⟨a3, n3, k3, l3, q3, w3⟩ := rd_of_trod g3
      obtain ⟨a4, n4, k4, l4, q4, w4⟩ := rdI_of_trod g4
      simp at q0 q1 q2
      subst q0; subst q1; subst q2; subst q3; subst q4
      exact ⟨⟨a0, a1, a2, a3, n3, k3, l3, a4, n4, k4, l4⟩, ⟨w0, w1, w2, w3, w4⟩, rfl⟩

theorem rdO_of_trod {v : Value} (h : DataW.trod enc Tryz.prog W 0 (fun _ => true) true fuel 23 [v] = some x) : ∃ a len cap l, v = .slice a len cap ∧ RdO W W.heap.size a len cap l := by
  rcases open_slice Tryz.underlying23 h with ⟨hcs, _⟩ | ⟨a, len, cap, m, n, D, Pl, hcs, _, hl, hm, hmm, _, hi⟩
  · simp at hcs
    exact ⟨none, 0, 0, [], hcs, rfl, by omega, by simp [maxLen], by simp, fun h => by omega⟩
  · simp at hcs
    have hmc : m = cap := by simpa using hmm
    rw [five] at hi
    have hch : ∀ i, i < len → ∃ o : OpV, o.ok W W.heap.size ∧ ∃ cs', W.cells? 0 (a.add (i * 5)) 5 = some cs' ∧ cs' = [.int .i64 o.kind, .int .i64 o.at_, .int .i64 o.long, .slice o.ab o.nb o.cb, .slice o.ak o.nk o.ck] := by
      intro i hil
      obtain ⟨cs', hc, ht⟩ := hi i (by omega)
      obtain ⟨o, ho, e⟩ := op_of_trod ht
      exact ⟨o, ho, cs', hc, e⟩
    have hex : ∃ f : Nat → OpV, ∀ i, i < len → (f i).ok W W.heap.size ∧ ∃ cs', W.cells? 0 (a.add (i * 5)) 5 = some cs' ∧ cs' = [.int .i64 (f i).kind, .int .i64 (f i).at_, .int .i64 (f i).long, .slice (f i).ab (f i).nb (f i).cb, .slice (f i).ak (f i).nk (f i).ck] := by
      refine ⟨fun i => if hi : i < len then (hch i hi).choose else ⟨0, 0, 0, none, 0, 0, [], none, 0, 0, []⟩, fun i hi => ?_⟩
      simp only [hi, dif_pos]
      exact (hch i hi).choose_spec
    obtain ⟨f, hf⟩ := hex
    refine ⟨some a, len, cap, (List.range len).map f, hcs, by simp, hl, hm, ?_, fun hn => ?_⟩
    · intro o ho
      obtain ⟨i, hi, rfl⟩ := List.mem_map.1 ho
      exact (hf i (List.mem_range.1 hi)).1
    · obtain ⟨b, off, spot⟩ := a
      have hcell : ∀ i, i < len → ∀ j, j < 5 → W.cell? ((Addr.mk b off spot).add (i * 5 + j)) = [Value.int .i64 (f i).kind, .int .i64 (f i).at_, .int .i64 (f i).long, .slice (f i).ab (f i).nb (f i).cb, .slice (f i).ak (f i).nk (f i).ck][j]? := by
        intro i hi j hj
        obtain ⟨_, cs', hc, e⟩ := hf i hi
        obtain ⟨_, _, hat⟩ := World.cells?_some hc
        have := hat j hj
        rw [Go.Deep.add_add, e] at this
        exact this
      have h0 := hcell 0 hn 0 (by omega)
      have hspot : spot = none := by
        have := World.cell?_spot (v := .int .i64 (f 0).kind) (by simpa using h0)
        simpa [Addr.add] using this
      subst hspot
      refine ⟨b, off, rfl, ?_, fun i hi => ?_⟩
      · simp only [add_plain] at h0
        by_cases hb : b < W.heap.size
        · exact hb
        · simp [World.cell?, Array.getElem?_eq_none (show W.heap.size ≤ b by omega)] at h0
      · simp at hi
        have c := fun j hj => hcell i hi j hj
        simp only [add_plain] at c
        have c0 := c 0 (by omega); have c1 := c 1 (by omega); have c2 := c 2 (by omega); have c3 := c 3 (by omega); have c4 := c 4 (by omega)
        simp only [List.getElem_map, List.getElem_range, OpC]
        refine ⟨by simpa using c0, ?_, ?_, ?_, ?_⟩
        · rw [Nat.add_assoc]; simpa using c1
        · rw [Nat.add_assoc]; simpa using c2
        · rw [Nat.add_assoc]; simpa using c3
        · rw [Nat.add_assoc]; simpa using c4
end
end Go.Proofs.YteggkojlpgkhbaaGreat

namespace Go.Proofs.YteggkojlpgkhbaaGreat
open Go.ChangeShapes Go.WideShapes Go.ChangeAt Go.RowKit Go.Deep
set_option linter.unusedVariables false

section
variable {H : Type} {enc : TypeId × Value → H} {W : World} {fuel : Nat} {x : DataW H × List MemPlace}
theorem cellsSeat : Tryz.prog.cellsOf 27 = 4 := by kernel_rfl
theorem cellsReg : Tryz.prog.cellsOf 25 = 2 := by kernel_rfl
theorem cellsOps : Tryz.prog.cellsOf 23 = 1 := by kernel_rfl
set_option maxRecDepth 20000 in
theorem reg_of_trod {cs : List Value} (h : DataW.trod enc Tryz.prog W 0 (fun _ => true) true fuel 25 cs = some x) :
    ∃ a b : Int, I64 a ∧ I64 b ∧ cs = [.int .i64 a, .int .i64 b] := by
  obtain ⟨xs, n, _, _, hlen, hxl, hf⟩ := DataW.trod_struct Tryz.underlying25 h
  rw [cellsReg] at hlen
  match cs, hlen with
  | [c0, c1], _ =>
    match xs, hxl with
    | [y0, y1], _ =>
      have g0 : DataW.trod enc Tryz.prog W 0 (fun _ => true) true n 3 (List.take (Tryz.prog.cellsOf 3) (List.drop 0 [c0, c1])) = some y0 := hf 0 _ rfl
      rw [one3] at g0
      change DataW.trod enc Tryz.prog W 0 (fun _ => true) true n 3 [c0] = some y0 at g0
      have g1 : DataW.trod enc Tryz.prog W 0 (fun _ => true) true n 3 (List.take (Tryz.prog.cellsOf 3) (List.drop 1 [c0, c1])) = some y1 := hf 1 _ rfl
      rw [one3] at g1
      change DataW.trod enc Tryz.prog W 0 (fun _ => true) true n 3 [c1] = some y1 at g1
      obtain ⟨a0, q0, _, w0⟩ := DataW.trod_int Tryz.underlying3 g0
      obtain ⟨a1, q1, _, w1⟩ := DataW.trod_int Tryz.underlying3 g1
      simp at q0 q1
      subst q0; subst q1
      exact ⟨a0, a1, w0, w1, rfl⟩
set_option maxRecDepth 20000 in
theorem seat_of_trod {cs : List Value} (h : DataW.trod enc Tryz.prog W 0 (fun _ => true) true fuel 27 cs = some x) :
    ∃ (A : Option Addr) (n c : Nat) (b : List UInt8) (A2 : Option Addr) (n2 c2 : Nat) (l : List OpV) (at_ words : Int), Rd W W.heap.size A n c b ∧ RdO W W.heap.size A2 n2 c2 l ∧ I64 at_ ∧ I64 words ∧ cs = [.slice A n c, .slice A2 n2 c2, .int .i64 at_, .int .i64 words] := by
  obtain ⟨xs, n, _, _, hlen, hxl, hf⟩ := DataW.trod_struct Tryz.underlying27 h
  rw [cellsSeat] at hlen
  match cs, hlen with
  | [c0, c1, c2, c3], _ =>
    match xs, hxl with
    | [y0, y1, y2], _ =>
      have g0 : DataW.trod enc Tryz.prog W 0 (fun _ => true) true n 22 (List.take (Tryz.prog.cellsOf 22) (List.drop 0 [c0, c1, c2, c3])) = some y0 := hf 0 _ rfl
      rw [one28] at g0
      change DataW.trod enc Tryz.prog W 0 (fun _ => true) true n 22 [c0] = some y0 at g0
      have g1 : DataW.trod enc Tryz.prog W 0 (fun _ => true) true n 23 (List.take (Tryz.prog.cellsOf 23) (List.drop 1 [c0, c1, c2, c3])) = some y1 := hf 1 _ rfl
      rw [cellsOps] at g1
      change DataW.trod enc Tryz.prog W 0 (fun _ => true) true n 23 [c1] = some y1 at g1
      have g2 : DataW.trod enc Tryz.prog W 0 (fun _ => true) true n 25 (List.take (Tryz.prog.cellsOf 25) (List.drop 2 [c0, c1, c2, c3])) = some y2 := hf 2 _ rfl
      rw [cellsReg] at g2
      change DataW.trod enc Tryz.prog W 0 (fun _ => true) true n 25 [c2, c3] = some y2 at g2
      obtain ⟨a0, n0, k0, l0, q0, w0⟩ := rd_of_trod g0
      obtain ⟨a1, n1, k1, l1, q1, w1⟩ := rdO_of_trod g1
      obtain ⟨at_, words, ha, hw, q2⟩ := reg_of_trod g2
      simp at q2
      obtain ⟨q2, q3⟩ := q2
      subst q0; subst q1; subst q2; subst q3
      exact ⟨a0, n0, k0, l0, a1, n1, k1, l1, at_, words, w0, w1, ha, hw, rfl⟩
end
end Go.Proofs.YteggkojlpgkhbaaGreat

namespace Go.Proofs.YteggkojlpgkhbaaGreat
set_option linter.unusedVariables false

/-- The register goes on by one bit. -/
def shB (x : BitVec 16) : BitVec 16 := (x <<< 1) ^^^ (if x.msb then 4129#16 else 0#16)
/-- .. by so many. -/
def shN : Nat → BitVec 16 → BitVec 16
  | 0, x => x
  | k + 1, x => shB (shN k x)
/-- A byte, 8 bits to the left. -/
def byB (c : UInt8) : BitVec 16 := c.toBitVec.setWidth 16 <<< 8
/-- The register goes on by a byte. -/
def stB (x : BitVec 16) (c : UInt8) : BitVec 16 := shN 8 (x ^^^ byB c)
/-- .. by bytes. -/
def crcB (x : BitVec 16) (l : List UInt8) : BitVec 16 := l.foldl stB x

theorem crcB_append (x : BitVec 16) (l m : List UInt8) : crcB x (l ++ m) = crcB (crcB x l) m := List.foldl_append
theorem crcB_nil (x : BitVec 16) : crcB x [] = x := rfl
theorem crcB_snoc (x : BitVec 16) (l : List UInt8) (c : UInt8) : crcB x (l ++ [c]) = stB (crcB x l) c := by rw [crcB_append]; rfl

theorem xor4 (a b c d : BitVec 16) : (a ^^^ b) ^^^ (c ^^^ d) = (a ^^^ c) ^^^ (b ^^^ d) := by
  rw [BitVec.xor_assoc, ← BitVec.xor_assoc b, BitVec.xor_comm b c, BitVec.xor_assoc c, ← BitVec.xor_assoc]

theorem shB_xor (a b : BitVec 16) : shB (a ^^^ b) = shB a ^^^ shB b := by
  unfold shB
  rw [BitVec.shiftLeft_xor_distrib, BitVec.msb_xor, xor4]
  congr 1
  cases a.msb <;> cases b.msb <;> decide
theorem shN_xor (k : Nat) (a b : BitVec 16) : shN k (a ^^^ b) = shN k a ^^^ shN k b := by
  induction k with
  | zero => rfl
  | succ k ih => rw [shN, ih, shB_xor]; rfl
theorem byB_xor (c d : UInt8) : byB (c ^^^ d) = byB c ^^^ byB d := by
  unfold byB
  rw [UInt8.toBitVec_xor, BitVec.setWidth_xor, BitVec.shiftLeft_xor_distrib]
theorem stB_xor (a b : BitVec 16) (c d : UInt8) : stB (a ^^^ b) (c ^^^ d) = stB a c ^^^ stB b d := by
  unfold stB; rw [byB_xor, xor4, shN_xor]
theorem crcB_xor : ∀ (l m : List UInt8) (a b : BitVec 16), l.length = m.length → crcB (a ^^^ b) (l.zipWith (· ^^^ ·) m) = crcB a l ^^^ crcB b m
  | [], [], _, _, _ => rfl
  | c :: l, d :: m, a, b, h => by
    show crcB (stB (a ^^^ b) (c ^^^ d)) (l.zipWith (· ^^^ ·) m) = crcB (stB a c) l ^^^ crcB (stB b d) m
    rw [stB_xor]
    exact crcB_xor l m _ _ (by simpa using h)
  | [], _ :: _, _, _, h => by simp at h
  | _ :: _, [], _, _, h => by simp at h

theorem shB_zero : shB 0#16 = 0#16 := by decide
theorem shN_zero (k : Nat) : shN k 0#16 = 0#16 := by
  induction k with
  | zero => rfl
  | succ k ih => rw [shN, ih, shB_zero]
theorem crcB_zeros (k : Nat) : crcB 0#16 (List.replicate k 0) = 0#16 := by
  induction k with
  | zero => rfl
  | succ k ih =>
    rw [List.replicate_succ]
    have h : stB 0#16 0 = 0#16 := shN_zero 8
    show crcB (stB 0#16 0) (List.replicate k 0) = 0#16
    rw [h]; exact ih

theorem msb_lt (x : BitVec 16) : x.msb = decide (32768 ≤ x.toNat) := by rw [BitVec.msb_eq_decide]
theorem toNat_shl1 (x : BitVec 16) : (x <<< 1).toNat = x.toNat * 2 % 65536 := by
  rw [BitVec.toNat_shiftLeft, Nat.shiftLeft_eq]
theorem shB_ker (x : BitVec 16) (h : shB x = 0#16) : x = 0#16 := by
  unfold shB at h
  have h1 := BitVec.xor_eq_zero_iff.1 h
  have h2 := congrArg BitVec.toNat h1
  have hx := x.isLt
  rw [toNat_shl1, msb_lt] at h2
  by_cases hm : 32768 ≤ x.toNat
  · simp [hm] at h2; omega
  · simp [hm] at h2
    apply BitVec.eq_of_toNat_eq; simp; omega
theorem xor_cancel {a b : BitVec 16} (h : a ^^^ b = 0#16) : a = b := BitVec.xor_eq_zero_iff.1 h
theorem shB_inj {a b : BitVec 16} (h : shB a = shB b) : a = b := by
  apply xor_cancel; apply shB_ker; rw [shB_xor, h, BitVec.xor_self]
theorem shN_inj : ∀ (k : Nat) {a b : BitVec 16}, shN k a = shN k b → a = b
  | 0, _, _, h => h
  | k + 1, _, _, h => shN_inj k (shB_inj h)
theorem byB_toNat (c : UInt8) : (byB c).toNat = c.toNat * 256 := by
  unfold byB
  have := c.toNat_lt
  rw [BitVec.toNat_shiftLeft, Nat.shiftLeft_eq, BitVec.toNat_setWidth]
  simp only [UInt8.toNat_toBitVec]; omega
theorem byB_inj {c d : UInt8} (h : byB c = byB d) : c = d := by
  have := congrArg BitVec.toNat h
  rw [byB_toNat, byB_toNat] at this
  apply UInt8.toNat_inj.1; omega
theorem stB_inj {a b : BitVec 16} {c : UInt8} (h : stB a c = stB b c) : a = b := by
  have h1 := shN_inj 8 h
  have h2 : (a ^^^ byB c) ^^^ byB c = (b ^^^ byB c) ^^^ byB c := by rw [h1]
  simpa [BitVec.xor_assoc] using h2
theorem stB_ne {a : BitVec 16} {c d : UInt8} (h : c ≠ d) : stB a c ≠ stB a d := by
  intro e
  have h1 := shN_inj 8 e
  apply h; apply byB_inj
  have h2 : a ^^^ (a ^^^ byB c) = a ^^^ (a ^^^ byB d) := by rw [h1]
  simpa [← BitVec.xor_assoc] using h2
theorem crcB_inj : ∀ (l : List UInt8) {a b : BitVec 16}, crcB a l = crcB b l → a = b
  | [], _, _, h => h
  | c :: l, _, _, h => stB_inj (crcB_inj l h)
/-- Bytes of which one is another one have another sum. -/
theorem crcB_set {l : List UInt8} {i : Nat} (hi : i < l.length) {c : UInt8} (h : c ≠ l[i]) (x : BitVec 16) : crcB x (l.set i c) ≠ crcB x l := by
  have e1 : l.set i c = l.take i ++ c :: l.drop (i + 1) := by rw [List.set_eq_take_append_cons_drop]; simp [hi]
  have e2 : l = l.take i ++ l[i] :: l.drop (i + 1) := by rw [← List.drop_eq_getElem_cons hi, List.take_append_drop]
  intro e
  rw [e1] at e
  have e3 : crcB x l = crcB x (l.take i ++ l[i] :: l.drop (i + 1)) := by rw [← e2]
  rw [e3, crcB_append, crcB_append] at e
  exact stB_ne h (crcB_inj (l.drop (i + 1)) e)

/-! ### As numbers -/
theorem sh_hi (x : BitVec 16) (h : 32768 ≤ x.toNat) : bits .xor .u16 (IntKind.u16.wrap ((x.toNat : Int) * 2)) 4129 = ((shB x).toNat : Int) := by
  have hx := x.isLt
  have e : IntKind.u16.wrap ((x.toNat : Int) * 2) = ((x.toNat * 2 % 65536 : Nat) : Int) := by rw [IntKind.wrap_u16]; omega
  rw [e, show (4129 : Int) = ((4129 : Nat) : Int) from rfl, u16_xor_nat _ _ (by omega) (by omega)]
  unfold shB
  rw [msb_lt]
  simp [h, Nat.shiftLeft_eq]
theorem sh_lo (x : BitVec 16) (h : x.toNat < 32768) : ((x.toNat : Int) * 2) = ((shB x).toNat : Int) := by
  unfold shB
  rw [msb_lt]
  simp [show ¬ 32768 ≤ x.toNat by omega, Nat.shiftLeft_eq]
  omega
theorem xor_by (x : BitVec 16) (c : UInt8) : bits .xor .u16 (x.toNat : Int) ((c.toNat : Int) * 256) = ((x ^^^ byB c).toNat : Int) := by
  have hx := x.isLt
  have hc := c.toNat_lt
  have e : ((c.toNat : Int) * 256) = ((c.toNat * 256 : Nat) : Int) := by omega
  rw [e, u16_xor_nat _ _ (by omega) (by omega), BitVec.toNat_xor, byB_toNat]
/-- The lowest 16 bits of a number. -/
def lowB (n : Int) : BitVec 16 := BitVec.ofInt 16 n
theorem lowB_toNat (n : Int) : ((lowB n).toNat : Int) = n % 65536 := by
  unfold lowB; rw [BitVec.toNat_ofInt]
  simp; omega
theorem lowB_wrap (n : Int) : IntKind.u16.wrap n = ((lowB n).toNat : Int) := by rw [lowB_toNat, IntKind.wrap_u16]
end Go.Proofs.YteggkojlpgkhbaaGreat
