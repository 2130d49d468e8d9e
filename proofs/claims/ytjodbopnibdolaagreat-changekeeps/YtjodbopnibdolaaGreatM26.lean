/-
  That the functions of the library which are called (slices.Sort, maps.Keys and the like) have at this program the bodies of which their contracts speak.
  slices.Sorted of slices.Values of numbers.
  slices.Sorted of slices.Values of numbers; the program's isOrder.
-/
import Derived.Shelf.SortM.Plain
import Derived.Shelf.SortM.SortNone
import Derived.Ground.SlgmProg
import Derived.Test.YtjodbopnibdolaaGreatProg
import Derived.Test.YtjodbopnibdolaaGreatM17
import Derived.Test.YtjodbopnibdolaaGreatM22
import Derived.Lib.SlKeysI

namespace Go.Proofs
open Go.Shelf
def Tryz.sortA_ren : Go.Shelf.Ren := ⟨fun | 5 => 96 | 8 => 102 | 7 => 101 | 19 => 112 | 20 => 113 | 10 => 103 | 11 => 104 | 12 => 105 | 13 => 106 | 14 => 107 | 15 => 108 | 16 => 109 | 17 => 110 | 18 => 111 | 30 => 114 | 31 => 115 | 32 => 116 | 33 => 117 | 34 => 118 | 35 => 119 | 40 => 120 | n => n, fun | 23 => 50 | 25 => 3 | 3 => 3 | 32 => 134 | 22 => 50 | 0 => 0 | 44 => 148 | 46 => 31 | 4 => 4 | 36 => 140 | 35 => 139 | 41 => 145 | 5 => 5 | 9 => 9 | 53 => 150 | 57 => 154 | 63 => 156 | 64 => 157 | n => n, fun | n => n⟩
theorem Tryz.sortA : Go.Proofs.SlLaysM.n5 Tryz.prog Tryz.sortA_ren := {
  mixed := by kernel_rfl
  f5 := ⟨Tryz.f96.name, by decide, Tryz.func96.trans (congrArg some (by kernel_rfl))⟩
  f7 := ⟨Tryz.f101.name, by decide, Tryz.func101.trans (congrArg some (by kernel_rfl))⟩
  f8 := Tryz.func102.trans (congrArg some (by kernel_rfl))
  f10 := ⟨Tryz.f103.name, by decide, Tryz.func103.trans (congrArg some (by kernel_rfl))⟩
  f11 := ⟨Tryz.f104.name, by decide, Tryz.func104.trans (congrArg some (by kernel_rfl))⟩
  f12 := ⟨Tryz.f105.name, by decide, Tryz.func105.trans (congrArg some (by kernel_rfl))⟩
  f13 := ⟨Tryz.f106.name, by decide, Tryz.func106.trans (congrArg some (by kernel_rfl))⟩
  f14 := ⟨Tryz.f107.name, by decide, Tryz.func107.trans (congrArg some (by kernel_rfl))⟩
  f15 := ⟨Tryz.f108.name, by decide, Tryz.func108.trans (congrArg some (by kernel_rfl))⟩
  f16 := ⟨Tryz.f109.name, by decide, Tryz.func109.trans (congrArg some (by kernel_rfl))⟩
  f17 := ⟨Tryz.f110.name, by decide, Tryz.func110.trans (congrArg some (by kernel_rfl))⟩
  f18 := ⟨Tryz.f111.name, by decide, Tryz.func111.trans (congrArg some (by kernel_rfl))⟩
  f19 := Tryz.func112.trans (congrArg some (by kernel_rfl))
  f20 := Tryz.func113.trans (congrArg some (by kernel_rfl))
  f30 := ⟨Tryz.f114.name, by decide, Tryz.func114.trans (congrArg some (by kernel_rfl))⟩
  f31 := Tryz.func115.trans (congrArg some (by kernel_rfl))
  f32 := Tryz.func116.trans (congrArg some (by kernel_rfl))
  f33 := ⟨Tryz.f117.name, by decide, Tryz.func117.trans (congrArg some (by kernel_rfl))⟩
  f34 := ⟨Tryz.f118.name, by decide, Tryz.func118.trans (congrArg some (by kernel_rfl))⟩
  f35 := ⟨Tryz.f119.name, by decide, Tryz.func119.trans (congrArg some (by kernel_rfl))⟩
  f40 := ⟨Tryz.f120.name, by decide, Tryz.func120.trans (congrArg some (by kernel_rfl))⟩
  t0 := Tryz.underlying0
  a0 := Tryz.isAgg0
  z0 := Tryz.sizeOf0
  v0 := Tryz.zeroValue0
  t3 := Tryz.underlying3
  a3 := Tryz.isAgg3
  z3 := Tryz.sizeOf3
  v3 := Tryz.zeroValue3
  t4 := Tryz.underlying4
  a4 := Tryz.isAgg4
  z4 := Tryz.sizeOf4
  v4 := Tryz.zeroValue4
  t5 := Tryz.underlying5
  a5 := Tryz.isAgg5
  z5 := Tryz.sizeOf5
  v5 := Tryz.zeroValue5
  t9 := Tryz.underlying9
  a9 := Tryz.isAgg9
  z9 := Tryz.sizeOf9
  v9 := Tryz.zeroValue9
  t22 := Tryz.underlying50
  a22 := Tryz.isAgg50
  z22 := Tryz.sizeOf50
  v22 := Tryz.zeroValue50
  t23 := Tryz.underlying50
  a23 := Tryz.isAgg50
  z23 := Tryz.sizeOf50
  v23 := Tryz.zeroValue50
  t25 := Tryz.underlying3
  a25 := Tryz.isAgg3
  z25 := Tryz.sizeOf3
  v25 := Tryz.zeroValue3
  t32 := Tryz.underlying134
  a32 := Tryz.isAgg134
  z32 := Tryz.sizeOf134
  v32 := Tryz.zeroValue134
  t35 := Tryz.underlying139
  a35 := Tryz.isAgg139
  z35 := Tryz.sizeOf139
  v35 := Tryz.zeroValue139
  t36 := Tryz.underlying140
  a36 := Tryz.isAgg140
  z36 := Tryz.sizeOf140
  v36 := Tryz.zeroValue140
  t41 := Tryz.underlying145
  a41 := Tryz.isAgg145
  z41 := Tryz.sizeOf145
  v41 := Tryz.zeroValue145
  t44 := Tryz.underlying148
  a44 := Tryz.isAgg148
  z44 := Tryz.sizeOf148
  v44 := Tryz.zeroValue148
  t46 := Tryz.underlying31
  a46 := Tryz.isAgg31
  z46 := Tryz.sizeOf31
  v46 := Tryz.zeroValue31
  t53 := Tryz.underlying150
  a53 := Tryz.isAgg150
  z53 := Tryz.sizeOf150
  v53 := Tryz.zeroValue150
  t57 := Tryz.underlying154
  a57 := Tryz.isAgg154
  z57 := Tryz.sizeOf154
  v57 := Tryz.zeroValue154
  t63 := Tryz.underlying156
  a63 := Tryz.isAgg156
  z63 := Tryz.sizeOf156
  v63 := Tryz.zeroValue156
  t64 := Tryz.underlying157
  a64 := Tryz.isAgg157
  z64 := Tryz.sizeOf157
  v64 := Tryz.zeroValue157 }
end Go.Proofs

namespace Go.Proofs.YtjodbopnibdolaaGreat
open Go.RowKit
set_option linter.unusedVariables false
set_option linter.unusedSimpArgs false
attribute [local go_sem] Oper.semAt_some

theorem RdI.at {w : World} {B n cap : Nat} {A : Option Addr} {l : List Int} (h : RdI w B A n cap l) {i : Nat} {x : Int} (hi : l[i]? = some x) : i < n ∧ I64 x ∧ ∃ b off, A = some ⟨b, off, none⟩ ∧ ∀ w', Below B w w' → w'.cell? ⟨b, off + i, none⟩ = some (.int .i64 x) := by
  have hl : i < l.length := (List.getElem?_eq_some_iff.1 hi).1
  rw [List.getElem?_eq_getElem hl] at hi
  cases hi
  obtain ⟨b, off, e, hlt, hc⟩ := h.2.2.2.2 (by have := h.1; omega)
  exact ⟨by have := h.1; omega, h.2.2.2.1 _ (List.getElem_mem hl), b, off, e, fun w' hb => (hb.cell (p := ⟨b, off + i, none⟩) hlt).trans (hc i hl)⟩
theorem values_any (w : World) (A : Option Addr) (n c : Nat) :
    Calls Tryz.prog 92 #[.slice A n c] w fun e w' => e = .returned (.func (.func 97) #[] #[.pointer (some ⟨w.heap.size, 0, none⟩)]) ∧ w' = w.alloc (.cells #[.slice A n c] 50) := by
  go_enter Tryz.func92, Tryz.ntmps92
  go_wp2_with fail
  go_ret
  exact ⟨rfl, rfl⟩

set_option maxRecDepth 100000 in
set_option maxHeartbeats 4000000 in
theorem values_iter {w : World} {n₀ Bs n c : Nat} {A : Option Addr} {l : List Int} (hb : w.heap[Bs]? = some (.cells #[.slice A n c] 50 (0, 0))) (h : RdI w n₀ A n c l) (hn0 : n₀ ≤ w.heap.size) :
    Iter Tryz.prog 97 #[.pointer (some ⟨Bs, 0, none⟩)] (fun x : Int => #[.int .i64 x]) l (fun W W' => Below n₀ W W') w := by
  intro lo J Jx W hW hJ hJx hY h0
  have gB := (hW.block _ (row_lt hb)).trans hb
  have hBs : W.cell? ⟨Bs, 0, none⟩ = some (.slice A n c) := by rw [row_cell gB]; rfl
  have hr := h.below (hW.mono hn0)
  have HL := hid h.1
  have hnm : (n : Int) ≤ 9223372036854775807 := by have := Nat.le_trans h.2.1 h.2.2.1; unfold maxLen at this; omega
  have HR := hid hr
  have HJ0 := hid h0
  clear h hr hb gB hn0 h0
  refine (callsIn_wide (n := 5)).1 (callsIn_of_wp Tryz.func97 rfl trivial ?_ rfl)
  simp only [Tryz.ntmps97, List.size_toArray, List.length_cons, List.length_nil, Nat.reduceAdd, Nat.reduceSub, Array.replicate_succ, Array.replicate_zero, List.push_toArray, List.append_toArray, List.nil_append, List.cons_append]
  gi_wp2_with (fail)
  gi_loopw [7] (fun i wr => ∃ (k : Nat), k ≤ n ∧ i = .int .i64 k ∧ Hid (J k wr) ∧ Hid (Below n₀ W wr)) (fun i _ => n - (intOf i).toNat)
  case atStart => exact ⟨0, Nat.zero_le _, rfl, HJ0, hid (Below.refl _ _)⟩
  case round =>
    obtain ⟨k, hk, rfl, HJS, HB⟩ := hrel
    by_cases hlt : k < n
    · obtain ⟨x, hx⟩ : ∃ x, l[k]? = some x := ⟨_, List.getElem?_eq_getElem (by have := HL.out; omega)⟩
      obtain ⟨_, hx64, b, off, rfl, hc⟩ := HR.out.at hx
      have c0 := hc wr HB.out
      have hji : (k : Int) < n := by omega
      have hj0 : (0 : Int) ≤ k := by omega
      obtain ⟨fn, tmps, assign, body, hy, hR⟩ := hY k x wr hx HJS.out
      have hR' : RoundIn Fence.wide 4 Tryz.prog lo fn tmps assign body _ _ := ⟨hR.1, fun c cs _ => hR.2 c cs (room_wide _)⟩
      have HX := hid hx
      clear hc hx
      gi_wp2_with (fail)
      refine hR'.mono ?_
      rintro e W3 ⟨_, (⟨rfl, hJ3, hk3⟩ | ⟨rfl, hJx3⟩)⟩
      · have HJ3 := hid hJ3
        have HB3 := hid (HB.out.trans hk3)
        clear hk3 hJ3
        gi_wp2_with (fail)
        go_roundw
        case rel => exact ⟨k + 1, by omega, by simp, HJ3, HB3⟩
        case measure => simp [intOf]; omega
      · have HJX := hid hJx3
        clear hJx3
        gi_wp2_with (fail)
        refine bodyPost_ret (results_none rfl _ _ _) rfl ?_
        exact ⟨⟨_, rfl⟩, .inr ⟨k, by have := HL.out; omega, HJX.out⟩⟩
    · obtain rfl : k = n := by omega
      gi_wp2_with (fail)
      go_end0
      exact ⟨⟨_, rfl⟩, .inl (by rw [HL.out]; exact HJS.out)⟩

/-- What the loop that appends knows of its world. -/
structure SeqSt (w W : World) (B : Nat) (l : List Int) (k : Nat) (v : Value) : Prop where
  cl : W.heap[w.heap.size]? = some (.cells #[v] 50 (0, 0))
  ow : OwI W B v (l.take k)
  bl : Below w.heap.size w W
  az : B ≤ W.heap.size
theorem SeqSt.on {w W W' : World} {B k : Nat} {l : List Int} {v : Value} (h : SeqSt w W B l k v) (hb : Below W.heap.size W W') : SeqSt w W' B l k v :=
  ⟨(hb.block _ (row_lt h.cl)).trans h.cl, h.ow.on hb, h.bl.trans (hb.mono h.bl.size), Nat.le_trans h.az hb.size⟩
theorem SeqSt.keep {w W W' : World} {B k : Nat} {l : List Int} {v : Value} {row : Option Nat} (h : SeqSt w W B l k v) (hg : W.grownBy W' row) (hr : ∀ r, row = some r → w.heap.size ≤ r ∧ ∃ o : Obj, W.heap[r]? = some o ∧ o.isCells = false) : SeqSt w W' B l k v :=
  ⟨cells_keep h.cl hg (fun r e => (hr r e).2), h.ow.keep hg (fun r e => (hr r e).2), h.bl.grown hg (h.bl.size) (fun r e => (hr r e).1), Nat.le_trans h.az hg.size⟩

set_option maxRecDepth 100000 in
set_option maxHeartbeats 8000000 in
theorem appseq_any {w : World} {Bs n c : Nat} {A : Option Addr} {l : List Int} (hb : w.heap[Bs]? = some (.cells #[.slice A n c] 50 (0, 0))) (h : RdI w w.heap.size A n c l) (hn : n ≤ 1000000) :
    Calls Tryz.prog 100 #[.slice none 0 0, .func (.func 97) #[] #[.pointer (some ⟨Bs, 0, none⟩)]] w fun e w' => ∃ v, e = .returned v ∧ OwI w' w.heap.size v l ∧ Below w.heap.size w w' := by
  have HL := hid h.1
  obtain ⟨w2, hw2⟩ : ∃ w2, w2 = w.alloc (.cells #[.slice none 0 0] 50) := ⟨_, rfl⟩
  have hs2 : w2.heap.size = w.heap.size + 1 := by rw [hw2]; simp
  have hb2 : Below w.heap.size w w2 := by rw [hw2]; exact B1 w _
  have y0 : w2.heap[w.heap.size]? = some (.cells #[.slice none 0 0] 50 (0, 0)) := by rw [hw2]; exact heap_alloc_new w _
  have hit := (values_iter hb h (Nat.le_refl _)).later hb2
  have hL0 : SeqSt w w2 w2.heap.size l 0 (.slice none 0 0) := ⟨y0, OwI.nil _ _, hb2, Nat.le_refl _⟩
  have HS2 := hid hs2; have HW2 := hid hw2
  have HX : Hid (∀ x ∈ l, I64 x) := hid h.2.2.2.1
  have HN := hid hn
  clear h hb y0 hb2 hs2 hw2 hn
  refine (callsIn_wide (n := 5)).1 (callsIn_of_wp_marks Tryz.func100 rfl trivial ?_ rfl)
  simp only [Tryz.ntmps100, List.size_toArray, List.length_cons, List.length_nil, Nat.reduceAdd, Nat.reduceSub, Array.replicate_succ, Array.replicate_zero, List.push_toArray, List.append_toArray, List.nil_append, List.cons_append]
  gi_wp2_with (fail)
  rw [← HW2.out]
  obtain ⟨I, HI1⟩ : ∃ I : Nat → World → Prop, Hid (I = fun k W => ∃ v, SeqSt w W w2.heap.size l k v) := ⟨_, hid rfl⟩
  refine range_any (gf := 97) (lb := #[.pointer (some ⟨Bs, 0, none⟩)]) rfl (enters_of Tryz.func97 (by kernel_rfl) rfl)
    hit (fun h k => Below.trans h k) (fun W l o o' hl h hc => belowKb (m := w2.heap.size) (by have := HS2.out; omega) W l o o' hl h hc) (fun _ => rfl) I (fun _ _ _ => False)
    (by
      rw [HI1.out]
      rintro s A C row ⟨v, hs⟩ hg hr
      exact ⟨v, hs.keep hg (fun r e => ⟨by have := (hr r e).1; have := HS2.out; omega, (hr r e).2⟩)⟩)
    (fun c s A C row hs _ _ => hs)
    (by rw [HI1.out]; exact ⟨_, hL0⟩) ?_ ?_ ?_
  · rintro ll k x W1 hki hi1 hll hll2
    have HK := hid hki
    clear hki
    have hi1' := hi1
    rw [HI1.out] at hi1'
    obtain ⟨v1, hst1⟩ := hi1'
    gi_wp2_with (fail)
    refine ⟨kf_below (B0 _), Below.refl _ _, by rw [HI1.out]; exact ⟨_, hst1⟩, ?_⟩
    rintro W2 hg2 hi2
    rw [HI1.out] at hi2
    obtain ⟨v, hst⟩ := hi2
    have hlen : (l.take k).length ≤ 1000000 := by
      rw [List.length_take]; have := HL.out; have := HN.out; omega
    obtain ⟨v3, w3, hrun, hown, hgr⟩ := run_appI2 hst.ow x hlen hst.az 50
    obtain ⟨A3, n3, cc3, rfl⟩ := hown.shape
    have c0 : W2.cell? ⟨w.heap.size, 0, none⟩ = some v := by rw [row_cell hst.cl]; rfl
    have hb3 : Below W2.heap.size W2 (W2.alloc (.cells #[.int .i64 x] 3)) := B1 _ _
    have hrow : ∀ r, v.ownBlock = some r → w2.heap.size ≤ r ∧ ∃ cs, (W2.alloc (.cells #[.int .i64 x] 3)).heap[r]? = some (.cells cs 3 (0, 0)) := fun r e => by
      obtain ⟨h1, cs, h2⟩ := hst.ow.blk2 r e
      exact ⟨h1, cs, (hb3.block _ (row_lt h2)).trans h2⟩
    have hsz3 : W2.heap.size + 1 ≤ w3.heap.size := by have := hgr.size; simpa using this
    have hcl3 : w3.heap[w.heap.size]? = some (.cells #[v] 50 (0, 0)) := (hgr.block _ (by have := row_lt hst.cl; simp; omega) (fun e => by have := (hrow _ e.symm).1; have := HS2.out; omega)).trans ((hb3.block _ (row_lt hst.cl)).trans hst.cl)
    have hkf3 : KeepsFrom w2.heap.size W2 w3 := (kf_below hb3).trans (kf_grown hgr (fun r e => by obtain ⟨_, cs, hc⟩ := hrow r e; exact ⟨_, _, hc⟩))
    have hkp3 : Below w.heap.size W2 w3 := (hb3.mono hst.bl.size).trans ((Below.refl _ _).grown hgr (by have := hst.bl.size; simp; omega) (fun r e => by have := (hrow r e).1; have := HS2.out; omega))
    obtain ⟨w4, hw4⟩ : ∃ w4, w4 = w3.setCell ⟨w.heap.size, 0, none⟩ (.slice A3 n3 cc3) := ⟨_, rfl⟩
    have fz3 := row_frozen hcl3 0
    have cz3 : w3.cell? ⟨w.heap.size, 0, none⟩ = some v := by rw [row_cell hcl3]; rfl
    have hcl4 : w4.heap[w.heap.size]? = some (.cells #[.slice A3 n3 cc3] 50 (0, 0)) := by rw [hw4]; exact row_set hcl3 0 _
    have hkf4 : KeepsFrom w2.heap.size W2 w4 := by rw [hw4]; exact hkf3.trans (kf_set hcl3 0 _)
    have hkp4 : Below w.heap.size W2 w4 := by rw [hw4]; exact hkp3.setCell (p := ⟨w.heap.size, 0, none⟩) (Nat.le_refl _) _
    have how4 : OwI w4 w2.heap.size (.slice A3 n3 cc3) (l.take (k + 1)) := by
      rw [hw4, List.take_add_one, HK.out]; exact hown.set (by have := HS2.out; omega) 0 _
    have haz : w2.heap.size ≤ w4.heap.size := by rw [hw4, size_set]; have := hst.az; omega
    have HRUN := hid hrun; have HW4 := hid hw4
    have HCL4 := hid hcl4; have HKF4 := hid hkf4; have HKP4 := hid hkp4; have HOW4 := hid how4; have HAZ := hid haz
    have HBL : Hid (Below w.heap.size w w4) := hid (hst.bl.trans hkp4)
    clear hrun hown hgr hb3 hrow hcl3 hkf3 hkp3 hw4 hcl4 hkf4 hkp4 how4 hst hg2 hi1 hst1 hlen hL0 hit hsz3 haz
    gi_wp2_with (gi_at_builtin; refine wpListIn_app rfl _ _ rfl rfl rfl HRUN.out ?_)
    rw [← HW4.out]
    refine ⟨HKF4.out, HKP4.out, ?_⟩
    rw [HI1.out]
    exact ⟨_, ⟨HCL4.out, HOW4.out, HBL.out, HAZ.out⟩⟩
  · rintro D W1 hD hi1 hdf
    rw [HI1.out] at hi1
    obtain ⟨v, hst⟩ := hi1
    obtain ⟨A3, n3, cc3, rfl⟩ := hst.ow.shape
    have c0 : W1.cell? ⟨w.heap.size, 0, none⟩ = some (.slice A3 n3 cc3) := by rw [row_cell hst.cl]; rfl
    have HST := hid hst
    have HDF := hid hdf
    clear hst hdf hL0 hit
    gi_wp2_with (fail)
    refine ⟨by simp, .inl ⟨_, _, rfl, run_takeDeferred HDF.out, ?_⟩⟩
    refine ⟨_, results_tmp rfl _ _ _, _, rfl, ?_, below_put HST.out.bl (by have := HS2.out; omega) HDF.out rfl⟩
    have h2 := HST.out.ow
    rw [List.take_length] at h2
    exact (h2.keep (grownBy_putObj' _ D (.deferred none)) (fun r e => by cases e; exact ⟨_, HDF.out, rfl⟩)).less (by have := HS2.out; omega)
  · rintro D c k W1 hD hk hi1 hdf
    exact hi1.elim
end Go.Proofs.YtjodbopnibdolaaGreat

namespace Go.Proofs.YtjodbopnibdolaaGreat
open Go.RowKit Go.Sort Go.Shelf
set_option linter.unusedVariables false
set_option linter.unusedSimpArgs false

theorem collect_any {w : World} {Bs n c : Nat} {A : Option Addr} {l : List Int} (hb : w.heap[Bs]? = some (.cells #[.slice A n c] 50 (0, 0))) (h : RdI w w.heap.size A n c l) (hn : n ≤ 1000000) :
    Calls Tryz.prog 95 #[.func (.func 97) #[] #[.pointer (some ⟨Bs, 0, none⟩)]] w fun e w' => ∃ v, e = .returned v ∧ OwI w' w.heap.size v l ∧ Below w.heap.size w w' := by
  have C := hid (appseq_any hb h hn)
  clear h hb
  go_enter Tryz.func95, Tryz.ntmps95
  go_wp2_with fail
  refine C.out.mono ?_
  rintro e w1 ⟨v, rfl, ho, hb1⟩
  go_wp2_with fail
  go_ret
  exact ⟨_, rfl, ho, hb1⟩

def sortI (l : List Int) : List Int := l.mergeSort fun x y => decide (x ≤ y)
theorem sortI_length (l : List Int) : (sortI l).length = l.length := List.length_mergeSort l
theorem sorted_any {w : World} {Bs n c : Nat} {A : Option Addr} {l : List Int} (hb : w.heap[Bs]? = some (.cells #[.slice A n c] 50 (0, 0))) (h : RdI w w.heap.size A n c l) (hn : n ≤ 1000000) :
    Calls Tryz.prog 91 #[.func (.func 97) #[] #[.pointer (some ⟨Bs, 0, none⟩)]] w fun e w' => ∃ v, e = .returned v ∧ OwI w' w.heap.size v (sortI l) ∧ Below w.heap.size w w' := by
  have C := hid (collect_any hb h hn)
  have HL : Hid (l.length ≤ 1000000) := hid (by rw [h.1]; exact hn)
  clear h hb
  go_enter Tryz.func91, Tryz.ntmps91
  go_wp2_with fail
  refine C.out.mono ?_
  rintro e W ⟨v, rfl, ho, hbw⟩
  rcases ho.2 with ⟨rfl, hz⟩ | ⟨gb, cap, cur, rfl, hbase, hgb, r1, r2, r3, r4⟩
  · have hl : l = [] := List.eq_nil_of_length_eq_zero hz
    subst hl
    have cS := AnyM.slices_Sort_int_none Tryz.sortA none 0 W
    have CS := hid cS
    clear cS
    go_wp2_with fail
    refine CS.out.mono ?_
    rintro e w' ⟨rfl, rfl⟩
    go_wp2_with fail
    go_ret
    have e0 : sortI [] = [] := by unfold sortI; simp
    rw [e0]
    exact ⟨_, rfl, OwI.nil _ _, hbw⟩
  · have hH : Holds encZ W gb 0 l.toArray := holds_of_block_i hgb (by rw [Nat.mul_one] at r4; exact r4)
    have CS := hid (AnyM.slices_Sort_int Tryz.sortA gb 0 cap l W hH (row_lt hgb) (by have := HL.out; omega))
    clear hH
    go_wp2_with fail
    refine CS.out.mono ?_
    rintro e w' ⟨rfl, nn, os, rfl⟩
    go_wp2_with fail
    go_ret
    refine ⟨_, rfl, ?_, hbw.grown (grownBy_sorted_i _) hbw.size (fun j hj => by cases hj; exact hbase)⟩
    have h5 := ownsRow_sorted_i (os := os) (n := nn) (ss := l) (ts := sortI l) (sortI_length l) hbase hgb r1 r2 r3
    unfold OwI
    rw [sortI_length]
    exact h5

/-! ### An order -/
def rngI (n : Nat) : List Int := (List.range n).map Int.ofNat
theorem rngI_length (n : Nat) : (rngI n).length = n := by simp [rngI]
theorem rngI_get {n i : Nat} (h : i < n) : (rngI n)[i]? = some (i : Int) := by simp [rngI, h]
theorem rngI_count {n : Nat} (x : Int) : (rngI n).count x = if 0 ≤ x ∧ x < n then 1 else 0 := by
  have hn : (rngI n).Nodup := by
    unfold rngI
    rw [List.nodup_iff_pairwise_ne, List.pairwise_map]
    exact List.nodup_range.imp (fun h e => h (by simp at e; omega))
  rw [List.Nodup.count hn]
  have : x ∈ rngI n ↔ 0 ≤ x ∧ x < n := by
    unfold rngI
    rw [List.mem_map]
    refine ⟨fun ⟨i, hi, e⟩ => by rw [List.mem_range] at hi; subst e; simp; exact hi, fun ⟨h0, h1⟩ => ⟨x.toNat, by rw [List.mem_range]; omega, by simp; omega⟩⟩
  simp only [this]
theorem allB_perm {od : List Int} {n : Nat} : allB od n = true ↔ od.Perm (rngI n) := by
  constructor
  · intro h
    rw [List.perm_iff_count]
    intro x
    rw [rngI_count]
    by_cases c : 0 ≤ x ∧ x < n
    · rw [if_pos c]
      have := (allB_iff.1 h).2 x.toNat (by omega)
      rwa [Int.toNat_of_nonneg c.1] at this
    · rw [if_neg c, List.count_eq_zero]
      intro hx
      exact c (allB_mem h x hx)
  · intro h
    refine allB_iff.2 ⟨by rw [h.length_eq, rngI_length], fun i hi => ?_⟩
    rw [h.count_eq, rngI_count, if_pos (by omega)]
theorem rngI_sort (n : Nat) : sortI (rngI n) = rngI n := by
  refine List.mergeSort_of_pairwise ?_
  unfold rngI
  exact List.pairwise_map.2 (List.pairwise_lt_range.imp fun h => by simp; omega)
theorem sortI_perm (l : List Int) : (sortI l).Perm l := List.mergeSort_perm l _
theorem allB_sort {od : List Int} {n : Nat} : allB od n = true ↔ sortI od = rngI n := by
  rw [allB_perm]
  constructor
  · intro h
    rw [← rngI_sort n]
    exact mergeSort_of_perm_i h
  · intro h
    rw [← h]; exact (sortI_perm od).symm

set_option maxHeartbeats 2000000 in
theorem isorder_any {w : World} {A : Option Addr} {n c : Nat} {od : List Int} (h : RdI w w.heap.size A n c od) (m : Nat) (hm : m ≤ 1000000) :
    Calls Tryz.prog 84 #[.slice A n c, .int .i64 (m : Int)] w fun e w' => e = .returned (.bool (allB od m)) ∧ Below w.heap.size w w' := by
  have HL := hid h.1
  have hnm : (n : Int) ≤ 9223372036854775807 := by have := Nat.le_trans h.2.1 h.2.2.1; unfold maxLen at this; omega
  have HX : Hid (∀ x ∈ od, I64 x) := hid h.2.2.2.1
  have H := hid h
  clear h
  by_cases hne : n = m
  · subst hne
    go_enter Tryz.func84, Tryz.ntmps84
    go_wp2_with fail
    refine (values_any _ _ _ _).mono ?_
    rintro e w1 ⟨rfl, hw1⟩
    obtain ⟨p, hp⟩ : ∃ p, p = w.heap.size := ⟨_, rfl⟩
    rw [← hp]
    have HP1 : Hid (w1.heap[p]? = some (.cells #[.slice A n c] 50 (0, 0))) := by rw [hw1, hp]; exact hid (heap_alloc_new _ _)
    have HB1 : Hid (Below w.heap.size w w1) := by rw [hw1]; exact hid (B1 _ _)
    clear hw1 hp
    go_wp2_with fail
    refine (sorted_any HP1.out (H.out.on HB1.out) hm).mono ?_
    rintro e w2 ⟨v, rfl, ho, hb2⟩
    obtain ⟨A2, n2, c2, rfl⟩ := ho.shape
    obtain ⟨A3, c3, e3, hr⟩ := ho.rd (fun x hx => HX.out x ((sortI_perm od).mem_iff.1 hx))
    cases e3
    have HR := hid hr
    have HB2 := hid (Bt HB1.out hb2)
    have HLS : Hid ((sortI od).length = n) := hid (by rw [sortI_length, HL.out])
    obtain ⟨n2, hn2⟩ : ∃ n2, n2 = (sortI od).length := ⟨_, rfl⟩
    rw [← hn2] at HR HLS ⊢
    obtain rfl : n2 = n := HLS.out
    have HNE := hid hn2
    clear ho hr hb2 hn2
    go_wp2_with fail
    go_loopw [17] (fun i wr => ∃ j : Nat, j ≤ n2 ∧ i = .int .i64 j ∧ Hid (∀ k, k < j → (sortI od)[k]? = some (k : Int)) ∧ Hid (wr = w2)) (fun i _ => n2 - (intOf i).toNat)
    case atStart => exact ⟨0, by omega, rfl, hid (fun k hk => absurd hk (by omega)), hid rfl⟩
    case round =>
      obtain ⟨j, hj, rfl, HA, HWR⟩ := hrel
      by_cases hlt : j < n2
      · obtain ⟨x, hx⟩ : ∃ x, (sortI od)[j]? = some x := ⟨_, List.getElem?_eq_getElem (by have := HNE.out; omega)⟩
        obtain ⟨_, hx64, b, off, rfl, hc⟩ := HR.out.at hx
        have c0 := hc wr (by rw [HWR.out]; exact B0 _)
        have hji : (j : Int) < n2 := by omega
        have hj0 : (0 : Int) ≤ j := by omega
        have HXX := hid hx
        clear hc hx
        by_cases hxe : x = (j : Int)
        · subst hxe
          go_wp2_with fail
          exact ⟨⟨j + 1, by omega, by go_num, hid (fun k hk => by
            by_cases e : k = j
            · subst e; exact HXX.out
            · exact HA.out k (by omega)), HWR⟩, by simp [intOf]; omega⟩
        · have HE : Hid (allB od n2 = false) := hid (by
            cases hr : allB od n2 with
            | false => rfl
            | true =>
              have h1 := allB_sort.1 hr
              have h2 := HXX.out
              rw [h1, rngI_get hlt] at h2
              exact absurd (Option.some.inj h2).symm hxe)
          go_wp2_with fail
          go_ret
          exact ⟨by rw [HE.out]; rfl, by rw [HWR.out]; exact HB2.out⟩
      · obtain rfl : j = n2 := by omega
        have HE : Hid (allB od j = true) := hid (allB_sort.2 (List.ext_getElem? (fun k => by
          by_cases c : k < j
          · rw [HA.out k c, rngI_get c]
          · rw [List.getElem?_eq_none (by rw [sortI_length]; have := HL.out; omega), List.getElem?_eq_none (by rw [rngI_length]; omega)])))
        go_wp2_with fail
        go_ret
        exact ⟨by rw [HE.out]; rfl, by rw [HWR.out]; exact HB2.out⟩
  · have hni : ¬ (n : Int) = m := by omega
    have HE : Hid (allB od m = false) := hid (by
      cases hr : allB od m with
      | false => rfl
      | true => have := (allB_iff.1 hr).1; have := HL.out; omega)
    go_enter Tryz.func84, Tryz.ntmps84
    go_wp2_with fail
    go_ret
    exact ⟨by rw [HE.out]; rfl, B0 w⟩
end Go.Proofs.YtjodbopnibdolaaGreat
