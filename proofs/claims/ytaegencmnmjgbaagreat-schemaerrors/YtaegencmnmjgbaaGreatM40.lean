/-
  That the functions of the library which are called (slices.Sort, maps.Keys and the like) have at this program the bodies of which their contracts speak.
  slices.Sorted of slices.Values of numbers.
-/
import Derived.Shelf.SlIter.Nil
import Derived.Shelf.SortM.Plain
import Derived.Shelf.SortM.SortNone
import Derived.Ground.GgzProg
import Derived.Ground.SlgmProg
import Derived.Test.YtaegencmnmjgbaaGreatProg
import Derived.Test.YtaegencmnmjgbaaGreatM23

namespace Go.Proofs
open Go.Shelf
def Tryz.sortA_ren : Go.Shelf.Ren := ⟨fun | 5 => 203 | 8 => 125 | 7 => 206 | 19 => 158 | 20 => 159 | 10 => 207 | 11 => 208 | 12 => 209 | 13 => 210 | 14 => 211 | 15 => 212 | 16 => 213 | 17 => 214 | 18 => 215 | 30 => 216 | 31 => 183 | 32 => 184 | 33 => 217 | 34 => 218 | 35 => 219 | 40 => 220 | n => n, fun | 23 => 52 | 25 => 3 | 3 => 3 | 32 => 196 | 22 => 52 | 0 => 0 | 44 => 232 | 46 => 69 | 4 => 4 | 36 => 224 | 35 => 223 | 41 => 229 | 5 => 5 | 9 => 9 | 53 => 247 | 57 => 251 | 63 => 258 | 64 => 259 | n => n, fun | n => n⟩
theorem Tryz.sortA : Go.Proofs.SlLaysM.n5 Tryz.prog Tryz.sortA_ren := {
  mixed := by kernel_rfl
  f5 := ⟨Tryz.f203.name, by decide, Tryz.func203.trans (congrArg some (by kernel_rfl))⟩
  f7 := ⟨Tryz.f206.name, by decide, Tryz.func206.trans (congrArg some (by kernel_rfl))⟩
  f8 := Tryz.func125.trans (congrArg some (by kernel_rfl))
  f10 := ⟨Tryz.f207.name, by decide, Tryz.func207.trans (congrArg some (by kernel_rfl))⟩
  f11 := ⟨Tryz.f208.name, by decide, Tryz.func208.trans (congrArg some (by kernel_rfl))⟩
  f12 := ⟨Tryz.f209.name, by decide, Tryz.func209.trans (congrArg some (by kernel_rfl))⟩
  f13 := ⟨Tryz.f210.name, by decide, Tryz.func210.trans (congrArg some (by kernel_rfl))⟩
  f14 := ⟨Tryz.f211.name, by decide, Tryz.func211.trans (congrArg some (by kernel_rfl))⟩
  f15 := ⟨Tryz.f212.name, by decide, Tryz.func212.trans (congrArg some (by kernel_rfl))⟩
  f16 := ⟨Tryz.f213.name, by decide, Tryz.func213.trans (congrArg some (by kernel_rfl))⟩
  f17 := ⟨Tryz.f214.name, by decide, Tryz.func214.trans (congrArg some (by kernel_rfl))⟩
  f18 := ⟨Tryz.f215.name, by decide, Tryz.func215.trans (congrArg some (by kernel_rfl))⟩
  f19 := Tryz.func158.trans (congrArg some (by kernel_rfl))
  f20 := Tryz.func159.trans (congrArg some (by kernel_rfl))
  f30 := ⟨Tryz.f216.name, by decide, Tryz.func216.trans (congrArg some (by kernel_rfl))⟩
  f31 := Tryz.func183.trans (congrArg some (by kernel_rfl))
  f32 := Tryz.func184.trans (congrArg some (by kernel_rfl))
  f33 := ⟨Tryz.f217.name, by decide, Tryz.func217.trans (congrArg some (by kernel_rfl))⟩
  f34 := ⟨Tryz.f218.name, by decide, Tryz.func218.trans (congrArg some (by kernel_rfl))⟩
  f35 := ⟨Tryz.f219.name, by decide, Tryz.func219.trans (congrArg some (by kernel_rfl))⟩
  f40 := ⟨Tryz.f220.name, by decide, Tryz.func220.trans (congrArg some (by kernel_rfl))⟩
  t0 := Tryz.underlying0
  a0 := Tryz.isAgg0
  z0 := Tryz.sizeOf0
  v0 := Tryz.zeroValue0
  t3 := Tryz.underlying3
  a3 := Tryz.isAgg3
  z3 := Tryz.sizeOf3
  v3 := Tryz.zeroValue3
  t4 := Tryz.underlying4
  a4 := Tryz.isAgg4
  z4 := Tryz.sizeOf4
  v4 := Tryz.zeroValue4
  t5 := Tryz.underlying5
  a5 := Tryz.isAgg5
  z5 := Tryz.sizeOf5
  v5 := Tryz.zeroValue5
  t9 := Tryz.underlying9
  a9 := Tryz.isAgg9
  z9 := Tryz.sizeOf9
  v9 := Tryz.zeroValue9
  t22 := Tryz.underlying52
  a22 := Tryz.isAgg52
  z22 := Tryz.sizeOf52
  v22 := Tryz.zeroValue52
  t23 := Tryz.underlying52
  a23 := Tryz.isAgg52
  z23 := Tryz.sizeOf52
  v23 := Tryz.zeroValue52
  t25 := Tryz.underlying3
  a25 := Tryz.isAgg3
  z25 := Tryz.sizeOf3
  v25 := Tryz.zeroValue3
  t32 := Tryz.underlying196
  a32 := Tryz.isAgg196
  z32 := Tryz.sizeOf196
  v32 := Tryz.zeroValue196
  t35 := Tryz.underlying223
  a35 := Tryz.isAgg223
  z35 := Tryz.sizeOf223
  v35 := Tryz.zeroValue223
  t36 := Tryz.underlying224
  a36 := Tryz.isAgg224
  z36 := Tryz.sizeOf224
  v36 := Tryz.zeroValue224
  t41 := Tryz.underlying229
  a41 := Tryz.isAgg229
  z41 := Tryz.sizeOf229
  v41 := Tryz.zeroValue229
  t44 := Tryz.underlying232
  a44 := Tryz.isAgg232
  z44 := Tryz.sizeOf232
  v44 := Tryz.zeroValue232
  t46 := Tryz.underlying69
  a46 := Tryz.isAgg69
  z46 := Tryz.sizeOf69
  v46 := Tryz.zeroValue69
  t53 := Tryz.underlying247
  a53 := Tryz.isAgg247
  z53 := Tryz.sizeOf247
  v53 := Tryz.zeroValue247
  t57 := Tryz.underlying251
  a57 := Tryz.isAgg251
  z57 := Tryz.sizeOf251
  v57 := Tryz.zeroValue251
  t63 := Tryz.underlying258
  a63 := Tryz.isAgg258
  z63 := Tryz.sizeOf258
  v63 := Tryz.zeroValue258
  t64 := Tryz.underlying259
  a64 := Tryz.isAgg259
  z64 := Tryz.sizeOf259
  v64 := Tryz.zeroValue259 }
def Tryz.keysS_ren : Go.Shelf.Ren := ⟨fun | 7 => 53 | 10 => 87 | n => n, fun | 23 => 84 | 26 => 9 | 3 => 83 | 28 => 122 | 0 => 0 | 27 => 121 | 33 => 80 | 4 => 4 | n => n, fun | n => n⟩
theorem Tryz.keysS : Go.Proofs.SlLaysZ.n7 Tryz.prog Tryz.keysS_ren := {
  mixed := by kernel_rfl
  f7 := ⟨Tryz.f53.name, by decide, Tryz.func53.trans (congrArg some (by kernel_rfl))⟩
  f10 := ⟨Tryz.f87.name, by decide, Tryz.func87.trans (congrArg some (by kernel_rfl))⟩
  t0 := Tryz.underlying0
  a0 := Tryz.isAgg0
  z0 := Tryz.sizeOf0
  v0 := Tryz.zeroValue0
  t4 := Tryz.underlying4
  a4 := Tryz.isAgg4
  z4 := Tryz.sizeOf4
  v4 := Tryz.zeroValue4
  t23 := Tryz.underlying84
  a23 := Tryz.isAgg84
  z23 := Tryz.sizeOf84
  v23 := Tryz.zeroValue84
  t26 := Tryz.underlying9
  a26 := Tryz.isAgg9
  z26 := Tryz.sizeOf9
  v26 := Tryz.zeroValue9
  t27 := Tryz.underlying121
  a27 := Tryz.isAgg121
  z27 := Tryz.sizeOf121
  v27 := Tryz.zeroValue121
  t28 := Tryz.underlying122
  a28 := Tryz.isAgg122
  z28 := Tryz.sizeOf122
  v28 := Tryz.zeroValue122
  t33 := Tryz.underlying80
  a33 := Tryz.isAgg80
  z33 := Tryz.sizeOf80
  v33 := Tryz.zeroValue80 }
def Tryz.sortedS_ren : Go.Shelf.Ren := ⟨fun | 6 => 52 | 8 => 85 | 9 => 86 | 11 => 123 | 13 => 125 | 12 => 124 | 23 => 158 | 24 => 159 | 14 => 149 | 15 => 150 | 16 => 151 | 17 => 152 | 18 => 153 | 19 => 154 | 20 => 155 | 21 => 156 | 22 => 157 | 25 => 182 | 26 => 183 | 27 => 184 | 28 => 185 | 29 => 186 | 30 => 187 | 31 => 195 | n => n, fun | 26 => 9 | 28 => 122 | 24 => 43 | 0 => 0 | 3 => 3 | 37 => 196 | 48 => 232 | 50 => 69 | 4 => 4 | 40 => 224 | 39 => 223 | 45 => 229 | 5 => 5 | 9 => 9 | 51 => 247 | 55 => 251 | 57 => 258 | 58 => 259 | 33 => 80 | n => n, fun | n => n⟩
theorem Tryz.sortedS : Go.Proofs.SlLaysZ.n6 Tryz.prog Tryz.sortedS_ren := {
  mixed := by kernel_rfl
  f6 := ⟨Tryz.f52.name, by decide, Tryz.func52.trans (congrArg some (by kernel_rfl))⟩
  f8 := ⟨Tryz.f85.name, by decide, Tryz.func85.trans (congrArg some (by kernel_rfl))⟩
  f11 := ⟨Tryz.f123.name, by decide, Tryz.func123.trans (congrArg some (by kernel_rfl))⟩
  t0 := Tryz.underlying0
  a0 := Tryz.isAgg0
  z0 := Tryz.sizeOf0
  v0 := Tryz.zeroValue0
  t24 := Tryz.underlying43
  a24 := Tryz.isAgg43
  z24 := Tryz.sizeOf43
  v24 := Tryz.zeroValue43
  t26 := Tryz.underlying9
  a26 := Tryz.isAgg9
  z26 := Tryz.sizeOf9
  v26 := Tryz.zeroValue9
  t28 := Tryz.underlying122
  a28 := Tryz.isAgg122
  z28 := Tryz.sizeOf122
  v28 := Tryz.zeroValue122
  i26 := by kernel_rfl }
def Tryz.sortS_ren : Go.Shelf.Ren := ⟨fun | 6 => 86 | 8 => 125 | 9 => 124 | 19 => 158 | 20 => 159 | 21 => 149 | 22 => 150 | 23 => 151 | 24 => 152 | 25 => 153 | 26 => 154 | 27 => 155 | 28 => 156 | 29 => 157 | 36 => 182 | 31 => 183 | 32 => 184 | 37 => 185 | 38 => 186 | 39 => 187 | 41 => 195 | n => n, fun | 27 => 43 | 29 => 9 | 3 => 3 | 32 => 196 | 26 => 43 | 0 => 0 | 44 => 232 | 46 => 69 | 4 => 4 | 36 => 224 | 35 => 223 | 41 => 229 | 5 => 5 | 9 => 9 | 53 => 247 | 57 => 251 | 63 => 258 | 64 => 259 | n => n, fun | n => n⟩
theorem Tryz.sortS : Go.Proofs.SlLaysM.n6 Tryz.prog Tryz.sortS_ren := {
  mixed := by kernel_rfl
  f6 := ⟨Tryz.f86.name, by decide, Tryz.func86.trans (congrArg some (by kernel_rfl))⟩
  f8 := Tryz.func125.trans (congrArg some (by kernel_rfl))
  f9 := ⟨Tryz.f124.name, by decide, Tryz.func124.trans (congrArg some (by kernel_rfl))⟩
  f19 := Tryz.func158.trans (congrArg some (by kernel_rfl))
  f20 := Tryz.func159.trans (congrArg some (by kernel_rfl))
  f21 := ⟨Tryz.f149.name, by decide, Tryz.func149.trans (congrArg some (by kernel_rfl))⟩
  f22 := ⟨Tryz.f150.name, by decide, Tryz.func150.trans (congrArg some (by kernel_rfl))⟩
  f23 := ⟨Tryz.f151.name, by decide, Tryz.func151.trans (congrArg some (by kernel_rfl))⟩
  f24 := ⟨Tryz.f152.name, by decide, Tryz.func152.trans (congrArg some (by kernel_rfl))⟩
  f25 := ⟨Tryz.f153.name, by decide, Tryz.func153.trans (congrArg some (by kernel_rfl))⟩
  f26 := ⟨Tryz.f154.name, by decide, Tryz.func154.trans (congrArg some (by kernel_rfl))⟩
  f27 := ⟨Tryz.f155.name, by decide, Tryz.func155.trans (congrArg some (by kernel_rfl))⟩
  f28 := ⟨Tryz.f156.name, by decide, Tryz.func156.trans (congrArg some (by kernel_rfl))⟩
  f29 := ⟨Tryz.f157.name, by decide, Tryz.func157.trans (congrArg some (by kernel_rfl))⟩
  f31 := Tryz.func183.trans (congrArg some (by kernel_rfl))
  f32 := Tryz.func184.trans (congrArg some (by kernel_rfl))
  f36 := ⟨Tryz.f182.name, by decide, Tryz.func182.trans (congrArg some (by kernel_rfl))⟩
  f37 := ⟨Tryz.f185.name, by decide, Tryz.func185.trans (congrArg some (by kernel_rfl))⟩
  f38 := ⟨Tryz.f186.name, by decide, Tryz.func186.trans (congrArg some (by kernel_rfl))⟩
  f39 := ⟨Tryz.f187.name, by decide, Tryz.func187.trans (congrArg some (by kernel_rfl))⟩
  f41 := ⟨Tryz.f195.name, by decide, Tryz.func195.trans (congrArg some (by kernel_rfl))⟩
  t0 := Tryz.underlying0
  a0 := Tryz.isAgg0
  z0 := Tryz.sizeOf0
  v0 := Tryz.zeroValue0
  t3 := Tryz.underlying3
  a3 := Tryz.isAgg3
  z3 := Tryz.sizeOf3
  v3 := Tryz.zeroValue3
  t4 := Tryz.underlying4
  a4 := Tryz.isAgg4
  z4 := Tryz.sizeOf4
  v4 := Tryz.zeroValue4
  t5 := Tryz.underlying5
  a5 := Tryz.isAgg5
  z5 := Tryz.sizeOf5
  v5 := Tryz.zeroValue5
  t9 := Tryz.underlying9
  a9 := Tryz.isAgg9
  z9 := Tryz.sizeOf9
  v9 := Tryz.zeroValue9
  t26 := Tryz.underlying43
  a26 := Tryz.isAgg43
  z26 := Tryz.sizeOf43
  v26 := Tryz.zeroValue43
  t27 := Tryz.underlying43
  a27 := Tryz.isAgg43
  z27 := Tryz.sizeOf43
  v27 := Tryz.zeroValue43
  t29 := Tryz.underlying9
  a29 := Tryz.isAgg9
  z29 := Tryz.sizeOf9
  v29 := Tryz.zeroValue9
  t32 := Tryz.underlying196
  a32 := Tryz.isAgg196
  z32 := Tryz.sizeOf196
  v32 := Tryz.zeroValue196
  t35 := Tryz.underlying223
  a35 := Tryz.isAgg223
  z35 := Tryz.sizeOf223
  v35 := Tryz.zeroValue223
  t36 := Tryz.underlying224
  a36 := Tryz.isAgg224
  z36 := Tryz.sizeOf224
  v36 := Tryz.zeroValue224
  t41 := Tryz.underlying229
  a41 := Tryz.isAgg229
  z41 := Tryz.sizeOf229
  v41 := Tryz.zeroValue229
  t44 := Tryz.underlying232
  a44 := Tryz.isAgg232
  z44 := Tryz.sizeOf232
  v44 := Tryz.zeroValue232
  t46 := Tryz.underlying69
  a46 := Tryz.isAgg69
  z46 := Tryz.sizeOf69
  v46 := Tryz.zeroValue69
  t53 := Tryz.underlying247
  a53 := Tryz.isAgg247
  z53 := Tryz.sizeOf247
  v53 := Tryz.zeroValue247
  t57 := Tryz.underlying251
  a57 := Tryz.isAgg251
  z57 := Tryz.sizeOf251
  v57 := Tryz.zeroValue251
  t63 := Tryz.underlying258
  a63 := Tryz.isAgg258
  z63 := Tryz.sizeOf258
  v63 := Tryz.zeroValue258
  t64 := Tryz.underlying259
  a64 := Tryz.isAgg259
  z64 := Tryz.sizeOf259
  v64 := Tryz.zeroValue259 }
end Go.Proofs

namespace Go.Proofs.YtaegencmnmjgbaaGreat
open Go.RowKit
set_option linter.unusedVariables false
set_option linter.unusedSimpArgs false
attribute [local go_sem] Oper.semAt_some
theorem RdI.at {w : World} {B n cap : Nat} {A : Option Addr} {l : List Int} (h : RdI w B A n cap l) {i : Nat} {x : Int} (hi : l[i]? = some x) : i < n ∧ I64 x ∧ ∃ b off, A = some ⟨b, off, none⟩ ∧ ∀ w', Below B w w' → w'.cell? ⟨b, off + i, none⟩ = some (.int .i64 x) := by
  have hl : i < l.length := (List.getElem?_eq_some_iff.1 hi).1
  rw [List.getElem?_eq_getElem hl] at hi
  cases hi
  obtain ⟨b, off, e, hlt, hc⟩ := h.2.2.2.2 (by have := h.1; omega)
  exact ⟨by have := h.1; omega, h.2.2.2.1 _ (List.getElem_mem hl), b, off, e, fun w' hb => (hb.cell (p := ⟨b, off + i, none⟩) hlt).trans (hc i hl)⟩
theorem values_any (w : World) (A : Option Addr) (n c : Nat) :
    Calls Tryz.prog 199 #[.slice A n c] w fun e w' => e = .returned (.func (.func 204) #[] #[.pointer (some ⟨w.heap.size, 0, none⟩)]) ∧ w' = w.alloc (.cells #[.slice A n c] 52) := by
  go_enter Tryz.func199, Tryz.ntmps199
  go_wp2_with fail
  go_ret
  exact ⟨rfl, rfl⟩
set_option maxRecDepth 100000 in
set_option maxHeartbeats 4000000 in
theorem values_iter {w : World} {n₀ Bs n c : Nat} {A : Option Addr} {l : List Int} (hb : w.heap[Bs]? = some (.cells #[.slice A n c] 52 (0, 0))) (h : RdI w n₀ A n c l) (hn0 : n₀ ≤ w.heap.size) :
    Iter Tryz.prog 204 #[.pointer (some ⟨Bs, 0, none⟩)] (fun x : Int => #[.int .i64 x]) l (fun W W' => Below n₀ W W') w := by
  intro lo J Jx W hW hJ hJx hY h0
  have gB := (hW.block _ (row_lt hb)).trans hb
  have hBs : W.cell? ⟨Bs, 0, none⟩ = some (.slice A n c) := by rw [row_cell gB]; rfl
  have hr := h.below (hW.mono hn0)
  have HL := hid h.1
  have hnm : (n : Int) ≤ 9223372036854775807 := by have := Nat.le_trans h.2.1 h.2.2.1; unfold maxLen at this; omega
  have HR := hid hr
  have HJ0 := hid h0
  clear h hr hb gB hn0 h0
  refine (callsIn_wide (n := 5)).1 (callsIn_of_wp Tryz.func204 rfl trivial ?_ rfl)
  simp only [Tryz.ntmps204, List.size_toArray, List.length_cons, List.length_nil, Nat.reduceAdd, Nat.reduceSub, Array.replicate_succ, Array.replicate_zero, List.push_toArray, List.append_toArray, List.nil_append, List.cons_append]
  gi_wp2_with (fail)
  gi_loopw [7] (fun i wr => ∃ (k : Nat), k ≤ n ∧ i = .int .i64 k ∧ Hid (J k wr) ∧ Hid (Below n₀ W wr)) (fun i _ => n - (intOf i).toNat)
  case atStart => exact ⟨0, Nat.zero_le _, rfl, HJ0, hid (Below.refl _ _)⟩
  case round =>
    obtain ⟨k, hk, rfl, HJS, HB⟩ := hrel
    by_cases hlt : k < n
    · obtain ⟨x, hx⟩ : ∃ x, l[k]? = some x := ⟨_, List.getElem?_eq_getElem (by have := HL.out; omega)⟩
      obtain ⟨_, hx64, b, off, rfl, hc⟩ := HR.out.at hx
      have c0 := hc wr HB.out
      have hji : (k : Int) < n := by omega
      have hj0 : (0 : Int) ≤ k := by omega
      obtain ⟨fn, tmps, assign, body, hy, hR⟩ := hY k x wr hx HJS.out
      have hR' : RoundIn Fence.wide 4 Tryz.prog lo fn tmps assign body _ _ := ⟨hR.1, fun c cs _ => hR.2 c cs (room_wide _)⟩
      have HX := hid hx
      clear hc hx
      gi_wp2_with (fail)
      refine hR'.mono ?_
      rintro e W3 ⟨_, (⟨rfl, hJ3, hk3⟩ | ⟨rfl, hJx3⟩)⟩
      · have HJ3 := hid hJ3
        have HB3 := hid (HB.out.trans hk3)
        clear hk3 hJ3
        gi_wp2_with (fail)
        go_roundw
        case rel => exact ⟨k + 1, by omega, by simp, HJ3, HB3⟩
        case measure => simp [intOf]; omega
      · have HJX := hid hJx3
        clear hJx3
        gi_wp2_with (fail)
        refine bodyPost_ret (results_none rfl _ _ _) rfl ?_
        exact ⟨⟨_, rfl⟩, .inr ⟨k, by have := HL.out; omega, HJX.out⟩⟩
    · obtain rfl : k = n := by omega
      gi_wp2_with (fail)
      go_end0
      exact ⟨⟨_, rfl⟩, .inl (by rw [HL.out]; exact HJS.out)⟩
structure SeqSt (w W : World) (B : Nat) (l : List Int) (k : Nat) (v : Value) : Prop where
  cl : W.heap[w.heap.size]? = some (.cells #[v] 52 (0, 0))
  ow : OwI W B v (l.take k)
  bl : Below w.heap.size w W
  az : B ≤ W.heap.size
theorem SeqSt.keep {w W W' : World} {B k : Nat} {l : List Int} {v : Value} {row : Option Nat} (h : SeqSt w W B l k v) (hg : W.grownBy W' row) (hr : ∀ r, row = some r → w.heap.size ≤ r ∧ ∃ o : Obj, W.heap[r]? = some o ∧ o.isCells = false) : SeqSt w W' B l k v :=
  ⟨cells_keep h.cl hg (fun r e => (hr r e).2), h.ow.keep hg (fun r e => (hr r e).2), h.bl.grown hg (h.bl.size) (fun r e => (hr r e).1), Nat.le_trans h.az hg.size⟩
set_option maxRecDepth 100000 in
set_option maxHeartbeats 8000000 in
theorem appseq_any {w : World} {Bs n c : Nat} {A : Option Addr} {l : List Int} (hb : w.heap[Bs]? = some (.cells #[.slice A n c] 52 (0, 0))) (h : RdI w w.heap.size A n c l) (hn : n ≤ 1000000) :
    Calls Tryz.prog 205 #[.slice none 0 0, .func (.func 204) #[] #[.pointer (some ⟨Bs, 0, none⟩)]] w fun e w' => ∃ v, e = .returned v ∧ OwI w' w.heap.size v l ∧ Below w.heap.size w w' := by
  have HL := hid h.1
  obtain ⟨w2, hw2⟩ : ∃ w2, w2 = w.alloc (.cells #[.slice none 0 0] 52) := ⟨_, rfl⟩
  have hs2 : w2.heap.size = w.heap.size + 1 := by rw [hw2]; simp
  have hb2 : Below w.heap.size w w2 := by rw [hw2]; exact B1 w _
  have y0 : w2.heap[w.heap.size]? = some (.cells #[.slice none 0 0] 52 (0, 0)) := by rw [hw2]; exact heap_alloc_new w _
  have hit := (values_iter hb h (Nat.le_refl _)).later hb2
  have hL0 : SeqSt w w2 w2.heap.size l 0 (.slice none 0 0) := ⟨y0, OwI.nil _ _, hb2, Nat.le_refl _⟩
  have HS2 := hid hs2; have HW2 := hid hw2
  have HX : Hid (∀ x ∈ l, I64 x) := hid h.2.2.2.1
  have HN := hid hn
  clear h hb y0 hb2 hs2 hw2 hn
  refine (callsIn_wide (n := 5)).1 (callsIn_of_wp_marks Tryz.func205 rfl trivial ?_ rfl)
  simp only [Tryz.ntmps205, List.size_toArray, List.length_cons, List.length_nil, Nat.reduceAdd, Nat.reduceSub, Array.replicate_succ, Array.replicate_zero, List.push_toArray, List.append_toArray, List.nil_append, List.cons_append]
  gi_wp2_with (fail)
  rw [← HW2.out]
  obtain ⟨I, HI1⟩ : ∃ I : Nat → World → Prop, Hid (I = fun k W => ∃ v, SeqSt w W w2.heap.size l k v) := ⟨_, hid rfl⟩
  refine range_any (gf := 204) (lb := #[.pointer (some ⟨Bs, 0, none⟩)]) rfl (enters_of Tryz.func204 (by kernel_rfl) rfl)
    hit (fun h k => Below.trans h k) (fun W l o o' hl h hc => belowKb (m := w2.heap.size) (by have := HS2.out; omega) W l o o' hl h hc) (fun _ => rfl) I (fun _ _ _ => False)
    (by
      rw [HI1.out]
      rintro s A C row ⟨v, hs⟩ hg hr
      exact ⟨v, hs.keep hg (fun r e => ⟨by have := (hr r e).1; have := HS2.out; omega, (hr r e).2⟩)⟩)
    (fun c s A C row hs _ _ => hs)
    (by rw [HI1.out]; exact ⟨_, hL0⟩) ?_ ?_ ?_
  · rintro ll k x W1 hki hi1 hll hll2
    have HK := hid hki
    clear hki
    have hi1' := hi1
    rw [HI1.out] at hi1'
    obtain ⟨v1, hst1⟩ := hi1'
    gi_wp2_with (fail)
    refine ⟨kf_below (B0 _), Below.refl _ _, by rw [HI1.out]; exact ⟨_, hst1⟩, ?_⟩
    rintro W2 hg2 hi2
    rw [HI1.out] at hi2
    obtain ⟨v, hst⟩ := hi2
    have hlen : (l.take k).length ≤ 1000000 := by
      rw [List.length_take]; have := HL.out; have := HN.out; omega
    obtain ⟨v3, w3, hrun, hown, hgr⟩ := run_appI2 hst.ow x hlen hst.az 52
    obtain ⟨A3, n3, cc3, rfl⟩ := hown.shape
    have c0 : W2.cell? ⟨w.heap.size, 0, none⟩ = some v := by rw [row_cell hst.cl]; rfl
    have hb3 : Below W2.heap.size W2 (W2.alloc (.cells #[.int .i64 x] 3)) := B1 _ _
    have hrow : ∀ r, v.ownBlock = some r → w2.heap.size ≤ r ∧ ∃ cs, (W2.alloc (.cells #[.int .i64 x] 3)).heap[r]? = some (.cells cs 3 (0, 0)) := fun r e => by
      obtain ⟨h1, cs, h2⟩ := hst.ow.blk2 r e
      exact ⟨h1, cs, (hb3.block _ (row_lt h2)).trans h2⟩
    have hsz3 : W2.heap.size + 1 ≤ w3.heap.size := by have := hgr.size; simpa using this
    have hcl3 : w3.heap[w.heap.size]? = some (.cells #[v] 52 (0, 0)) := (hgr.block _ (by have := row_lt hst.cl; simp; omega) (fun e => by have := (hrow _ e.symm).1; have := HS2.out; omega)).trans ((hb3.block _ (row_lt hst.cl)).trans hst.cl)
    have hkf3 : KeepsFrom w2.heap.size W2 w3 := (kf_below hb3).trans (kf_grown hgr (fun r e => by obtain ⟨_, cs, hc⟩ := hrow r e; exact ⟨_, _, hc⟩))
    have hkp3 : Below w.heap.size W2 w3 := (hb3.mono hst.bl.size).trans ((Below.refl _ _).grown hgr (by have := hst.bl.size; simp; omega) (fun r e => by have := (hrow r e).1; have := HS2.out; omega))
    obtain ⟨w4, hw4⟩ : ∃ w4, w4 = w3.setCell ⟨w.heap.size, 0, none⟩ (.slice A3 n3 cc3) := ⟨_, rfl⟩
    have fz3 := row_frozen hcl3 0
    have cz3 : w3.cell? ⟨w.heap.size, 0, none⟩ = some v := by rw [row_cell hcl3]; rfl
    have hcl4 : w4.heap[w.heap.size]? = some (.cells #[.slice A3 n3 cc3] 52 (0, 0)) := by rw [hw4]; exact row_set hcl3 0 _
    have hkf4 : KeepsFrom w2.heap.size W2 w4 := by rw [hw4]; exact hkf3.trans (kf_set hcl3 0 _)
    have hkp4 : Below w.heap.size W2 w4 := by rw [hw4]; exact hkp3.setCell (p := ⟨w.heap.size, 0, none⟩) (Nat.le_refl _) _
    have how4 : OwI w4 w2.heap.size (.slice A3 n3 cc3) (l.take (k + 1)) := by
      rw [hw4, List.take_add_one, HK.out]; exact hown.set (by have := HS2.out; omega) 0 _
    have haz : w2.heap.size ≤ w4.heap.size := by rw [hw4, size_set]; have := hst.az; omega
    have HRUN := hid hrun; have HW4 := hid hw4
    have HCL4 := hid hcl4; have HKF4 := hid hkf4; have HKP4 := hid hkp4; have HOW4 := hid how4; have HAZ := hid haz
    have HBL : Hid (Below w.heap.size w w4) := hid (hst.bl.trans hkp4)
    clear hrun hown hgr hb3 hrow hcl3 hkf3 hkp3 hw4 hcl4 hkf4 hkp4 how4 hst hg2 hi1 hst1 hlen hL0 hit hsz3 haz
    gi_wp2_with (gi_at_builtin; refine wpListIn_app rfl _ _ rfl rfl rfl HRUN.out ?_)
    rw [← HW4.out]
    refine ⟨HKF4.out, HKP4.out, ?_⟩
    rw [HI1.out]
    exact ⟨_, ⟨HCL4.out, HOW4.out, HBL.out, HAZ.out⟩⟩
  · rintro D W1 hD hi1 hdf
    rw [HI1.out] at hi1
    obtain ⟨v, hst⟩ := hi1
    obtain ⟨A3, n3, cc3, rfl⟩ := hst.ow.shape
    have c0 : W1.cell? ⟨w.heap.size, 0, none⟩ = some (.slice A3 n3 cc3) := by rw [row_cell hst.cl]; rfl
    have HST := hid hst
    have HDF := hid hdf
    clear hst hdf hL0 hit
    gi_wp2_with (fail)
    refine ⟨by simp, .inl ⟨_, _, rfl, run_takeDeferred HDF.out, ?_⟩⟩
    refine ⟨_, results_tmp rfl _ _ _, _, rfl, ?_, below_put HST.out.bl (by have := HS2.out; omega) HDF.out rfl⟩
    have h2 := HST.out.ow
    rw [List.take_length] at h2
    exact (h2.keep (grownBy_putObj' _ D (.deferred none)) (fun r e => by cases e; exact ⟨_, HDF.out, rfl⟩)).less (by have := HS2.out; omega)
  · rintro D c k W1 hD hk hi1 hdf
    exact hi1.elim
end Go.Proofs.YtaegencmnmjgbaaGreat
