/-
  wal: the values that are ranged over: slices.Values of sets, slices.Chunk of bytes, and setsOf's.
  From what a law's arguments hold to what its walk is told: slices of sets, slices of these, slices of numbers.
-/
import Derived.Test.YteggkojlpgkhbaaGreatWalA
import Derived.Test.YteggkojlpgkhbaaGreatM1
import Derived.Deep.Slices
import Derived.Deep.Fields
import Derived.ChangeSame

namespace Go.Proofs.YteggkojlpgkhbaaGreat
open Go.RowKit Go.Maps Go.Shelf
set_option linter.unusedVariables false
attribute [local go_sem] Oper.semAt_some

/-- A slice of sets that reads as a list. -/
def RdS (w : World) (B : Nat) (A : Option Addr) (n cap : Nat) (l : List (Int × Int)) : Prop :=
  l.length = n ∧ n ≤ cap ∧ cap ≤ maxLen ∧ (∀ x ∈ l, I64 x.1 ∧ U64 x.2) ∧
    (0 < n → ∃ b off, A = some ⟨b, off, none⟩ ∧ b < B ∧ ∀ i (h : i < l.length), w.cell? ⟨b, off + i * 2, none⟩ = some (.int .i64 l[i].1) ∧ w.cell? ⟨b, off + i * 2 + 1, none⟩ = some (.int .u64 l[i].2))
theorem RdS.below {w w' : World} {B n cap : Nat} {A : Option Addr} {l : List (Int × Int)} (h : RdS w B A n cap l) (hb : Below B w w') : RdS w' B A n cap l :=
  ⟨h.1, h.2.1, h.2.2.1, h.2.2.2.1, fun hn => by
    obtain ⟨b, off, e, hlt, hc⟩ := h.2.2.2.2 hn
    exact ⟨b, off, e, hlt, fun i hi => ⟨(hb.cell (p := ⟨b, off + i * 2, none⟩) hlt).trans (hc i hi).1, (hb.cell (p := ⟨b, off + i * 2 + 1, none⟩) hlt).trans (hc i hi).2⟩⟩⟩
theorem RdS.more {w : World} {B B' n cap : Nat} {A : Option Addr} {l : List (Int × Int)} (h : RdS w B A n cap l) (hB : B ≤ B') : RdS w B' A n cap l :=
  ⟨h.1, h.2.1, h.2.2.1, h.2.2.2.1, fun hn => by
    obtain ⟨b, off, e, hlt, hc⟩ := h.2.2.2.2 hn
    exact ⟨b, off, e, by omega, hc⟩⟩
theorem RdS.on {w w' : World} {n cap : Nat} {A : Option Addr} {l : List (Int × Int)} (h : RdS w w.heap.size A n cap l) (hb : Below w.heap.size w w') : RdS w' w'.heap.size A n cap l := (h.below hb).more hb.size

set_option maxRecDepth 100000 in
set_option maxHeartbeats 2000000 in
theorem values_iter {w : World} {n₀ Bs n c : Nat} {A : Option Addr} {xs : List (Int × Int)} (hb : w.heap[Bs]? = some (.cells #[.slice A n c] 46 (0, 0))) (h : RdS w n₀ A n c xs) (hn0 : n₀ ≤ w.heap.size) :
    Iter Tryz.prog 65 #[.pointer (some ⟨Bs, 0, none⟩)] (fun x => #[setV x]) xs (Below n₀) w := by
  intro l J Jx W hW hJ hJx hY h0
  have hBs : W.cell? ⟨Bs, 0, none⟩ = some (.slice A n c) := by rw [row_cell ((hW.block _ (row_lt hb)).trans hb)]; rfl
  have hr := h.below (hW.mono hn0)
  have hl : xs.length = n := h.1
  have hmax : (n : Int) ≤ 9223372036854775807 := by have := h.2.1; have := h.2.2.1; unfold maxLen at *; omega
  have HR := hid hr
  have HL := hid hl
  clear h hr hb hl
  refine (callsIn_wide (n := 5)).1 (callsIn_of_wp Tryz.func65 rfl trivial ?_ rfl)
  simp only [Tryz.ntmps65, List.size_toArray, List.length_cons, List.length_nil, Nat.reduceAdd, Nat.reduceSub, Array.replicate_succ, Array.replicate_zero, List.push_toArray, List.append_toArray, List.nil_append, List.cons_append]
  gi_wp2
  gi_loopw [7] (fun i wr => ∃ k : Nat, k ≤ n ∧ i = .int .i64 k ∧ J k wr ∧ Below n₀ W wr) (fun i _ => n - (intOf i).toNat)
  case atStart => exact ⟨0, Nat.zero_le _, rfl, h0, Below.refl _ _⟩
  case round =>
    obtain ⟨k, hk, rfl, hJs, hnx⟩ := hrel
    by_cases hlt : k < n
    · have hkx : k < xs.length := by rw [HL.out]; exact hlt
      obtain ⟨x, hx⟩ : ∃ x, x = xs[k] := ⟨_, rfl⟩
      have hxk : xs[k]? = some x := by rw [hx]; exact List.getElem?_eq_getElem hkx
      obtain ⟨b, off, rfl, hblt, hc⟩ := (HR.out.below hnx).2.2.2.2 (by omega)
      obtain ⟨hc1, hc2⟩ := hc k hkx
      rw [← hx] at hc1 hc2
      clear hc hx
      obtain ⟨fn, tmps, assign, body, hy, hR⟩ := hY k x (wr.alloc (.cells #[.int .i64 x.1, .int .u64 x.2] 66)) hxk (hJ.alloc _ hJs)
      have hR' : RoundIn Fence.wide 4 Tryz.prog l fn tmps assign body _ _ := ⟨hR.1, fun c cs _ => hR.2 c cs (room_wide _)⟩
      unfold setV at hy
      have HLT := hid hlt
      gi_wp2
      refine hR'.mono ?_
      rintro e W3 ⟨_, (⟨rfl, hJ3, hk3⟩ | ⟨rfl, hJx3⟩)⟩
      · gi_wp2
        go_roundw
        case rel => exact ⟨k + 1, by have := HLT.out; omega, by simp, hJ3, (hnx.alloc (by have := hnx.size; have := hW.size; omega) _).trans hk3⟩
        case measure => have := HLT.out; simp [intOf]; omega
      · gi_wp2
        refine bodyPost_ret (results_none rfl _ _ _) rfl ?_
        exact ⟨⟨_, rfl⟩, .inr ⟨k, hkx, hJx3⟩⟩
    · obtain rfl : k = n := by omega
      gi_wp2
      go_end0
      exact ⟨⟨_, rfl⟩, .inl (by rw [HL.out]; exact hJs)⟩

theorem grown_drew (w : World) (r : Option Nat) : w.grownBy w.drew r := ⟨rfl, rfl, rfl, Nat.le_refl _, fun _ _ _ => rfl⟩
/-- All cells lie as they lay, but those of steps, of slices of steps, and of truth values. -/
def KeepC (w w' : World) : Prop := w.heap.size ≤ w'.heap.size ∧
  ∀ (k : Nat) (cs : Array Value) (t : TypeId), w.heap[k]? = some (.cells cs t (0, 0)) → t ≠ 1 → t ≠ 43 → t ≠ 4 → w'.heap[k]? = some (.cells cs t (0, 0))
theorem KeepC.refl (w : World) : KeepC w w := ⟨Nat.le_refl _, fun _ _ _ h _ _ _ => h⟩
theorem KeepC.trans {a b c : World} (h : KeepC a b) (k : KeepC b c) : KeepC a c := ⟨Nat.le_trans h.1 k.1, fun i cs t hi h1 h2 h3 => k.2 i cs t (h.2 i cs t hi h1 h2 h3) h1 h2 h3⟩
theorem KeepC.put (W : World) (l : Nat) (o o' : Obj) (h : W.heap[l]? = some o) (hc : o.isCells = false) : KeepC W (W.putObj l o') :=
  ⟨(grownBy_putObj' W l o').size, fun k cs t hk _ _ _ => ((grownBy_putObj' W l o').block k (row_lt hk) (fun e => by
    cases e; rw [hk] at h; cases h; cases hc)).trans hk⟩
theorem KeepC.below {w w' : World} (h : Below w.heap.size w w') : KeepC w w' := ⟨h.size, fun k cs t hk _ _ _ => (h.block k (row_lt hk)).trans hk⟩
theorem KeepC.drew (w : World) : KeepC w w.drew := ⟨Nat.le_refl _, fun _ _ _ h _ _ _ => h⟩

set_option maxRecDepth 100000 in
set_option maxHeartbeats 4000000 in
theorem chunk_iter {w : World} {b1 b2 b off n c m q : Nat} (h1 : w.heap[b1]? = some (.cells #[.slice (some ⟨b, off, none⟩) n c] 22 (0, 0))) (h2 : w.heap[b2]? = some (.cells #[.int .i64 m] 3 (0, 0)))
    (hn : n = q * m) (hm : 1 ≤ m) (hc : n ≤ c) (hmax : n ≤ 1000000) :
    Iter Tryz.prog 84 #[.pointer (some ⟨b1, 0, none⟩), .pointer (some ⟨b2, 0, none⟩)] (fun i : Nat => #[.slice (some ⟨b, off + i * m, none⟩) m m]) (List.range q) KeepC w := by
  intro l J Jx W hW hJ hJx hY h0
  have g1 := (hW.block _ (row_lt h1)).trans h1
  have g2 := (hW.block _ (row_lt h2)).trans h2
  have HN := hid hn
  have G1 := hid g1; have G2 := hid g2
  clear h1 h2 hn g1 g2
  have hmix : Tryz.prog.follows .mixedOrders = true := by kernel_rfl
  refine (callsIn_wide (n := 5)).1 (callsIn_of_wp Tryz.func84 rfl trivial ?_ rfl)
  simp only [Tryz.ntmps84, List.size_toArray, List.length_cons, List.length_nil, Nat.reduceAdd, Nat.reduceSub, Array.replicate_succ, Array.replicate_zero, List.push_toArray, List.append_toArray, List.nil_append, List.cons_append]
  gi_wp2
  gi_loopw [4] (fun i wr => ∃ k t : Nat, k ≤ q ∧ Hid (t = k * m) ∧ i = .int .i64 t ∧ J k wr ∧ KeepC W wr) (fun i _ => n - (intOf i).toNat)
  case atStart => exact ⟨0, 0, Nat.zero_le _, hid (by simp), rfl, h0, KeepC.refl _⟩
  case round =>
    obtain ⟨k, t, hk, HT, rfl, hJs, hkc⟩ := hrel
    have c1 : wr.cell? ⟨b1, 0, none⟩ = some (.slice (some ⟨b, off, none⟩) n c) := by rw [row_cell (hkc.2 _ _ _ G1.out (by decide) (by decide) (by decide))]; rfl
    have c2 : wr.cell? ⟨b2, 0, none⟩ = some (.int .i64 m) := by rw [row_cell (hkc.2 _ _ _ G2.out (by decide) (by decide) (by decide))]; rfl
    by_cases hlt : k < q
    · have htn : t + m ≤ n := by rw [HT.out, HN.out, ← Nat.succ_mul]; exact Nat.mul_le_mul_right _ hlt
      have htlt : t < n := by omega
      obtain ⟨fn, tmps, assign, body, hy, hR⟩ := hY k k wr.drew (by simp [hlt]) (hJ k wr _ none hJs (grown_drew wr none) (fun r e => by cases e))
      rw [← HT.out] at hy
      have hR' : RoundIn Fence.wide 4 Tryz.prog l fn tmps assign body _ _ := ⟨hR.1, fun c cs _ => hR.2 c cs (room_wide _)⟩
      have e1 : (if c = t then some (⟨b, off, none⟩ : Addr) else some ⟨b, off + t, none⟩) = some ⟨b, off + t, none⟩ := if_neg (by omega)
      have hct : ¬ c = t := by omega
      have hct' : t ≤ c := by omega
      have hmn : (m : Int) ≤ n - t := by omega
      gi_wp2
      refine wpIn_wide.2 ?_
      go_region
      rw [show min (m : Int) ((n - t : Nat) : Int) = m by omega]
      have d1 : wr.drew.cell? ⟨b1, 0, none⟩ = some (.slice (some ⟨b, off, none⟩) n c) := c1
      have hta : t + m ≤ c := by omega
      have hmt : (t : Int) + m ≤ 9223372036854775807 := by omega
      have e2 : (t + m) - t = m := by omega
      gi_wp2
      refine hR'.mono ?_
      rintro e W3 ⟨_, (⟨rfl, hJ3, hk3⟩ | ⟨rfl, hJx3⟩)⟩
      · have d2 : W3.cell? ⟨b2, 0, none⟩ = some (.int .i64 m) := by rw [row_cell (hk3.2 _ _ _ (show wr.drew.heap[b2]? = _ from hkc.2 _ _ _ G2.out (by decide) (by decide) (by decide)) (by decide) (by decide) (by decide))]; rfl
        gi_wp2
        go_roundw
        case rel => exact ⟨k + 1, t + m, hlt, hid (by rw [HT.out, Nat.succ_mul]), by simp, hJ3, hkc.trans ((KeepC.drew wr).trans hk3)⟩
        case measure => simp [intOf]; omega
      · gi_wp2
        refine bodyPost_ret (results_none rfl _ _ _) rfl ?_
        exact ⟨⟨_, rfl⟩, .inr ⟨k, by simpa using hlt, hJx3⟩⟩
    · obtain rfl : k = q := by omega
      have htn : t = n := by rw [HT.out, HN.out]
      subst htn
      gi_wp2
      go_end0
      exact ⟨⟨_, rfl⟩, .inl (by rw [List.length_range]; exact hJs)⟩

/-- The sets of a record's bytes behind the head. -/
def setAt (l : List UInt8) (i : Nat) : Int × Int := (wrap64 (num ((l.drop (i * 16)).take 8)), num ((l.drop (i * 16 + 8)).take 8))
def setsL (l : List UInt8) : List (Int × Int) := (List.range (l.length / 16)).map (setAt l)
theorem setsL_length (l : List UInt8) : (setsL l).length = l.length / 16 := by simp [setsL]

theorem ownFrom_mono {β : Type} {B B' : Nat} {I : β → World → Prop} (h : OwnFrom B I) (hB : B ≤ B') : OwnFrom B' I := fun s W W' row hs hg hr => h s W W' row hs hg (fun r e => ⟨Nat.le_trans hB (hr r e).1, (hr r e).2⟩)
theorem ownFrom_keepC {β : Type} (B : Nat) (w0 : World) : OwnFrom B (fun (_ : β) W => KeepC w0 W) := fun s W W' row hs hg hr => hs.trans ⟨hg.size, fun k cs t hk _ _ _ => (hg.block k (row_lt hk) (fun e => by
  obtain ⟨_, o, ho, hc⟩ := hr k e.symm
  rw [hk] at ho; cases ho; cases hc)).trans hk⟩

set_option maxRecDepth 100000 in
set_option maxHeartbeats 4000000 in
theorem sets_iter {w : World} {b1 q off c m : Nat} {l : List UInt8} {cs : Array Value} (h1 : w.heap[b1]? = some (.cells #[.slice (some ⟨q, off, none⟩) l.length c] 22 (0, 0))) (hl : l.length = m * 16) (hm : 1 ≤ m) (hc : l.length ≤ c) (hcm : c ≤ maxLen) (hmax : l.length ≤ 1000000)
    (hq : w.heap[q]? = some (.cells cs 5 (0, 0))) (hcs : ∀ i (h : i < l.length), cs[off + i]? = some (bv l[i])) :
    Iter Tryz.prog 77 #[.pointer (some ⟨b1, 0, none⟩)] (fun x => #[setV x]) (setsL l) KeepC w := by
  intro lo J Jx W hW hJ hJx hY h0
  have g1 := (hW.block _ (row_lt h1)).trans h1
  have gq := (hW.block _ (row_lt hq)).trans hq
  have c1 : W.cell? ⟨b1, 0, none⟩ = some (.slice (some ⟨q, off, none⟩) l.length c) := by rw [row_cell g1]; rfl
  have b1lt : b1 < W.heap.size := row_lt g1
  have c1' : (W.alloc (.cells #[.func (.yield lo) #[] #[]] 126)).cell? ⟨b1, 0, none⟩ = some (.slice (some ⟨q, off, none⟩) l.length c) := ((B1 W _).cell (p := ⟨b1, 0, none⟩) b1lt).trans c1
  have HL := hid hl; have GQ := hid gq; have HCS := hid hcs
  clear h1 hq g1 gq hcs hl c1
  obtain ⟨n, hn⟩ : ∃ n, n = l.length := ⟨_, rfl⟩
  rw [← hn] at c1' hc hmax HL
  have HN := hid hn
  clear hn
  refine (callsIn_wide (n := 5)).1 (callsIn_of_wp_marks Tryz.func77 rfl trivial ?_ rfl)
  simp only [Tryz.ntmps77, List.size_toArray, List.length_cons, List.length_nil, Nat.reduceAdd, Nat.reduceSub, Array.replicate_succ, Array.replicate_zero, List.push_toArray, List.append_toArray, List.nil_append, List.cons_append]
  gi_wp2_with (refine ⟨trivial, ?_⟩; gi_at_call 69; refine (callsIn_wide.2 (chunk_make _ _ _ _ (by omega))).mono ?_; rintro e w1 ⟨rfl, rfl⟩)
  obtain ⟨W0, hW0⟩ : ∃ W0, W0 = ((W.alloc (.cells #[.func (.yield lo) #[] #[]] 126)).alloc (.cells #[.slice (some ⟨q, off, none⟩) n c] 22)).alloc (.cells #[.int .i64 16] 3) := ⟨_, rfl⟩
  have hs0 : W0.heap.size = W.heap.size + 3 := by rw [hW0]; simp
  have hB0 : Below W.heap.size W W0 := by rw [hW0]; exact Ba (Ba (B1 W _) _) _
  have y0 : W0.heap[W.heap.size]? = some (.cells #[.func (.yield lo) #[] #[]] 126 (0, 0)) := by
    rw [hW0]; exact (Below.heap_alloc _ _ _ (by simp; omega)).trans ((Below.heap_alloc _ _ _ (by simp)).trans (heap_alloc_new W _))
  have y1 : W0.heap[W.heap.size + 1]? = some (.cells #[.slice (some ⟨q, off, none⟩) n c] 22 (0, 0)) := by
    rw [hW0]; refine (Below.heap_alloc _ _ _ (by simp)).trans ?_
    have := heap_alloc_new (W.alloc (.cells #[.func (.yield lo) #[] #[]] 126)) (.cells #[.slice (some ⟨q, off, none⟩) n c] 22)
    simpa using this
  have y2 : W0.heap[W.heap.size + 1 + 1]? = some (.cells #[.int .i64 (16 : Nat)] 3 (0, 0)) := by
    rw [hW0]
    have := heap_alloc_new ((W.alloc (.cells #[.func (.yield lo) #[] #[]] 126)).alloc (.cells #[.slice (some ⟨q, off, none⟩) n c] 22)) (.cells #[.int .i64 16] 3)
    simpa using this
  have hj0 : J 0 W0 := by rw [hW0]; exact hJ.alloc _ (hJ.alloc _ (hJ.alloc _ h0))
  rw [← hW0]
  clear hW0 c1'
  have hnm : (setsL l).length = m := by rw [setsL_length, ← HN.out, HL.out]; omega
  have GQ0 : Hid (W0.heap[q]? = some (.cells cs 5 (0, 0))) := (hB0.block _ (row_lt GQ.out)).trans GQ.out
  have hit := chunk_iter (w := W0) y1 y2 HL.out (by omega) hc hmax
  refine range_any (gf := 84) (lb := #[.pointer (some ⟨W.heap.size + 1, 0, none⟩), .pointer (some ⟨W.heap.size + 1 + 1, 0, none⟩)]) rfl (enters_of Tryz.func84 (by kernel_rfl) rfl)
    hit (fun h k => KeepC.trans h k) (fun W l o o' _ h hc => KeepC.put W l o o' h hc) (fun _ => rfl)
    (fun k W' => J k W' ∧ KeepC W0 W') (fun c k W' => c = .ret ∧ Jx k W')
    (OwnFrom.and (ownFrom_mono hJ (by omega)) (ownFrom_keepC _ _)) (fun c s A B row hs hg hr => ⟨hs.1, hJx s A B row hs.2 hg (fun r e => ⟨by have := (hr r e).1; omega, (hr r e).2⟩)⟩)
    ⟨hj0, KeepC.refl _⟩ ?_ ?_ ?_
  · rintro ll k i W1 hki ⟨hj1, hk1⟩ hll hll2
    gi_wp2
    refine ⟨KeepsFrom.refl _ _, KeepC.refl _, ⟨hj1, hk1⟩, ?_⟩
    rintro W2 hg2 ⟨hj2, hk2⟩
    have hi : i = k ∧ k < m := by
      have := hki
      rw [List.getElem?_eq_some_iff] at this
      obtain ⟨h1, h2⟩ := this
      simp at h1 h2; omega
    obtain ⟨rfl, him⟩ := hi
    have hq2 := hk2.2 _ _ _ GQ0.out (by decide) (by decide) (by decide)
    have hy2 := hk2.2 _ _ _ y0 (by decide) (by decide) (by decide)
    have hlen : i * 16 + 16 ≤ l.length := by rw [← HN.out, HL.out]; omega
    have hrd : Rd W2 W2.heap.size (some ⟨q, off + i * 16, none⟩) 16 16 ((l.drop (i * 16)).take 16) := by
      refine ⟨by simp; omega, Nat.le_refl _, by unfold maxLen; omega, (fun h => by cases h), fun _ => ⟨q, off + i * 16, rfl, row_lt hq2, fun j hj => ?_⟩⟩
      simp at hj
      have := HCS.out (i * 16 + j) (by omega)
      rw [row_cell hq2, Nat.add_assoc, this]
      simp
    have hgt1 := get_true _ 16 16 _ 0 8 W2 hrd (by decide) (by omega) (by omega)
    have HG1 := hid hgt1
    have hY1 : Hid (∀ W3, Below W2.heap.size W2 W3 → J i W3 ∧ W3.cell? ⟨W.heap.size, 0, none⟩ = some (.func (.yield lo) #[] #[]) ∧ Rd W3 W3.heap.size (some ⟨q, off + i * 16, none⟩) 16 16 ((l.drop (i * 16)).take 16)) := by
      intro W3 hb3
      refine ⟨hJ i W2 W3 none hj2 ?_ (fun r e => by cases e), ?_, hrd.on hb3⟩
      · exact ⟨hb3.os, hb3.tape, hb3.output, hb3.size, fun k hk _ => hb3.block k hk⟩
      · rw [row_cell ((hb3.block _ (row_lt hy2)).trans hy2)]; rfl
    have HX : Hid (i < (setsL l).length) := show _ < _ by rw [hnm]; exact him
    have e1 : num (List.take 8 (List.drop 0 (List.take 16 (List.drop (i * 16) l)))) = num ((l.drop (i * 16)).take 8) := by
      rw [List.drop_zero, List.take_take]; rfl
    have e2 : num (List.take 8 (List.drop 8 (List.take 16 (List.drop (i * 16) l)))) = num ((l.drop (i * 16 + 8)).take 8) := by
      rw [List.drop_take, List.drop_drop, List.take_take]; rfl
    rw [e1] at HG1
    have E2 := hid e2
    clear hrd hgt1 hq2 hy2 hlen e1 e2 hki
    gi_wp2_with (fail)
    refine ⟨trivial, calls_in (HG1.out.mono ?_)⟩
    rintro e W3 ⟨rfl, hb3⟩
    obtain ⟨-, -, hr3⟩ := hY1.out W3 hb3
    have HR3 := hid hr3; clear hr3
    gi_wp2_with (fail)
    refine ⟨trivial, calls_in ((get_true _ 16 16 _ 8 8 W3 HR3.out (by decide) (by omega) (by omega)).mono ?_)⟩
    rintro e W4 ⟨rfl, hb4⟩
    rw [E2.out]
    obtain ⟨hj4, hc4, -⟩ := hY1.out W4 (Bt hb3 hb4)
    obtain ⟨fn, tmps, assign, body, hy, hR⟩ := hY i (setAt l i) W4 (by have := HX.out; rw [setsL_length] at this; simp [setsL, this]) hj4
    have hR' : RoundIn (Fence.wide.inRound ll) 4 Tryz.prog lo fn tmps assign body _ _ := ⟨hR.1, fun c cs _ => hR.2 c cs (room_wide _)⟩
    unfold setV setAt at hy
    dsimp only at hy
    gi_wp2
    refine hR'.mono ?_
    rintro e W5 ⟨hkf5, (⟨rfl, hJ5, hk5⟩ | ⟨rfl, hJx5⟩)⟩
    · gi_wp2
      refine ⟨((kf_below hb3).trans (kf_below hb4)).trans (kf_mono hkf5 (by omega)), ((KeepC.below hb3).trans (KeepC.below hb4)).trans hk5, hJ5, hk2.trans (((KeepC.below hb3).trans (KeepC.below hb4)).trans hk5)⟩
    · gi_wp2
      exact ⟨((kf_below hb3).trans (kf_below hb4)).trans (kf_mono hkf5 (by omega)), rfl, hJx5⟩
  · rintro D W1 hD ⟨hj1, hk1⟩ hdf
    gi_wp2
    refine ⟨by simp, .inl ⟨_, _, rfl, run_takeDeferred hdf, ?_⟩⟩
    refine ⟨_, results_none rfl _ _ _, ⟨_, rfl⟩, .inl ?_⟩
    rw [List.length_range] at hj1
    rw [hnm]
    exact hJ.putObj _ hj1 (by omega) hdf rfl
  · rintro D c k W1 hD hk ⟨rfl, hx1⟩ hdf
    gi_wp2
    refine ⟨by simp, .inl ⟨_, _, rfl, run_takeDeferred hdf, ?_⟩⟩
    refine ⟨_, results_none rfl _ _ _, ⟨_, rfl⟩, .inr ⟨k, ?_, hJx.putObj _ hx1 (by omega) hdf rfl⟩⟩
    rw [List.length_range] at hk
    rw [hnm]; exact hk
end Go.Proofs.YteggkojlpgkhbaaGreat

namespace Go.Proofs.YteggkojlpgkhbaaGreat
open Go.ChangeShapes Go.WideShapes Go.ChangeAt Go.RowKit Go.Deep
set_option linter.unusedVariables false

section
variable {H : Type} {enc : TypeId × Value → H} {W : World} {fuel : Nat} {x : DataW H × List MemPlace}

theorem rdIS_of_cells {a : Addr} {len cap : Nat} {zs : List Int} (hl : len ≤ cap) (hm : cap ≤ maxLen) (hz : zs.length = cap)
    (hcell : ∀ i, i < zs.length → W.cell? (a.add i) = some (.int .i64 (zs.getD i 0))) (hwz : ∀ n ∈ zs, (Lit.int .i64 n).wf = true) :
    RdI W W.heap.size (some a) len cap (zs.take len) := by
  refine ⟨by simp; omega, hl, hm, fun y hy => hwz y (List.mem_of_mem_take hy), fun hn => ?_⟩
  obtain ⟨b, off, spot⟩ := a
  have h0 := hcell 0 (by omega)
  have hspot : spot = none := by simpa [Addr.add] using World.cell?_spot h0
  subst hspot
  refine ⟨b, off, rfl, ?_, fun i hi => ?_⟩
  · rw [add_plain] at h0
    by_cases hb : b < W.heap.size
    · exact hb
    · simp [World.cell?, Array.getElem?_eq_none (show W.heap.size ≤ b by omega)] at h0
  · simp at hi
    have h1 := hcell i (by omega)
    rw [add_plain] at h1
    rw [h1]
    simp [List.getD_eq_getElem?_getD, show i < zs.length by omega]

theorem rdIS_of_trod {v : Value} (h : DataW.trod enc Tryz.prog W 0 (fun _ => true) true fuel 52 [v] = some x) : ∃ a len cap l, v = .slice a len cap ∧ RdI W W.heap.size a len cap l := by
  rcases open_ints Tryz.underlying52 Tryz.underlying3 (by kernel_rfl) h with ⟨hcs, _⟩ | ⟨a, l, c, zs, hcs, _, hl, hm, hz, _, hcell, hwz⟩
  · simp at hcs
    exact ⟨none, 0, 0, [], hcs, RdI.nil _ _⟩
  · simp at hcs
    exact ⟨some a, l, c, _, hcs, rdIS_of_cells hl hm (by simpa using hz) hcell hwz⟩

theorem s_one : Tryz.prog.cellsOf 3 = 1 := by kernel_rfl
theorem s_one64 : Tryz.prog.cellsOf 64 = 1 := by kernel_rfl
theorem s_two : Tryz.prog.cellsOf 84 = 2 := by kernel_rfl

set_option maxRecDepth 20000 in
theorem set_of_trod {cs : List Value} (h : DataW.trod enc Tryz.prog W 0 (fun _ => true) true fuel 84 cs = some x) :
    ∃ s : Int × Int, (I64 s.1 ∧ U64 s.2) ∧ cs = [.int .i64 s.1, .int .u64 s.2] := by
  obtain ⟨xs, n, _, _, hlen, hxl, hf⟩ := DataW.trod_struct Tryz.underlying84 h
  rw [s_two] at hlen
  match cs, hlen with
  | [c0, c1], _ =>
    match xs, hxl with
    | [y0, y1], _ =>
      have g0 : DataW.trod enc Tryz.prog W 0 (fun _ => true) true n 3 (List.take (Tryz.prog.cellsOf 3) (List.drop 0 [c0, c1])) = some y0 := hf 0 _ rfl
      rw [s_one] at g0
      change DataW.trod enc Tryz.prog W 0 (fun _ => true) true n 3 [c0] = some y0 at g0
      have g1 : DataW.trod enc Tryz.prog W 0 (fun _ => true) true n 64 (List.take (Tryz.prog.cellsOf 64) (List.drop 1 [c0, c1])) = some y1 := hf 1 _ rfl
      rw [s_one64] at g1
      change DataW.trod enc Tryz.prog W 0 (fun _ => true) true n 64 [c1] = some y1 at g1
      obtain ⟨a0, q0, _, w0⟩ := DataW.trod_int Tryz.underlying3 g0
      obtain ⟨a1, q1, _, w1⟩ := DataW.trod_int Tryz.underlying64 g1
      simp at q0 q1
      subst q0; subst q1
      exact ⟨(a0, a1), ⟨w0, U64.of_wf w1⟩, rfl⟩

set_option maxRecDepth 20000 in
theorem rdS_of_trod {v : Value} (h : DataW.trod enc Tryz.prog W 0 (fun _ => true) true fuel 28 [v] = some x) : ∃ a len cap l, v = .slice a len cap ∧ RdS W W.heap.size a len cap l := by
  rcases open_slice Tryz.underlying28 h with ⟨hcs, _⟩ | ⟨a, len, cap, m, n, D, Pl, hcs, _, hl, hm, hmm, _, hi⟩
  · simp at hcs
    exact ⟨none, 0, 0, [], hcs, rfl, by omega, by simp [maxLen], by simp, fun h => by omega⟩
  · simp at hcs
    have hmc : m = cap := by simpa using hmm
    rw [s_two] at hi
    have hch : ∀ i, i < len → ∃ o : Int × Int, (I64 o.1 ∧ U64 o.2) ∧ ∃ cs', W.cells? 0 (a.add (i * 2)) 2 = some cs' ∧ cs' = [.int .i64 o.1, .int .u64 o.2] := by
      intro i hil
      obtain ⟨cs', hc, ht⟩ := hi i (by omega)
      obtain ⟨o, ho, e⟩ := set_of_trod ht
      exact ⟨o, ho, cs', hc, e⟩
    have hex : ∃ f : Nat → Int × Int, ∀ i, i < len → (I64 (f i).1 ∧ U64 (f i).2) ∧ ∃ cs', W.cells? 0 (a.add (i * 2)) 2 = some cs' ∧ cs' = [.int .i64 (f i).1, .int .u64 (f i).2] := by
      refine ⟨fun i => if hi : i < len then (hch i hi).choose else (0, 0), fun i hi => ?_⟩
      simp only [hi, dif_pos]
      exact (hch i hi).choose_spec
    obtain ⟨f, hf⟩ := hex
    refine ⟨some a, len, cap, (List.range len).map f, hcs, by simp, hl, hm, ?_, fun hn => ?_⟩
    · intro o ho
      obtain ⟨i, hi, rfl⟩ := List.mem_map.1 ho
      exact (hf i (List.mem_range.1 hi)).1
    · obtain ⟨b, off, spot⟩ := a
      have hcell : ∀ i, i < len → ∀ j, j < 2 → W.cell? ((Addr.mk b off spot).add (i * 2 + j)) = [Value.int .i64 (f i).1, .int .u64 (f i).2][j]? := by
        intro i hi j hj
        obtain ⟨_, cs', hc, e⟩ := hf i hi
        obtain ⟨_, _, hat⟩ := World.cells?_some hc
        have := hat j hj
        rw [Go.Deep.add_add, e] at this
        exact this
      have h0 := hcell 0 hn 0 (by omega)
      have hspot : spot = none := by
        have := World.cell?_spot (v := .int .i64 (f 0).1) (by simpa using h0)
        simpa [Addr.add] using this
      subst hspot
      refine ⟨b, off, rfl, ?_, fun i hi => ?_⟩
      · simp only [add_plain] at h0
        by_cases hb : b < W.heap.size
        · exact hb
        · simp [World.cell?, Array.getElem?_eq_none (show W.heap.size ≤ b by omega)] at h0
      · simp at hi
        have c := fun j hj => hcell i hi j hj
        simp only [add_plain] at c
        have c0 := c 0 (by omega); have c1 := c 1 (by omega)
        simp only [List.getElem_map, List.getElem_range]
        refine ⟨by simpa using c0, ?_⟩
        rw [Nat.add_assoc]; simpa using c1

/-- .. and how long it is in the reading. -/
theorem len_of_trod {v : Value} (h : DataW.trod enc Tryz.prog W 0 (fun _ => true) true fuel 28 [v] = some x) : (∃ elems spare a len cap, x.1 = .slice elems spare ∧ v = .slice a len cap ∧ elems.length + spare.length = cap ∧ len ≤ cap) ∨ v = .slice none 0 0 := by
  rcases open_slice Tryz.underlying28 h with ⟨hcs, _⟩ | ⟨a, len, cap, m, n, D, Pl, hcs, _, hl, hm, hmm, hx, hi⟩
  · simp at hcs; exact .inr hcs
  · simp at hcs
    have hmc : m = cap := by simpa using hmm
    left
    refine ⟨_, _, some a, len, cap, by rw [hx], hcs, ?_, hl⟩
    simp; omega

/-- A slice of slices of sets. -/
structure SlS where
  a : Option Addr
  n : Nat
  c : Nat
  l : List (Int × Int)
def RdSS (w : World) (B : Nat) (A : Option Addr) (n cap : Nat) (l : List SlS) : Prop :=
  l.length = n ∧ n ≤ cap ∧ cap ≤ maxLen ∧ (∀ s ∈ l, RdS w B s.a s.n s.c s.l) ∧
    (0 < n → ∃ b off, A = some ⟨b, off, none⟩ ∧ b < B ∧ ∀ i (h : i < l.length), w.cell? ⟨b, off + i, none⟩ = some (.slice l[i].a l[i].n l[i].c))
theorem s_oneS : Tryz.prog.cellsOf 28 = 1 := by kernel_rfl
end
end Go.Proofs.YteggkojlpgkhbaaGreat
