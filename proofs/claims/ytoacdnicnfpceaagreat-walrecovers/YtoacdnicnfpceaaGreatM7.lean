/-
  wal: the values that are ranged over: slices.Values of sets, slices.Chunk of bytes, and setsOf's.
  wal: the functions that range over sets or chunks: allows, bodyOf, bring, save.
-/
import Derived.Test.YtoacdnicnfpceaaGreatWalA

namespace Go.Proofs.YtoacdnicnfpceaaGreat
open Go.RowKit Go.Maps Go.Shelf
set_option linter.unusedVariables false
attribute [local go_sem] Oper.semAt_some

/-- A slice of sets that reads as a list. -/
def RdS (w : World) (B : Nat) (A : Option Addr) (n cap : Nat) (l : List (Int × Int)) : Prop :=
  l.length = n ∧ n ≤ cap ∧ cap ≤ maxLen ∧ (∀ x ∈ l, I64 x.1 ∧ U64 x.2) ∧
    (0 < n → ∃ b off, A = some ⟨b, off, none⟩ ∧ b < B ∧ ∀ i (h : i < l.length), w.cell? ⟨b, off + i * 2, none⟩ = some (.int .i64 l[i].1) ∧ w.cell? ⟨b, off + i * 2 + 1, none⟩ = some (.int .u64 l[i].2))
theorem RdS.below {w w' : World} {B n cap : Nat} {A : Option Addr} {l : List (Int × Int)} (h : RdS w B A n cap l) (hb : Below B w w') : RdS w' B A n cap l :=
  ⟨h.1, h.2.1, h.2.2.1, h.2.2.2.1, fun hn => by
    obtain ⟨b, off, e, hlt, hc⟩ := h.2.2.2.2 hn
    exact ⟨b, off, e, hlt, fun i hi => ⟨(hb.cell (p := ⟨b, off + i * 2, none⟩) hlt).trans (hc i hi).1, (hb.cell (p := ⟨b, off + i * 2 + 1, none⟩) hlt).trans (hc i hi).2⟩⟩⟩
theorem RdS.more {w : World} {B B' n cap : Nat} {A : Option Addr} {l : List (Int × Int)} (h : RdS w B A n cap l) (hB : B ≤ B') : RdS w B' A n cap l :=
  ⟨h.1, h.2.1, h.2.2.1, h.2.2.2.1, fun hn => by
    obtain ⟨b, off, e, hlt, hc⟩ := h.2.2.2.2 hn
    exact ⟨b, off, e, by omega, hc⟩⟩
theorem RdS.on {w w' : World} {n cap : Nat} {A : Option Addr} {l : List (Int × Int)} (h : RdS w w.heap.size A n cap l) (hb : Below w.heap.size w w') : RdS w' w'.heap.size A n cap l := (h.below hb).more hb.size

set_option maxRecDepth 100000 in
set_option maxHeartbeats 2000000 in
theorem values_iter {w : World} {n₀ Bs n c : Nat} {A : Option Addr} {xs : List (Int × Int)} (hb : w.heap[Bs]? = some (.cells #[.slice A n c] 46 (0, 0))) (h : RdS w n₀ A n c xs) (hn0 : n₀ ≤ w.heap.size) :
    Iter Tryz.prog 67 #[.pointer (some ⟨Bs, 0, none⟩)] (fun x => #[setV x]) xs (Below n₀) w := by
  intro l J Jx W hW hJ hJx hY h0
  have hBs : W.cell? ⟨Bs, 0, none⟩ = some (.slice A n c) := by rw [row_cell ((hW.block _ (row_lt hb)).trans hb)]; rfl
  have hr := h.below (hW.mono hn0)
  have hl : xs.length = n := h.1
  have hmax : (n : Int) ≤ 9223372036854775807 := by have := h.2.1; have := h.2.2.1; unfold maxLen at *; omega
  have HR := hid hr
  have HL := hid hl
  clear h hr hb hl
  refine (callsIn_wide (n := 5)).1 (callsIn_of_wp Tryz.func67 rfl trivial ?_ rfl)
  simp only [Tryz.ntmps67, List.size_toArray, List.length_cons, List.length_nil, Nat.reduceAdd, Nat.reduceSub, Array.replicate_succ, Array.replicate_zero, List.push_toArray, List.append_toArray, List.nil_append, List.cons_append]
  gi_wp2
  gi_loopw [7] (fun i wr => ∃ k : Nat, k ≤ n ∧ i = .int .i64 k ∧ J k wr ∧ Below n₀ W wr) (fun i _ => n - (intOf i).toNat)
  case atStart => exact ⟨0, Nat.zero_le _, rfl, h0, Below.refl _ _⟩
  case round =>
    obtain ⟨k, hk, rfl, hJs, hnx⟩ := hrel
    by_cases hlt : k < n
    · have hkx : k < xs.length := by rw [HL.out]; exact hlt
      obtain ⟨x, hx⟩ : ∃ x, x = xs[k] := ⟨_, rfl⟩
      have hxk : xs[k]? = some x := by rw [hx]; exact List.getElem?_eq_getElem hkx
      obtain ⟨b, off, rfl, hblt, hc⟩ := (HR.out.below hnx).2.2.2.2 (by omega)
      obtain ⟨hc1, hc2⟩ := hc k hkx
      rw [← hx] at hc1 hc2
      clear hc hx
      obtain ⟨fn, tmps, assign, body, hy, hR⟩ := hY k x (wr.alloc (.cells #[.int .i64 x.1, .int .u64 x.2] 72)) hxk (hJ.alloc _ hJs)
      have hR' : RoundIn Fence.wide 4 Tryz.prog l fn tmps assign body _ _ := ⟨hR.1, fun c cs _ => hR.2 c cs (room_wide _)⟩
      unfold setV at hy
      have HLT := hid hlt
      gi_wp2
      refine hR'.mono ?_
      rintro e W3 ⟨_, (⟨rfl, hJ3, hk3⟩ | ⟨rfl, hJx3⟩)⟩
      · gi_wp2
        go_roundw
        case rel => exact ⟨k + 1, by have := HLT.out; omega, by simp, hJ3, (hnx.alloc (by have := hnx.size; have := hW.size; omega) _).trans hk3⟩
        case measure => have := HLT.out; simp [intOf]; omega
      · gi_wp2
        refine bodyPost_ret (results_none rfl _ _ _) rfl ?_
        exact ⟨⟨_, rfl⟩, .inr ⟨k, hkx, hJx3⟩⟩
    · obtain rfl : k = n := by omega
      gi_wp2
      go_end0
      exact ⟨⟨_, rfl⟩, .inl (by rw [HL.out]; exact hJs)⟩

theorem grown_drew (w : World) (r : Option Nat) : w.grownBy w.drew r := ⟨rfl, rfl, rfl, Nat.le_refl _, fun _ _ _ => rfl⟩
/-- All cells lie as they lay, but those of steps, of slices of steps, and of truth values. -/
def KeepC (w w' : World) : Prop := w.heap.size ≤ w'.heap.size ∧
  ∀ (k : Nat) (cs : Array Value) (t : TypeId), w.heap[k]? = some (.cells cs t (0, 0)) → t ≠ 1 → t ≠ 43 → t ≠ 4 → w'.heap[k]? = some (.cells cs t (0, 0))
theorem KeepC.refl (w : World) : KeepC w w := ⟨Nat.le_refl _, fun _ _ _ h _ _ _ => h⟩
theorem KeepC.trans {a b c : World} (h : KeepC a b) (k : KeepC b c) : KeepC a c := ⟨Nat.le_trans h.1 k.1, fun i cs t hi h1 h2 h3 => k.2 i cs t (h.2 i cs t hi h1 h2 h3) h1 h2 h3⟩
theorem KeepC.put (W : World) (l : Nat) (o o' : Obj) (h : W.heap[l]? = some o) (hc : o.isCells = false) : KeepC W (W.putObj l o') :=
  ⟨(grownBy_putObj' W l o').size, fun k cs t hk _ _ _ => ((grownBy_putObj' W l o').block k (row_lt hk) (fun e => by
    cases e; rw [hk] at h; cases h; cases hc)).trans hk⟩
theorem KeepC.below {w w' : World} (h : Below w.heap.size w w') : KeepC w w' := ⟨h.size, fun k cs t hk _ _ _ => (h.block k (row_lt hk)).trans hk⟩
theorem KeepC.drew (w : World) : KeepC w w.drew := ⟨Nat.le_refl _, fun _ _ _ h _ _ _ => h⟩

set_option maxRecDepth 100000 in
set_option maxHeartbeats 4000000 in
theorem chunk_iter {w : World} {b1 b2 b off n c m q : Nat} (h1 : w.heap[b1]? = some (.cells #[.slice (some ⟨b, off, none⟩) n c] 22 (0, 0))) (h2 : w.heap[b2]? = some (.cells #[.int .i64 m] 3 (0, 0)))
    (hn : n = q * m) (hm : 1 ≤ m) (hc : n ≤ c) (hmax : n ≤ 1000000) :
    Iter Tryz.prog 86 #[.pointer (some ⟨b1, 0, none⟩), .pointer (some ⟨b2, 0, none⟩)] (fun i : Nat => #[.slice (some ⟨b, off + i * m, none⟩) m m]) (List.range q) KeepC w := by
  intro l J Jx W hW hJ hJx hY h0
  have g1 := (hW.block _ (row_lt h1)).trans h1
  have g2 := (hW.block _ (row_lt h2)).trans h2
  have HN := hid hn
  have G1 := hid g1; have G2 := hid g2
  clear h1 h2 hn g1 g2
  have hmix : Tryz.prog.follows .mixedOrders = true := by kernel_rfl
  refine (callsIn_wide (n := 5)).1 (callsIn_of_wp Tryz.func86 rfl trivial ?_ rfl)
  simp only [Tryz.ntmps86, List.size_toArray, List.length_cons, List.length_nil, Nat.reduceAdd, Nat.reduceSub, Array.replicate_succ, Array.replicate_zero, List.push_toArray, List.append_toArray, List.nil_append, List.cons_append]
  gi_wp2
  gi_loopw [4] (fun i wr => ∃ k t : Nat, k ≤ q ∧ Hid (t = k * m) ∧ i = .int .i64 t ∧ J k wr ∧ KeepC W wr) (fun i _ => n - (intOf i).toNat)
  case atStart => exact ⟨0, 0, Nat.zero_le _, hid (by simp), rfl, h0, KeepC.refl _⟩
  case round =>
    obtain ⟨k, t, hk, HT, rfl, hJs, hkc⟩ := hrel
    have c1 : wr.cell? ⟨b1, 0, none⟩ = some (.slice (some ⟨b, off, none⟩) n c) := by rw [row_cell (hkc.2 _ _ _ G1.out (by decide) (by decide) (by decide))]; rfl
    have c2 : wr.cell? ⟨b2, 0, none⟩ = some (.int .i64 m) := by rw [row_cell (hkc.2 _ _ _ G2.out (by decide) (by decide) (by decide))]; rfl
    by_cases hlt : k < q
    · have htn : t + m ≤ n := by rw [HT.out, HN.out, ← Nat.succ_mul]; exact Nat.mul_le_mul_right _ hlt
      have htlt : t < n := by omega
      obtain ⟨fn, tmps, assign, body, hy, hR⟩ := hY k k wr.drew (by simp [hlt]) (hJ k wr _ none hJs (grown_drew wr none) (fun r e => by cases e))
      rw [← HT.out] at hy
      have hR' : RoundIn Fence.wide 4 Tryz.prog l fn tmps assign body _ _ := ⟨hR.1, fun c cs _ => hR.2 c cs (room_wide _)⟩
      have e1 : (if c = t then some (⟨b, off, none⟩ : Addr) else some ⟨b, off + t, none⟩) = some ⟨b, off + t, none⟩ := if_neg (by omega)
      have hct : ¬ c = t := by omega
      have hct' : t ≤ c := by omega
      have hmn : (m : Int) ≤ n - t := by omega
      gi_wp2
      refine wpIn_wide.2 ?_
      go_region
      rw [show min (m : Int) ((n - t : Nat) : Int) = m by omega]
      have d1 : wr.drew.cell? ⟨b1, 0, none⟩ = some (.slice (some ⟨b, off, none⟩) n c) := c1
      have hta : t + m ≤ c := by omega
      have hmt : (t : Int) + m ≤ 9223372036854775807 := by omega
      have e2 : (t + m) - t = m := by omega
      gi_wp2
      refine hR'.mono ?_
      rintro e W3 ⟨_, (⟨rfl, hJ3, hk3⟩ | ⟨rfl, hJx3⟩)⟩
      · have d2 : W3.cell? ⟨b2, 0, none⟩ = some (.int .i64 m) := by rw [row_cell (hk3.2 _ _ _ (show wr.drew.heap[b2]? = _ from hkc.2 _ _ _ G2.out (by decide) (by decide) (by decide)) (by decide) (by decide) (by decide))]; rfl
        gi_wp2
        go_roundw
        case rel => exact ⟨k + 1, t + m, hlt, hid (by rw [HT.out, Nat.succ_mul]), by simp, hJ3, hkc.trans ((KeepC.drew wr).trans hk3)⟩
        case measure => simp [intOf]; omega
      · gi_wp2
        refine bodyPost_ret (results_none rfl _ _ _) rfl ?_
        exact ⟨⟨_, rfl⟩, .inr ⟨k, by simpa using hlt, hJx3⟩⟩
    · obtain rfl : k = q := by omega
      have htn : t = n := by rw [HT.out, HN.out]
      subst htn
      gi_wp2
      go_end0
      exact ⟨⟨_, rfl⟩, .inl (by rw [List.length_range]; exact hJs)⟩

/-- The sets of a record's bytes behind the head. -/
def setAt (l : List UInt8) (i : Nat) : Int × Int := (wrap64 (num ((l.drop (i * 16)).take 8)), num ((l.drop (i * 16 + 8)).take 8))
def setsL (l : List UInt8) : List (Int × Int) := (List.range (l.length / 16)).map (setAt l)
theorem setsL_length (l : List UInt8) : (setsL l).length = l.length / 16 := by simp [setsL]

theorem ownFrom_mono {β : Type} {B B' : Nat} {I : β → World → Prop} (h : OwnFrom B I) (hB : B ≤ B') : OwnFrom B' I := fun s W W' row hs hg hr => h s W W' row hs hg (fun r e => ⟨Nat.le_trans hB (hr r e).1, (hr r e).2⟩)
theorem ownFrom_keepC {β : Type} (B : Nat) (w0 : World) : OwnFrom B (fun (_ : β) W => KeepC w0 W) := fun s W W' row hs hg hr => hs.trans ⟨hg.size, fun k cs t hk _ _ _ => (hg.block k (row_lt hk) (fun e => by
  obtain ⟨_, o, ho, hc⟩ := hr k e.symm
  rw [hk] at ho; cases ho; cases hc)).trans hk⟩

set_option maxRecDepth 100000 in
set_option maxHeartbeats 4000000 in
theorem sets_iter {w : World} {b1 q off c m : Nat} {l : List UInt8} {cs : Array Value} (h1 : w.heap[b1]? = some (.cells #[.slice (some ⟨q, off, none⟩) l.length c] 22 (0, 0))) (hl : l.length = m * 16) (hm : 1 ≤ m) (hc : l.length ≤ c) (hcm : c ≤ maxLen) (hmax : l.length ≤ 1000000)
    (hq : w.heap[q]? = some (.cells cs 5 (0, 0))) (hcs : ∀ i (h : i < l.length), cs[off + i]? = some (bv l[i])) :
    Iter Tryz.prog 77 #[.pointer (some ⟨b1, 0, none⟩)] (fun x => #[setV x]) (setsL l) KeepC w := by
  intro lo J Jx W hW hJ hJx hY h0
  have g1 := (hW.block _ (row_lt h1)).trans h1
  have gq := (hW.block _ (row_lt hq)).trans hq
  have c1 : W.cell? ⟨b1, 0, none⟩ = some (.slice (some ⟨q, off, none⟩) l.length c) := by rw [row_cell g1]; rfl
  have b1lt : b1 < W.heap.size := row_lt g1
  have c1' : (W.alloc (.cells #[.func (.yield lo) #[] #[]] 129)).cell? ⟨b1, 0, none⟩ = some (.slice (some ⟨q, off, none⟩) l.length c) := ((B1 W _).cell (p := ⟨b1, 0, none⟩) b1lt).trans c1
  have HL := hid hl; have GQ := hid gq; have HCS := hid hcs
  clear h1 hq g1 gq hcs hl c1
  obtain ⟨n, hn⟩ : ∃ n, n = l.length := ⟨_, rfl⟩
  rw [← hn] at c1' hc hmax HL
  have HN := hid hn
  clear hn
  refine (callsIn_wide (n := 5)).1 (callsIn_of_wp_marks Tryz.func77 rfl trivial ?_ rfl)
  simp only [Tryz.ntmps77, List.size_toArray, List.length_cons, List.length_nil, Nat.reduceAdd, Nat.reduceSub, Array.replicate_succ, Array.replicate_zero, List.push_toArray, List.append_toArray, List.nil_append, List.cons_append]
  gi_wp2_with (refine ⟨trivial, ?_⟩; gi_at_call 71; refine (callsIn_wide.2 (chunk_make _ _ _ _ (by omega))).mono ?_; rintro e w1 ⟨rfl, rfl⟩)
  obtain ⟨W0, hW0⟩ : ∃ W0, W0 = ((W.alloc (.cells #[.func (.yield lo) #[] #[]] 129)).alloc (.cells #[.slice (some ⟨q, off, none⟩) n c] 22)).alloc (.cells #[.int .i64 16] 3) := ⟨_, rfl⟩
  have hs0 : W0.heap.size = W.heap.size + 3 := by rw [hW0]; simp
  have hB0 : Below W.heap.size W W0 := by rw [hW0]; exact Ba (Ba (B1 W _) _) _
  have y0 : W0.heap[W.heap.size]? = some (.cells #[.func (.yield lo) #[] #[]] 129 (0, 0)) := by
    rw [hW0]; exact (Below.heap_alloc _ _ _ (by simp; omega)).trans ((Below.heap_alloc _ _ _ (by simp)).trans (heap_alloc_new W _))
  have y1 : W0.heap[W.heap.size + 1]? = some (.cells #[.slice (some ⟨q, off, none⟩) n c] 22 (0, 0)) := by
    rw [hW0]; refine (Below.heap_alloc _ _ _ (by simp)).trans ?_
    have := heap_alloc_new (W.alloc (.cells #[.func (.yield lo) #[] #[]] 129)) (.cells #[.slice (some ⟨q, off, none⟩) n c] 22)
    simpa using this
  have y2 : W0.heap[W.heap.size + 1 + 1]? = some (.cells #[.int .i64 (16 : Nat)] 3 (0, 0)) := by
    rw [hW0]
    have := heap_alloc_new ((W.alloc (.cells #[.func (.yield lo) #[] #[]] 129)).alloc (.cells #[.slice (some ⟨q, off, none⟩) n c] 22)) (.cells #[.int .i64 16] 3)
    simpa using this
  have hj0 : J 0 W0 := by rw [hW0]; exact hJ.alloc _ (hJ.alloc _ (hJ.alloc _ h0))
  rw [← hW0]
  clear hW0 c1'
  have hnm : (setsL l).length = m := by rw [setsL_length, ← HN.out, HL.out]; omega
  have GQ0 : Hid (W0.heap[q]? = some (.cells cs 5 (0, 0))) := (hB0.block _ (row_lt GQ.out)).trans GQ.out
  have hit := chunk_iter (w := W0) y1 y2 HL.out (by omega) hc hmax
  refine range_any (gf := 86) (lb := #[.pointer (some ⟨W.heap.size + 1, 0, none⟩), .pointer (some ⟨W.heap.size + 1 + 1, 0, none⟩)]) rfl (enters_of Tryz.func86 (by kernel_rfl) rfl)
    hit (fun h k => KeepC.trans h k) (fun W l o o' _ h hc => KeepC.put W l o o' h hc) (fun _ => rfl)
    (fun k W' => J k W' ∧ KeepC W0 W') (fun c k W' => c = .ret ∧ Jx k W')
    (OwnFrom.and (ownFrom_mono hJ (by omega)) (ownFrom_keepC _ _)) (fun c s A B row hs hg hr => ⟨hs.1, hJx s A B row hs.2 hg (fun r e => ⟨by have := (hr r e).1; omega, (hr r e).2⟩)⟩)
    ⟨hj0, KeepC.refl _⟩ ?_ ?_ ?_
  · rintro ll k i W1 hki ⟨hj1, hk1⟩ hll hll2
    gi_wp2
    refine ⟨KeepsFrom.refl _ _, KeepC.refl _, ⟨hj1, hk1⟩, ?_⟩
    rintro W2 hg2 ⟨hj2, hk2⟩
    have hi : i = k ∧ k < m := by
      have := hki
      rw [List.getElem?_eq_some_iff] at this
      obtain ⟨h1, h2⟩ := this
      simp at h1 h2; omega
    obtain ⟨rfl, him⟩ := hi
    have hq2 := hk2.2 _ _ _ GQ0.out (by decide) (by decide) (by decide)
    have hy2 := hk2.2 _ _ _ y0 (by decide) (by decide) (by decide)
    have hlen : i * 16 + 16 ≤ l.length := by rw [← HN.out, HL.out]; omega
    have hrd : Rd W2 W2.heap.size (some ⟨q, off + i * 16, none⟩) 16 16 ((l.drop (i * 16)).take 16) := by
      refine ⟨by simp; omega, Nat.le_refl _, by unfold maxLen; omega, (fun h => by cases h), fun _ => ⟨q, off + i * 16, rfl, row_lt hq2, fun j hj => ?_⟩⟩
      simp at hj
      have := HCS.out (i * 16 + j) (by omega)
      rw [row_cell hq2, Nat.add_assoc, this]
      simp
    have hgt1 := get_true _ 16 16 _ 0 8 W2 hrd (by decide) (by omega) (by omega)
    have HG1 := hid hgt1
    have hY1 : Hid (∀ W3, Below W2.heap.size W2 W3 → J i W3 ∧ W3.cell? ⟨W.heap.size, 0, none⟩ = some (.func (.yield lo) #[] #[]) ∧ Rd W3 W3.heap.size (some ⟨q, off + i * 16, none⟩) 16 16 ((l.drop (i * 16)).take 16)) := by
      intro W3 hb3
      refine ⟨hJ i W2 W3 none hj2 ?_ (fun r e => by cases e), ?_, hrd.on hb3⟩
      · exact ⟨hb3.os, hb3.tape, hb3.output, hb3.size, fun k hk _ => hb3.block k hk⟩
      · rw [row_cell ((hb3.block _ (row_lt hy2)).trans hy2)]; rfl
    have HX : Hid (i < (setsL l).length) := show _ < _ by rw [hnm]; exact him
    have e1 : num (List.take 8 (List.drop 0 (List.take 16 (List.drop (i * 16) l)))) = num ((l.drop (i * 16)).take 8) := by
      rw [List.drop_zero, List.take_take]; rfl
    have e2 : num (List.take 8 (List.drop 8 (List.take 16 (List.drop (i * 16) l)))) = num ((l.drop (i * 16 + 8)).take 8) := by
      rw [List.drop_take, List.drop_drop, List.take_take]; rfl
    rw [e1] at HG1
    have E2 := hid e2
    clear hrd hgt1 hq2 hy2 hlen e1 e2 hki
    gi_wp2_with (fail)
    refine ⟨trivial, calls_in (HG1.out.mono ?_)⟩
    rintro e W3 ⟨rfl, hb3⟩
    obtain ⟨-, -, hr3⟩ := hY1.out W3 hb3
    have HR3 := hid hr3; clear hr3
    gi_wp2_with (fail)
    refine ⟨trivial, calls_in ((get_true _ 16 16 _ 8 8 W3 HR3.out (by decide) (by omega) (by omega)).mono ?_)⟩
    rintro e W4 ⟨rfl, hb4⟩
    rw [E2.out]
    obtain ⟨hj4, hc4, -⟩ := hY1.out W4 (Bt hb3 hb4)
    obtain ⟨fn, tmps, assign, body, hy, hR⟩ := hY i (setAt l i) W4 (by have := HX.out; rw [setsL_length] at this; simp [setsL, this]) hj4
    have hR' : RoundIn (Fence.wide.inRound ll) 4 Tryz.prog lo fn tmps assign body _ _ := ⟨hR.1, fun c cs _ => hR.2 c cs (room_wide _)⟩
    unfold setV setAt at hy
    dsimp only at hy
    gi_wp2
    refine hR'.mono ?_
    rintro e W5 ⟨hkf5, (⟨rfl, hJ5, hk5⟩ | ⟨rfl, hJx5⟩)⟩
    · gi_wp2
      refine ⟨((kf_below hb3).trans (kf_below hb4)).trans (kf_mono hkf5 (by omega)), ((KeepC.below hb3).trans (KeepC.below hb4)).trans hk5, hJ5, hk2.trans (((KeepC.below hb3).trans (KeepC.below hb4)).trans hk5)⟩
    · gi_wp2
      exact ⟨((kf_below hb3).trans (kf_below hb4)).trans (kf_mono hkf5 (by omega)), rfl, hJx5⟩
  · rintro D W1 hD ⟨hj1, hk1⟩ hdf
    gi_wp2
    refine ⟨by simp, .inl ⟨_, _, rfl, run_takeDeferred hdf, ?_⟩⟩
    refine ⟨_, results_none rfl _ _ _, ⟨_, rfl⟩, .inl ?_⟩
    rw [List.length_range] at hj1
    rw [hnm]
    exact hJ.putObj _ hj1 (by omega) hdf rfl
  · rintro D c k W1 hD hk ⟨rfl, hx1⟩ hdf
    gi_wp2
    refine ⟨by simp, .inl ⟨_, _, rfl, run_takeDeferred hdf, ?_⟩⟩
    refine ⟨_, results_none rfl _ _ _, ⟨_, rfl⟩, .inr ⟨k, ?_, hJx.putObj _ hx1 (by omega) hdf rfl⟩⟩
    rw [List.length_range] at hk
    rw [hnm]; exact hk
end Go.Proofs.YtoacdnicnfpceaaGreat

namespace Go.Proofs.YtoacdnicnfpceaaGreat
open Go.RowKit Go.Maps Go.Shelf
set_option linter.unusedVariables false
attribute [local go_sem] Oper.semAt_some

/-- A value that yields the sets xs, whoever goes through it and keeps to its own. -/
structure Itr (w : World) (gf : Nat) (lb : Array Value) (xs : List (Int × Int)) (Kp : World → World → Prop) : Prop where
  it : Iter Tryz.prog gf lb (fun x => #[setV x]) xs Kp w
  en : ∀ args w, (callFunc gf args).run Tryz.prog w = .ok (.enter gf args) w
  kt : ∀ {A B C : World}, Kp A B → Kp B C → Kp A C
  kb : ∀ (W : World) (l : Nat) (o o' : Obj), w.heap.size ≤ l → W.heap[l]? = some o → o.isCells = false → Kp W (W.putObj l o')
  kp : ∀ (W W' : World), Below w.heap.size W W' → KeepC W W' → Kp W W'
theorem Itr.later {w w' : World} {gf : Nat} {lb : Array Value} {xs : List (Int × Int)} {Kp : World → World → Prop} (h : Itr w gf lb xs Kp) (hb : Below w.heap.size w w') : Itr w' gf lb xs Kp :=
  ⟨h.it.later hb, h.en, h.kt, fun W l o o' hl => h.kb W l o o' (Nat.le_trans hb.size hl), fun W W' hB hK => h.kp W W' (hB.mono hb.size) hK⟩

theorem alloc2 (w : World) (o1 o2 : Obj) : ∃ W, W = (w.alloc o1).alloc o2 ∧ W.heap.size = w.heap.size + 2 ∧ Below w.heap.size w W ∧ W.heap[w.heap.size]? = some o1 ∧ W.heap[w.heap.size + 1]? = some o2 := by
  refine ⟨_, rfl, by simp, Ba (B1 w _) _, (Below.heap_alloc _ _ _ (by simp)).trans (heap_alloc_new w _), ?_⟩
  have := heap_alloc_new (w.alloc o1) o2
  simpa using this
theorem alloc3 (w : World) (o1 o2 o3 : Obj) : ∃ W, W = ((w.alloc o1).alloc o2).alloc o3 ∧ W.heap.size = w.heap.size + 3 ∧ Below w.heap.size w W ∧ W.heap[w.heap.size]? = some o1 ∧ W.heap[w.heap.size + 1]? = some o2 ∧ W.heap[w.heap.size + 1 + 1]? = some o3 := by
  obtain ⟨W, hW, hs, hb, h1, h2⟩ := alloc2 w o1 o2
  refine ⟨W.alloc o3, by rw [hW], by simp [hs], Ba hb _, (Below.heap_alloc _ _ _ (by omega)).trans h1, (Below.heap_alloc _ _ _ (by omega)).trans h2, ?_⟩
  have := heap_alloc_new W o3
  rw [hs] at this
  exact this
theorem all_take {α : Type} {p : α → Bool} {xs : List α} {k : Nat} {x : α} (h : xs[k]? = some x) (hk : (xs.take k).all p = true) (hx : p x = true) : (xs.take (k + 1)).all p = true := by
  rw [List.take_add_one, h, List.all_append, hk]; simp [hx]

/-- Whether a set may be: a word of the device that is not one of the region. -/
def mayB (n at_ words : Int) (x : Int × Int) : Bool := decide (0 ≤ x.1) && decide (x.1 < n) && !(decide (at_ ≤ x.1) && decide (x.1 < at_ + words))

section
variable {w : World} {B d g cap lbb fb gf : Nat} {S : List UInt8} {L : Int → Option (List UInt8)} {F : Int → Bool} {lb : Array Value} {xs : List (Int × Int)} {Kp : World → World → Prop}
set_option maxRecDepth 100000 in
set_option maxHeartbeats 4000000 in
theorem allows_any (h : Dev w B d g cap lbb fb S L F) {at_ words n : Int} (hn : n = (S.length : Int) / 8) (h0 : 0 ≤ at_) (h1 : 1 ≤ words) (h2 : at_ + words ≤ n) (hi : Itr w gf lb xs Kp) (hx : ∀ x ∈ xs, I64 x.1 ∧ U64 x.2) :
    Calls Tryz.prog 35 #[.agg (regC d at_ words), .func (.func gf) #[] lb] w fun e w' => e = .returned (.bool (xs.all (mayB n at_ words))) ∧ Below w.heap.size w w' := by
  have hlen := h.len.2
  have hN1 : n ≤ 8192 := by omega
  have HL := hid (fun o o' => len_any ((h.alloc o).alloc o'))
  obtain ⟨N, hN⟩ : ∃ N : Int, N = S.length := ⟨_, rfl⟩
  rw [← hN] at HL hn
  have q1 : N.tdiv 8 = n := by rw [hn]; exact Int.tdiv_eq_ediv_of_nonneg (by omega)
  have q2 : IntKind.i64.wrap (at_ + words) = at_ + words := by rw [IntKind.wrap_i64]; omega
  clear h hn hlen hN
  have HI := hid hi; have HX := hid hx
  clear hi hx
  unfold regC
  refine (callsIn_wide (n := 5)).1 (callsIn_of_wp_marks Tryz.func35 rfl trivial ?_ rfl)
  simp only [Tryz.ntmps35, List.size_toArray, List.length_cons, List.length_nil, Nat.reduceAdd, Nat.reduceSub, Array.replicate_succ, Array.replicate_zero, List.push_toArray, List.append_toArray, List.nil_append, List.cons_append]
  gi_wp2_with (fail)
  refine ⟨trivial, callsIn_wide.2 ((HL.out _ _).mono ?_)⟩
  rintro e w1 ⟨rfl, rfl⟩
  gi_wp2_with (fail)
  obtain ⟨W0, hW0, hs0, hB0, y0, y1, y2⟩ := alloc3 w (.cells #[.pointer (some ⟨d, 0, none⟩), .int .i64 at_, .int .i64 words] 77) (.cells #[.bool false] 4) (.cells #[.int .i64 n] 3)
  rw [← hW0]
  clear hW0
  have HI0 := hid (HI.out.later hB0)
  obtain ⟨I, HI1⟩ : ∃ I : Nat → World → Prop, Hid (I = fun k W => (xs.take k).all (mayB n at_ words) = true ∧ Below W0.heap.size W0 W) := ⟨_, hid rfl⟩
  obtain ⟨Ix, HI2⟩ : ∃ Ix : Code → Nat → World → Prop, Hid (Ix = fun c k W => (c = .ret ∧ (∃ x, xs[k]? = some x ∧ mayB n at_ words x = false)) ∧ W.heap[w.heap.size + 1]? = some (.cells #[.bool false] 4 (0, 0)) ∧ Below w.heap.size w W) := ⟨_, hid rfl⟩
  have HS0 := hid hs0
  refine range_any (gf := gf) (lb := lb) rfl HI0.out.en HI0.out.it HI0.out.kt HI0.out.kb (fun _ => rfl) I Ix
    (by rw [HI1.out]; exact (OwnFrom.and (ownFrom_pure _ _) (ownFrom_below (Nat.le_refl _) (Nat.le_refl _))))
    (by rw [HI2.out]; exact (fun c => OwnFrom.and (ownFrom_pure _ _) (OwnFrom.and (fun s A C row hs hg hr => (hg.block _ (row_lt hs) (fun e => by obtain ⟨_, o, ho, hc⟩ := hr _ e.symm; rw [hs] at ho; cases ho; cases hc)).trans hs) (ownFrom_below (Nat.le_refl _) (by omega)))))
    (by rw [HI1.out]; exact ⟨rfl, Below.refl _ _⟩) ?_ ?_ ?_
  · rintro l k x W1 hx hi1 hl hl2
    have hi1' := hi1
    rw [HI1.out] at hi1'
    obtain ⟨hall, hb1⟩ := hi1'
    simp only [setV]
    gi_wp2_with (fail)
    refine ⟨kf_below (B1 _ _), HI0.out.kp _ _ ((Below.refl _ _).alloc hb1.size _) (KeepC.below (B1 _ _)), by rw [HI1.out]; exact ⟨hall, hb1.alloc hb1.size _⟩, ?_⟩
    rintro W2 hg2 hi2
    have hb2 : Below W0.heap.size W0 W2 := by rw [HI1.out] at hi2; exact hi2.2
    clear hi1 hi2
    clear hs0
    obtain ⟨x1, x2⟩ := x
    have hx1 := i64_iff.1 (HX.out _ (List.mem_of_getElem? hx)).1
    have hset : W2.heap[W1.heap.size]? = some (.cells #[.int .i64 x1, .int .u64 x2] 72 (0, 0)) := (hg2.block _ (by simp) (by simp; omega)).trans (heap_alloc_new W1 _)
    have c1 : W2.cell? ⟨W1.heap.size, 0, none⟩ = some (.int .i64 x1) := by rw [row_cell hset]; rfl
    have c2 : W2.cell? ⟨w.heap.size, 1, none⟩ = some (.int .i64 at_) := by rw [row_cell ((hb2.block _ (row_lt y0)).trans y0)]; rfl
    have c3 : W2.cell? ⟨w.heap.size, 2, none⟩ = some (.int .i64 words) := by rw [row_cell ((hb2.block _ (row_lt y0)).trans y0)]; rfl
    have c4 : W2.cell? ⟨w.heap.size + 1 + 1, 0, none⟩ = some (.int .i64 n) := by rw [row_cell ((hb2.block _ (row_lt y2)).trans y2)]; rfl
    have r1 := (hb2.block _ (row_lt y1)).trans y1
    have c5 : W2.cell? ⟨w.heap.size + 1, 0, none⟩ = some (.bool false) := by rw [row_cell r1]; rfl
    have c6 : W2.frozen? ⟨w.heap.size + 1, 0, none⟩ = false := row_frozen r1 0
    have HR1 := hid r1; have HB2 := hid hb2; have HXk := hid hx
    clear hset r1 hg2 hx
    have hm : mayB n at_ words (x1, x2) = (decide (0 ≤ x1) && decide (x1 < n) && !(decide (at_ ≤ x1) && decide (x1 < at_ + words))) := rfl
    have HM := hid hm
    clear hm
    have good : ∀ (a : Act), mayB n at_ words (x1, x2) = true → rPost W0.heap.size Kp I Ix k W2 .normal a W2 := fun a hm =>
      ⟨KeepsFrom.refl _ _, HI0.out.kp _ _ (Below.refl _ _) (KeepC.refl _), by rw [HI1.out]; exact ⟨all_take HXk.out hall hm, HB2.out⟩⟩
    have bad : ∀ (a : Act), mayB n at_ words (x1, x2) = false → rPost W0.heap.size Kp I Ix k W2 .ret a (W2.setCell ⟨w.heap.size + 1, 0, none⟩ (.bool false)) := fun a hm =>
      ⟨(KeepsOthers.setCell _ _ _).from _, by rw [HI2.out]; exact ⟨⟨rfl, _, HXk.out, hm⟩, row_set HR1.out 0 _, ((hB0.trans (HB2.out.mono (by have := HS0.out; omega))).setCell (p := ⟨w.heap.size + 1, 0, none⟩) (show w.heap.size ≤ w.heap.size + 1 by omega) _)⟩⟩
    have GOOD := hid good; have BAD := hid bad
    clear good bad hall
    by_cases p1 : x1 < 0
    · have d1 : decide (x1 < 0) = true := by simp; omega
      have d2 : decide (at_ ≤ x1) = false := by simp; omega
      gi_wp2_with (fail)
      exact BAD.out _ (by rw [HM.out]; simp; omega)
    · have d1 : decide (x1 < 0) = false := by simp; omega
      by_cases p2 : n ≤ x1
      · have d2 : decide (n ≤ x1) = true := by simp; omega
        by_cases p3 : at_ ≤ x1
        · have d3 : decide (at_ ≤ x1) = true := by simp; omega
          have d4 : decide (x1 < at_ + words) = false := by simp; omega
          gi_wp2_with (fail)
          exact BAD.out _ (by rw [HM.out]; simp; omega)
        · omega
      · have d2 : decide (n ≤ x1) = false := by simp; omega
        by_cases p3 : at_ ≤ x1
        · have d3 : decide (at_ ≤ x1) = true := by simp; omega
          by_cases p4 : x1 < at_ + words
          · have d4 : decide (x1 < at_ + words) = true := by simp; omega
            gi_wp2_with (fail)
            exact BAD.out _ (by rw [HM.out]; simp; omega)
          · have d4 : decide (x1 < at_ + words) = false := by simp; omega
            gi_wp2_with (fail)
            exact GOOD.out _ (by rw [HM.out]; simp; omega)
        · have d3 : decide (at_ ≤ x1) = false := by simp; omega
          gi_wp2_with (fail)
          exact GOOD.out _ (by rw [HM.out]; simp; omega)
  · rintro D W1 hD hi1 hdf
    rw [HI1.out] at hi1
    obtain ⟨hall, hb1⟩ := hi1
    rw [List.take_length] at hall
    have r1 := (hb1.block _ (row_lt y1)).trans y1
    have c5 : W1.cell? ⟨w.heap.size + 1, 0, none⟩ = some (.bool false) := by rw [row_cell r1]; rfl
    have c6 : W1.frozen? ⟨w.heap.size + 1, 0, none⟩ = false := row_frozen r1 0
    gi_wp2_with (fail)
    have hdf' := (KeepsOthers.setCell W1 ⟨w.heap.size + 1, 0, none⟩ (.bool true)).same D _ hdf rfl
    refine ⟨by simp, .inl ⟨_, _, rfl, run_takeDeferred hdf', ?_⟩⟩
    have r2 := row_set r1 0 (.bool true)
    have r3 := ((grownBy_putObj' (W1.setCell ⟨w.heap.size + 1, 0, none⟩ (.bool true)) D (.deferred none)).block _ (row_lt r2) (by simp; omega)).trans r2
    have c7 := row_cell r3 0
    refine ⟨.bool true, ?_, by rw [hall], ?_⟩
    · simp [results, Tryz.f35, go_sem, c7]
    · refine ((hB0.trans (hb1.mono (by omega))).setCell (p := ⟨w.heap.size + 1, 0, none⟩) (show w.heap.size ≤ w.heap.size + 1 by omega) _).trans (belowK_b (w := w) (Nat.le_refl _) _ D _ _ (by omega) hdf' rfl rfl)
  · rintro D c k W1 hD hk hi1 hdf
    rw [HI2.out] at hi1
    obtain ⟨⟨rfl, x, hx, hm⟩, r1, hb1⟩ := hi1
    gi_wp2_with (fail)
    refine ⟨by simp, .inl ⟨_, _, rfl, run_takeDeferred hdf, ?_⟩⟩
    have r3 := ((grownBy_putObj' W1 D (.deferred none)).block _ (row_lt r1) (by simp; omega)).trans r1
    have c7 := row_cell r3 0
    refine ⟨.bool false, ?_, ?_, hb1.trans (belowK_b (w := w) (Nat.le_refl _) _ D _ _ (by omega) hdf rfl rfl)⟩
    · simp [results, Tryz.f35, go_sem, c7]
    · congr 2
      symm
      rw [List.all_eq_false]
      exact ⟨x, List.mem_of_getElem? hx, by simp [hm]⟩
end
end Go.Proofs.YtoacdnicnfpceaaGreat
