/-
  The program's places of layer 6: what it yields, one field behind the other.
-/
import Derived.Test.YtaegencmnmjgbaaGreatM21

namespace Go.Proofs.YtaegencmnmjgbaaGreat
open Go.RowKit
set_option linter.unusedVariables false
attribute [local go_sem] Oper.semAt_some
def fv (f : Fd) : Value := .agg #[.string (bs f.nm), .int .i64 f.k, .int .i64 f.g]
def plcL (l : List Fd) : List (Fd × Int) := if rightL l then l.zip (layP 0 l) else []
theorem plcL_wrong {l : List Fd} (h : rightL l = false) : plcL l = [] := by unfold plcL; rw [h]; rfl
theorem plcL_right {l : List Fd} (h : rightL l = true) : plcL l = l.zip (layP 0 l) := by unfold plcL; rw [h]; rfl
theorem plcL_length {l : List Fd} (h : rightL l = true) : (plcL l).length = l.length := by rw [plcL_right h]; simp [layP_length]
theorem plcL_get {l : List Fd} (h : rightL l = true) {i : Nat} {f : Fd} (hi : l[i]? = some f) : (plcL l)[i]? = some (f, placeF (layE 0 (l.take i)) f) := by
  rw [plcL_right h, List.getElem?_zip_eq_some]; exact ⟨hi, layP_get hi 0⟩
theorem plcL_at {l : List Fd} {i : Nat} {x : Fd × Int} (hi : (plcL l)[i]? = some x) : rightL l = true ∧ l[i]? = some x.1 ∧ (layP 0 l)[i]? = some x.2 ∧ x.2 = placeF (layE 0 (l.take i)) x.1 := by
  cases hr : rightL l with
  | false => rw [plcL_wrong hr] at hi; simp at hi
  | true =>
    rw [plcL_right hr, List.getElem?_zip_eq_some] at hi
    refine ⟨rfl, hi.1, hi.2, ?_⟩
    exact Option.some.inj (hi.2.symm.trans (layP_get hi.1 0))
def KeepF (n₀ : Nat) (W W' : World) : Prop := Below n₀ W W' ∧ ∀ (k : Nat) (cs : Array Value), W.heap[k]? = some (.cells cs 68 (0, 0)) → W'.heap[k]? = some (.cells cs 68 (0, 0))
theorem KeepF.refl (n₀ : Nat) (W : World) : KeepF n₀ W W := ⟨Below.refl _ _, fun _ _ h => h⟩
theorem KeepF.trans {n₀ : Nat} {A B C : World} (h : KeepF n₀ A B) (k : KeepF n₀ B C) : KeepF n₀ A C := ⟨h.1.trans k.1, fun i cs hi => k.2 i cs (h.2 i cs hi)⟩
theorem KeepF.below {n₀ : Nat} {W W' : World} (h : Below W.heap.size W W') (hn : n₀ ≤ W.heap.size) : KeepF n₀ W W' := ⟨h.mono hn, fun k cs hk => (h.block k (row_lt hk)).trans hk⟩
theorem KeepF.put {n₀ m : Nat} (hn : n₀ ≤ m) (W : World) (l : Nat) (o o' : Obj) (hl : m ≤ l) (h : W.heap[l]? = some o) (hc : o.isCells = false) : KeepF n₀ W (W.putObj l o') :=
  ⟨belowKb hn W l o o' hl h hc, fun k cs hk => ((grownBy_putObj' W l o').block k (row_lt hk) (fun e => by cases e; rw [hk] at h; cases h; cases hc)).trans hk⟩
theorem KeepF.set {n₀ g : Nat} {W : World} {cs : Array Value} {t : TypeId} (h : W.heap[g]? = some (.cells cs t (0, 0))) (hn : n₀ ≤ g) (ht : t ≠ 68) (i : Nat) (u : Value) : KeepF n₀ W (W.setCell ⟨g, i, none⟩ u) :=
  ⟨(Below.refl _ _).setCell (p := ⟨g, i, none⟩) hn u, fun k cs' hk => (Below.heap_setCell W ⟨g, i, none⟩ u k (fun e => by
    have e : k = g := e
    subst e
    rw [hk] at h; cases h; exact ht rfl)).trans hk⟩
theorem KeepF.grown {n₀ : Nat} {W W' : World} {row : Option Nat} (hg : W.grownBy W' row) (h1 : ∀ r, row = some r → n₀ ≤ r ∧ ∃ cs t, W.heap[r]? = some (.cells cs t (0, 0)) ∧ t ≠ 68) (hn : n₀ ≤ W.heap.size) : KeepF n₀ W W' :=
  ⟨(Below.refl _ _).grown hg hn (fun j e => (h1 j e).1), fun k cs hk => (hg.block k (row_lt hk) (fun e => by
    obtain ⟨_, cs', t, hc, ht⟩ := h1 k e.symm
    rw [hk] at hc; cases hc; exact ht rfl)).trans hk⟩
theorem ownFrom_on {β : Type} {B : Nat} {I : β → World → Prop} (h : OwnFrom B I) {s : β} {W W' : World} (hs : I s W) (hb : Below W.heap.size W W') : I s W' :=
  h s W W' none hs ⟨hb.os, hb.tape, hb.output, hb.size, fun k hk _ => hb.block k hk⟩ (fun r e => by cases e)
set_option maxRecDepth 100000 in
set_option maxHeartbeats 4000000 in
theorem places_iter {w : World} {n₀ Bs n c : Nat} {A : Option Addr} {l : List Fd} (hb : w.heap[Bs]? = some (.cells #[.slice A n c] 32 (0, 0))) (h : RdF w n₀ A n c l) (hs : short l) (hn0 : n₀ ≤ w.heap.size) :
    Iter Tryz.prog 160 #[.pointer (some ⟨Bs, 0, none⟩)] (fun x : Fd × Int => #[fv x.1, .int .i64 x.2]) (plcL l) (KeepF n₀) w := by
  intro lo J Jx W hW hJ hJx hY h0
  have gB := (hW.block _ (row_lt hb)).trans hb
  have hBs : W.cell? ⟨Bs, 0, none⟩ = some (.slice A n c) := by rw [row_cell gB]; rfl
  have hr := h.below (hW.mono hn0)
  have hN0 : n₀ ≤ W.heap.size := Nat.le_trans hn0 hW.size
  have HL := hid h.1
  have HR := hid hr; have HS := hid hs; have HGB := hid gB; have HN0 := hid hN0
  clear h hr hb hs gB hN0 hn0
  cases hrt : rightL l with
  | false =>
    have HRT := hid hrt
    have HP := hid (plcL_wrong hrt)
    clear hrt
    refine (callsIn_wide (n := 5)).1 (callsIn_of_wp Tryz.func160 rfl trivial ?_ rfl)
    simp only [Tryz.ntmps160, List.size_toArray, List.length_cons, List.length_nil, Nat.reduceAdd, Nat.reduceSub, Array.replicate_succ, Array.replicate_zero, List.push_toArray, List.append_toArray, List.nil_append, List.cons_append]
    gi_wp2_with (fail)
    refine ⟨trivial, callsIn_wide.2 ((p6right_any (HR.out.more HN0.out) HS.out).mono ?_)⟩
    rintro e w1 ⟨rfl, hb1⟩
    rw [HRT.out]
    have HJ1 := hid (ownFrom_on hJ h0 hb1)
    clear hb1
    gi_wp2_with (fail)
    refine bodyPost_ret (results_none rfl _ _ _) rfl ?_
    exact ⟨⟨_, rfl⟩, .inl (by rw [HP.out]; exact HJ1.out)⟩
  | true =>
    have HRT := hid hrt
    have HPL := hid (plcL_length hrt)
    have hn16 : n ≤ 16 := by have := right_len hrt; have := HL.out; omega
    have HBD : Hid (∀ j, 0 ≤ layE 0 (l.take j) ∧ layE 0 (l.take j) ≤ 1152) := fun j => by
      have h1 := layE_bounds (l.take j) 0 (fun f hf => right_may hrt f (List.mem_of_mem_take hf)) (Int.le_refl _)
      have h2 : (l.take j).length ≤ 16 := by have := right_len hrt; rw [List.length_take]; omega
      omega
    clear hrt
    refine (callsIn_wide (n := 5)).1 (callsIn_of_wp Tryz.func160 rfl trivial ?_ rfl)
    simp only [Tryz.ntmps160, List.size_toArray, List.length_cons, List.length_nil, Nat.reduceAdd, Nat.reduceSub, Array.replicate_succ, Array.replicate_zero, List.push_toArray, List.append_toArray, List.nil_append, List.cons_append]
    gi_wp2_with (fail)
    refine ⟨trivial, callsIn_wide.2 ((p6right_any (HR.out.more HN0.out) HS.out).mono ?_)⟩
    rintro e w1 ⟨rfl, hb1⟩
    rw [HRT.out]
    have HJ1 := hid (ownFrom_on hJ h0 hb1)
    have HB1 := hid (hb1.mono HN0.out)
    have hBs1 : w1.cell? ⟨Bs, 0, none⟩ = some (.slice A n c) := by rw [row_cell ((hb1.block _ (row_lt HGB.out)).trans HGB.out)]; rfl
    have HSZ : Hid (n₀ ≤ w1.heap.size) := Nat.le_trans HN0.out hb1.size
    clear hb1 hBs
    gi_wp2_with (fail)
    gi_loopw [3, 12] (fun a i wr => ∃ (k : Nat) (z : Int), k ≤ n ∧ i = .int .i64 k ∧ a = .int .i64 z ∧ Hid (z = layE 0 (l.take k)) ∧ Hid (J k wr) ∧ Hid (Below n₀ W wr)) (fun _ i _ => n - (intOf i).toNat)
    case atStart => exact ⟨0, 0, Nat.zero_le _, rfl, rfl, hid rfl, HJ1, HB1⟩
    case round =>
      obtain ⟨k, z, hk, rfl, rfl, HZ, HJS, HB⟩ := hrel
      by_cases hlt : k < n
      · have hjl : k < l.length := by have := HL.out; omega
        obtain ⟨f, hf⟩ : ∃ f, l[k]? = some f := ⟨_, List.getElem?_eq_getElem hjl⟩
        obtain ⟨_, hk64, hg64, hnl, b, off, rfl, hc⟩ := HR.out.at hf
        obtain ⟨c0, c1, c2⟩ := hc wr HB.out
        have HF := hid hf
        have hfm := right_may HRT.out f (List.mem_of_getElem? hf)
        have hst := step_bd hfm
        have hz0 : 0 ≤ z ∧ z ≤ 1152 := by rw [HZ.out]; exact HBD.out k
        obtain ⟨hz00, hz01⟩ := hz0
        obtain ⟨S, hS⟩ : ∃ S, S = stepF f := ⟨_, rfl⟩
        obtain ⟨P, hP⟩ : ∃ P, P = placeF z f := ⟨_, rfl⟩
        obtain ⟨L, hL⟩ : ∃ L, L = longF f.k f.g := ⟨_, rfl⟩
        have hpg := place_ge hfm hz00
        have hlp : 1 ≤ L ∧ L ≤ 64 := by rw [hL]; exact long_pos hfm
        rw [← hP] at hpg
        rw [← hS] at hst
        have HU := hid (up_any z S · hz00 (by omega) hst.1 hst.2)
        have HUE : Hid (upI z S = P) := by show _ = _; rw [hS, hP]; exact up_place z f
        have HP := hid hP; have HLL := hid hL; have HSS := hid hS
        obtain ⟨hl1, hl64⟩ := hlp
        have hP0 : z ≤ P := hpg.1
        have hP1 : P < z + 8 := hpg.2.1
        have q1 : IntKind.i64.wrap (P + L) = P + L := by rw [IntKind.wrap_i64]; omega
        have hji : (k : Int) < n := by omega
        have hj0 : (0 : Int) ≤ k := by omega
        obtain ⟨wv, hwv⟩ : ∃ wv, wv = wr.alloc (.cells #[.string (bs f.nm), .int .i64 f.k, .int .i64 f.g] 68) := ⟨_, rfl⟩
        obtain ⟨q, hq⟩ : ∃ q, q = wr.heap.size := ⟨_, rfl⟩
        have HWV := hid hwv; have HQ := hid hq
        have HFB : Hid (FB wv q (bs f.nm) f.k f.g) := by rw [hwv, hq]; exact fb_new wr _ _ _
        have hwrs : n₀ ≤ wr.heap.size := by
          by_cases c : n₀ ≤ wr.heap.size
          · exact c
          · have := HB.out.size; have := HN0.out; omega
        have HBV : Hid (Below n₀ W wv) := by rw [hwv]; exact HB.out.alloc hwrs _
        have HJV : Hid (J k wv) := by rw [hwv]; exact hJ.alloc _ HJS.out
        have HSV : Hid (n₀ ≤ wv.heap.size) := by rw [hwv]; show n₀ ≤ _; simp; omega
        obtain ⟨v0, vv1, vv2⟩ := HFB.out.cells
        clear hc hf hfm hst hS hP hL hpg hk64 hg64 hnl hjl hwv hq hwrs
        gi_wp2_with (fail)
        rw [← HWV.out, ← HQ.out]
        refine ⟨trivial, callsIn_wide.2 ((step_any f wv).mono ?_)⟩
        rintro e w2 ⟨rfl, hb2⟩
        rw [← HSS.out]
        have HF2 := hid (HFB.out.on hb2)
        have HJ2 := hid (ownFrom_on hJ HJV.out hb2)
        have HB2 := hid (HBV.out.trans (hb2.mono HSV.out))
        have HS2 : Hid (n₀ ≤ w2.heap.size) := Nat.le_trans HSV.out hb2.size
        obtain ⟨v0, vv1, vv2⟩ := HF2.out.cells
        clear hb2 c0 c1 c2
        gi_wp2_with (fail)
        refine ⟨trivial, callsIn_wide.2 ((HU.out w2).mono ?_)⟩
        rintro e w3 ⟨rfl, rfl⟩
        rw [HUE.out]
        obtain ⟨fn, tmps, assign, body, hy, hR⟩ := hY k (f, P) w2 (by rw [HP.out, HZ.out]; exact plcL_get HRT.out HF.out) HJ2.out
        have hR' : RoundIn Fence.wide 4 Tryz.prog lo fn tmps assign body _ _ := ⟨hR.1, fun c cs _ => hR.2 c cs (room_wide _)⟩
        dsimp only [fv] at hy
        gi_wp2_with (fail)
        refine hR'.mono ?_
        rintro e W3 ⟨_, (⟨rfl, hJ3, hk3⟩ | ⟨rfl, hJx3⟩)⟩
        · have HF3 : Hid (FB W3 q (bs f.nm) f.k f.g) := hk3.2 _ _ HF2.out
          have HJ3 := hid hJ3
          have HB3 := hid (HB2.out.trans hk3.1)
          have HS3 : Hid (n₀ ≤ W3.heap.size) := Nat.le_trans HS2.out hk3.1.size
          obtain ⟨v0, vv1, vv2⟩ := HF3.out.cells
          clear hk3 hJ3
          gi_wp2_with (fail)
          refine ⟨trivial, callsIn_wide.2 ((klong_any (bs f.nm) f.k f.g W3).mono ?_)⟩
          rintro e w4 ⟨rfl, hb4⟩
          rw [← HLL.out]
          have HJ4 := hid (ownFrom_on hJ HJ3.out hb4)
          have HB4 := hid (HB3.out.trans (hb4.mono HS3.out))
          clear hb4 v0 vv1 vv2
          gi_wp2_with (fail)
          go_roundw
          case rel => exact ⟨k + 1, P + L, by omega, by simp, rfl, hid (by rw [layE_take HF.out, ← HZ.out, ← HP.out, HLL.out]; rfl), HJ4, HB4⟩
          case measure => simp [intOf]; omega
        · have HJX := hid hJx3
          have HKP : Hid (k < (plcL l).length) := by show k < _; rw [HPL.out, HL.out]; exact hlt
          clear hJx3
          gi_wp2_with (fail)
          refine bodyPost_ret (results_none rfl _ _ _) rfl ?_
          exact ⟨⟨_, rfl⟩, .inr ⟨k, HKP.out, HJX.out⟩⟩
      · obtain rfl : k = n := by omega
        gi_wp2_with (fail)
        go_end0
        exact ⟨⟨_, rfl⟩, .inl (by rw [HPL.out, HL.out]; exact HJS.out)⟩
end Go.Proofs.YtaegencmnmjgbaaGreat
