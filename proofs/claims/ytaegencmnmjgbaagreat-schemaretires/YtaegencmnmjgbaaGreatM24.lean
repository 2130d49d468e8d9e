/-
  The program's seek of layer 6.
-/
import Derived.Test.YtaegencmnmjgbaaGreatM23
import Derived.Test.YtaegencmnmjgbaaGreatM19

namespace Go.Proofs.YtaegencmnmjgbaaGreat
open Go.RowKit
set_option linter.unusedVariables false
attribute [local go_sem] Oper.semAt_some
theorem run_loadI {P : Program} {w : World} {g : Nat} {ty : TypeId} {v : Value} (hu : P.underlying ty = some (.int .i64)) (h : w.cell? ⟨g, 0, none⟩ = some v) : (loadVar ty ⟨g, 0, none⟩).run P w = .ok v w := by
  have hagg : (isAgg ty).run P w = .ok false w := by
    unfold isAgg
    rw [Sem.run_bind, run_underlying hu w]
    rfl
  simp [loadVar, Sem.run_bind, hagg, h]
theorem run_loadFB {w : World} {b : Nat} {nm : ByteArray} {k g : Int} (h : FB w b nm k g) : (loadVar 68 ⟨b, 0, none⟩).run Tryz.prog w = .ok (.agg #[.string nm, .int .i64 k, .int .i64 g]) w :=
  run_loadVar_row w b 68 68 #[.string nm, .int .i64 k, .int .i64 g] (0, 0) _ h Tryz.underlying68 rfl (by kernel_rfl)
theorem FB.frozen {w : World} {b : Nat} {nm : ByteArray} {k g : Int} (h : FB w b nm k g) (i : Nat) : w.frozen? ⟨b, i, none⟩ = false := row_frozen h i
theorem FB.set3 {w : World} {b : Nat} {nm : ByteArray} {k g : Int} (h : FB w b nm k g) (nm' : ByteArray) (k' g' : Int) : FB (((w.setCell ⟨b, 0, none⟩ (.string nm')).setCell ⟨b, 1, none⟩ (.int .i64 k')).setCell ⟨b, 2, none⟩ (.int .i64 g')) b nm' k' g' := row_set (row_set (row_set h 0 _) 1 _) 2 _
def seekO (n : Nat) (l : List Fd) (nm : List UInt8) : Fd × Int × Int :=
  if rightL l = true ∧ (n : Int) = layN l then
    match findN l nm with
    | none => (⟨[], 0, 0⟩, 0, 61)
    | some i => match l[i]?, (layP 0 l)[i]? with
      | some f, some p => (f, p, 0)
      | _, _ => (⟨[], 0, 0⟩, 0, 0)
  else (⟨[], 0, 0⟩, 0, 60)
theorem seek_form {n : Nat} {l : List Fd} {nm : List UInt8} (h : ¬ (rightL l = true ∧ (n : Int) = layN l)) : seekO n l nm = (⟨[], 0, 0⟩, 0, 60) := by unfold seekO; rw [if_neg h]
theorem seek_none {n : Nat} {l : List Fd} {nm : List UInt8} (h : rightL l = true ∧ (n : Int) = layN l) (hf : findN l nm = none) : seekO n l nm = (⟨[], 0, 0⟩, 0, 61) := by unfold seekO; rw [if_pos h, hf]
theorem seek_some {n : Nat} {l : List Fd} {nm : List UInt8} (h : rightL l = true ∧ (n : Int) = layN l) {i : Nat} {f : Fd} {p : Int} (hf : findN l nm = some i) (hi : l[i]? = some f) (hp : (layP 0 l)[i]? = some p) : seekO n l nm = (f, p, 0) := by
  unfold seekO; rw [if_pos h, hf]; simp only [hi, hp]
def SeekQ (w : World) (r : Fd × Int × Int) (e : Ending) (w' : World) : Prop := e = .returned (.tuple #[fv r.1, .int .i64 r.2.1, .int .i64 r.2.2]) ∧ Below w.heap.size w w'
structure SeekB (w W : World) (nm : List UInt8) (f : Fd) (p e : Int) : Prop where
  cn : W.heap[w.heap.size]? = some (.cells #[.string (bs nm)] 9 (0, 0))
  cf : FB W (w.heap.size + 1) (bs f.nm) f.k f.g
  cp : W.heap[w.heap.size + 2]? = some (.cells #[.int .i64 p] 3 (0, 0))
  ce : W.heap[w.heap.size + 3]? = some (.cells #[.int .i64 e] 29 (0, 0))
  bl : Below w.heap.size w W
  az : w.heap.size + 4 ≤ W.heap.size
section
variable {w W W' : World} {nm : List UInt8} {f : Fd} {p e : Int}
theorem SeekB.on (h : SeekB w W nm f p e) (hb : Below W.heap.size W W') : SeekB w W' nm f p e :=
  ⟨(hb.block _ (row_lt h.cn)).trans h.cn, h.cf.on hb, (hb.block _ (row_lt h.cp)).trans h.cp, (hb.block _ (row_lt h.ce)).trans h.ce, h.bl.trans (hb.mono h.bl.size), Nat.le_trans h.az hb.size⟩
theorem SeekB.keep {row : Option Nat} (h : SeekB w W nm f p e) (hg : W.grownBy W' row) (hr : ∀ r, row = some r → w.heap.size ≤ r ∧ ∃ o : Obj, W.heap[r]? = some o ∧ o.isCells = false) : SeekB w W' nm f p e :=
  ⟨cells_keep h.cn hg (fun r e => (hr r e).2), cells_keep h.cf hg (fun r e => (hr r e).2), cells_keep h.cp hg (fun r e => (hr r e).2), cells_keep h.ce hg (fun r e => (hr r e).2), h.bl.grown hg h.bl.size (fun r e => (hr r e).1), Nat.le_trans h.az hg.size⟩
theorem SeekB.set (h : SeekB w W nm f p e) (f' : Fd) (p' e' : Int) :
    SeekB w (((((W.setCell ⟨w.heap.size + 1, 0, none⟩ (.string (bs f'.nm))).setCell ⟨w.heap.size + 1, 1, none⟩ (.int .i64 f'.k)).setCell ⟨w.heap.size + 1, 2, none⟩ (.int .i64 f'.g)).setCell ⟨w.heap.size + 2, 0, none⟩ (.int .i64 p')).setCell ⟨w.heap.size + 3, 0, none⟩ (.int .i64 e')) nm f' p' e' := by
  have ne : ∀ {V : World} {b : Nat} {o : Option Obj} (a i : Nat) (u : Value), b ≠ a → V.heap[b]? = o → (V.setCell ⟨a, i, none⟩ u).heap[b]? = o := fun a i u hne ho => (Below.heap_setCell _ ⟨a, i, none⟩ u _ hne).trans ho
  refine ⟨?_, ?_, ?_, ?_, ?_, by simp only [size_set]; exact h.az⟩
  · exact ne _ _ _ (by omega) (ne _ _ _ (by omega) (ne _ _ _ (by omega) (ne _ _ _ (by omega) (ne _ _ _ (by omega) h.cn))))
  · exact ne _ _ _ (by omega) (ne _ _ _ (by omega) (h.cf.set3 _ _ _))
  · exact ne _ _ _ (by omega) (row_set (ne _ _ _ (by omega) (ne _ _ _ (by omega) (ne _ _ _ (by omega) h.cp))) 0 _)
  · exact row_set (ne _ _ _ (by omega) (ne _ _ _ (by omega) (ne _ _ _ (by omega) (ne _ _ _ (by omega) h.ce)))) 0 _
  · exact ((((h.bl.setCell (p := ⟨w.heap.size + 1, 0, none⟩) (show w.heap.size ≤ w.heap.size + 1 by omega) _).setCell (p := ⟨w.heap.size + 1, 1, none⟩) (show w.heap.size ≤ w.heap.size + 1 by omega) _).setCell (p := ⟨w.heap.size + 1, 2, none⟩) (show w.heap.size ≤ w.heap.size + 1 by omega) _).setCell (p := ⟨w.heap.size + 2, 0, none⟩) (show w.heap.size ≤ w.heap.size + 2 by omega) _).setCell (p := ⟨w.heap.size + 3, 0, none⟩) (show w.heap.size ≤ w.heap.size + 3 by omega) _
theorem SeekB.results (h : SeekB w W nm f p e) {fn : Func} {x y z : Tmp} (hf : fn.results = #[.cell x 68, .cell y 3, .cell z 29]) {tmps : Array Value}
    (hx : tmps.getD x undef = .pointer (some ⟨w.heap.size + 1, 0, none⟩)) (hy : tmps.getD y undef = .pointer (some ⟨w.heap.size + 2, 0, none⟩)) (hz : tmps.getD z undef = .pointer (some ⟨w.heap.size + 3, 0, none⟩)) :
    (Go.results fn tmps).run Tryz.prog W = .ok (.tuple #[fv f, .int .i64 p, .int .i64 e]) W := by
  have c2 : W.cell? ⟨w.heap.size + 2, 0, none⟩ = some (.int .i64 p) := by rw [row_cell h.cp]; rfl
  have c3 : W.cell? ⟨w.heap.size + 3, 0, none⟩ = some (.int .i64 e) := by rw [row_cell h.ce]; rfl
  have l1 := run_loadFB h.cf
  have l2 := run_loadI (P := Tryz.prog) Tryz.underlying3 c2
  have l3 := run_loadI (P := Tryz.prog) Tryz.underlying29 c3
  have hx' : tmps[x]?.getD undef = .pointer (some ⟨w.heap.size + 1, 0, none⟩) := by simpa using hx
  have hy' : tmps[y]?.getD undef = .pointer (some ⟨w.heap.size + 2, 0, none⟩) := by simpa using hy
  have hz' : tmps[z]?.getD undef = .pointer (some ⟨w.heap.size + 3, 0, none⟩) := by simpa using hz
  simp [Go.results, hf, hx', hy', hz', asAddr, Sem.run_bind, Result.andThen, l1, l2, l3, fv]
end
theorem blk4 (V : World) (o1 o2 o3 o4 : Obj) : ((((V.alloc o1).alloc o2).alloc o3).alloc o4).heap[V.heap.size]? = some o1 ∧ ((((V.alloc o1).alloc o2).alloc o3).alloc o4).heap[V.heap.size + 1]? = some o2 ∧ ((((V.alloc o1).alloc o2).alloc o3).alloc o4).heap[V.heap.size + 2]? = some o3 ∧ ((((V.alloc o1).alloc o2).alloc o3).alloc o4).heap[V.heap.size + 3]? = some o4 := by
  have n2 := heap_alloc_new (V.alloc o1) o2
  have n3 := heap_alloc_new ((V.alloc o1).alloc o2) o3
  have n4 := heap_alloc_new (((V.alloc o1).alloc o2).alloc o3) o4
  simp only [World.size_alloc] at n2 n3 n4
  refine ⟨?_, ?_, ?_, n4⟩
  · exact (Below.heap_alloc _ _ _ (by simp; omega)).trans ((Below.heap_alloc _ _ _ (by simp; omega)).trans ((Below.heap_alloc _ _ _ (by simp)).trans (heap_alloc_new V o1)))
  · exact (Below.heap_alloc _ _ _ (by simp)).trans ((Below.heap_alloc _ _ _ (by simp)).trans n2)
  · exact (Below.heap_alloc _ _ _ (by simp)).trans n3
set_option maxRecDepth 100000 in
set_option maxHeartbeats 8000000 in
theorem seek_any {w : World} {A : Option Addr} {n c : Nat} {l : List Fd} (h : RdF w w.heap.size A n c l) (hs : short l) (A2 : Option Addr) (n2 c2 : Nat) (nm : List UInt8) :
    Calls Tryz.prog 128 #[.slice A2 n2 c2, .slice A n c, .string (bs nm)] w (SeekQ w (seekO n2 l nm)) := by
  have HL := hid h.1
  have H := hid h; have HS := hid hs; clear h hs
  obtain ⟨T, hT⟩ : ∃ T, T = layT l := ⟨_, rfl⟩
  have HT := hid hT
  refine (callsIn_wide (n := 5)).1 (callsIn_of_wp_marks Tryz.func128 rfl trivial ?_ rfl)
  simp only [Tryz.ntmps128, List.size_toArray, List.length_cons, List.length_nil, Nat.reduceAdd, Nat.reduceSub, Array.replicate_succ, Array.replicate_zero, List.push_toArray, List.append_toArray, List.nil_append, List.cons_append]
  gi_wp2_with (fail)
  obtain ⟨w4, hw4⟩ : ∃ w4, w4 = (((w.alloc (.cells #[.string (bs nm)] 9)).alloc (.cells #[.string ⟨#[]⟩, .int .i64 0, .int .i64 0] 68)).alloc (.cells #[.int .i64 0] 3)).alloc (.cells #[.int .i64 0] 29) := ⟨_, rfl⟩
  rw [← hw4]
  have hB4 : SeekB w w4 nm ⟨[], 0, 0⟩ 0 0 := by
    rw [hw4]
    obtain ⟨b1, b2, b3, b4⟩ := blk4 w (.cells #[.string (bs nm)] 9) (.cells #[.string ⟨#[]⟩, .int .i64 0, .int .i64 0] 68) (.cells #[.int .i64 0] 3) (.cells #[.int .i64 0] 29)
    exact ⟨b1, b2, b3, b4, Ba (Ba (Ba (B1 w _) _) _) _, by simp⟩
  clear hw4
  have HB4 := hid hB4
  clear hB4
  refine ⟨trivial, callsIn_wide.2 ((p6layout_any (H.out.on HB4.out.bl) HS.out).mono ?_)⟩
  rintro e w5 ⟨v5, rfl, ho5, hb5⟩
  rw [← hT]
  have HB5 := hid (HB4.out.on hb5)
  obtain ⟨A5, n5, cc5, rfl⟩ := ho5.shape
  clear hb5 ho5 hT
  gi_wp2_with (fail)
  refine ⟨trivial, callsIn_wide.2 ((p6right_any (H.out.on HB5.out.bl) HS.out).mono ?_)⟩
  rintro e w6 ⟨rfl, hb6⟩
  have HB6 := hid (HB5.out.on hb6)
  have hcf := HB6.out.cf.cells
  obtain ⟨u0, u1, u2⟩ := hcf
  have g0 := HB6.out.cf.frozen 0; have g1 := HB6.out.cf.frozen 1; have g2 := HB6.out.cf.frozen 2
  have up0 := row_cell HB6.out.cp 0; have upf := row_frozen HB6.out.cp 0
  have ue0 := row_cell HB6.out.ce 0; have uef := row_frozen HB6.out.ce 0
  clear hb6
  cases hr : rightL l with
  | false =>
    have HE : Hid (seekO n2 l nm = (⟨[], 0, 0⟩, 0, 60)) := seek_form (by rw [hr]; simp)
    clear hr
    gi_wp2_with (fail)
    exact ⟨_, (HB6.out.set ⟨[], 0, 0⟩ 0 60).results rfl rfl rfl rfl, by rw [HE.out], (HB6.out.set ⟨[], 0, 0⟩ 0 60).bl⟩
  | true =>
    by_cases hlen : (n2 : Int) = T
    · have t1 : ((n2 : Int) != T) = false := by rw [hlen]; simp
      have HC : Hid (rightL l = true ∧ (n2 : Int) = layN l) := ⟨hr, by rw [hlen, HT.out, layT_right hr]⟩
      clear hr hlen u0 u1 u2 g0 g1 g2 up0 upf ue0 uef
      gi_wp2_with (fail)
      refine ⟨trivial, callsIn_wide.2 ((places_any _ _ _ _).mono ?_)⟩
      rintro e W0 ⟨rfl, hW0⟩
      have hb0 : Below w6.heap.size w6 W0 := by rw [hW0]; exact B1 _ _
      have yB : W0.heap[w6.heap.size]? = some (.cells #[.slice A n c] 32 (0, 0)) := by rw [hW0]; exact heap_alloc_new _ _
      have HB0 := hid (HB6.out.on hb0)
      have hit := places_iter (w := W0) yB (H.out.below HB0.out.bl) HS.out (by have := HB0.out.az; omega)
      clear hW0 hb0 yB
      gi_wp2_with (fail)
      obtain ⟨I, HI1⟩ : ∃ I : Nat → World → Prop, Hid (I = fun k W => SeekB w W nm ⟨[], 0, 0⟩ 0 0 ∧ ∀ m, m < k → ∀ f, l[m]? = some f → f.nm ≠ nm) := ⟨_, hid rfl⟩
      obtain ⟨Ix, HI2⟩ : ∃ Ix : Code → Nat → World → Prop, Hid (Ix = fun c k W => (c = .ret ∧ ∃ f p, (plcL l)[k]? = some (f, p) ∧ f.nm = nm ∧ (∀ m, m < k → ∀ f, l[m]? = some f → f.nm ≠ nm) ∧ SeekB w W nm f p 0)) := ⟨_, hid rfl⟩
      refine range_any (gf := 160) (lb := #[.pointer (some ⟨w6.heap.size, 0, none⟩)]) rfl (enters_of Tryz.func160 (by kernel_rfl) rfl)
        hit (fun h k => KeepF.trans h k) (fun W l o o' hl h hc => KeepF.put (by have := HB0.out.az; omega) W l o o' hl h hc) (fun _ => rfl) I Ix
        (by
          rw [HI1.out]
          rintro s A C row ⟨hs, hn⟩ hg hr
          exact ⟨hs.keep hg (fun r e => ⟨by have := (hr r e).1; have := HB0.out.az; omega, (hr r e).2⟩), hn⟩)
        (by
          rw [HI2.out]
          rintro c s A C row ⟨hc, f, p, h1, h2, h3, h4⟩ hg hr
          exact ⟨hc, f, p, h1, h2, h3, h4.keep hg (fun r e => ⟨by have := (hr r e).1; have := HB0.out.az; omega, (hr r e).2⟩)⟩)
        (by rw [HI1.out]; exact ⟨HB0.out, fun m hm => absurd hm (by omega)⟩) ?_ ?_ ?_
      · rintro ll k x W1 hki hi1 hll hll2
        obtain ⟨f, P⟩ := x
        have HKI := hid hki
        obtain ⟨hrt, hfk, hpk, hPe⟩ := plcL_at hki
        dsimp only at hfk hpk hPe
        have HFK := hid hfk
        clear hrt hfk hpk hPe hki
        have hi1' := hi1
        rw [HI1.out] at hi1'
        obtain ⟨hst1, hno1⟩ := hi1'
        dsimp only [fv]
        have HNO := hid hno1
        clear hno1
        gi_wp2_with (fail)
        refine ⟨kf_below (B1 _ _), KeepF.below (B1 _ _) (by have := hst1.az; omega), by rw [HI1.out]; exact ⟨hst1.on (B1 _ _), HNO.out⟩, ?_⟩
        rintro W2 hg2 hi2
        rw [HI1.out] at hi2
        obtain ⟨hst, -⟩ := hi2
        have hfb : FB W2 W1.heap.size (bs f.nm) f.k f.g := (hg2.block _ (by simp) (by simp; omega)).trans (heap_alloc_new W1 _)
        obtain ⟨q, hq⟩ : ∃ q, q = W1.heap.size := ⟨_, rfl⟩
        rw [← hq] at hfb ⊢
        clear hq
        obtain ⟨e0, e1, e2⟩ := hfb.cells
        have HST := hid hst
        have cn0 : W2.cell? ⟨w.heap.size, 0, none⟩ = some (.string (bs nm)) := by rw [row_cell hst.cn]; rfl
        obtain ⟨u0, u1, u2⟩ := hst.cf.cells
        have g0 := hst.cf.frozen 0; have g1 := hst.cf.frozen 1; have g2 := hst.cf.frozen 2
        have up0 : W2.cell? ⟨w.heap.size + 2, 0, none⟩ = some (.int .i64 0) := by rw [row_cell hst.cp]; rfl
        have upf := row_frozen hst.cp 0
        have ue0 : W2.cell? ⟨w.heap.size + 3, 0, none⟩ = some (.int .i64 0) := by rw [row_cell hst.ce]; rfl
        have uef := row_frozen hst.ce 0
        clear hst hfb hg2 hi1 hst1 hit
        by_cases he : f.nm = nm
        · have t2 : (f.nm == nm) = true := by simpa using he
          have t3 : decide (f.nm = nm) = true := by simpa using he
          have HEQ := hid he
          clear he
          gi_wp2_with (fail)
          refine ⟨((((KeepsOthers.setCell _ _ _).from _).trans ((KeepsOthers.setCell _ _ _).from _)).trans ((KeepsOthers.setCell _ _ _).from _)).trans (((KeepsOthers.setCell _ _ _).from _).trans ((KeepsOthers.setCell _ _ _).from _)), ?_⟩
          rw [HI2.out]
          exact ⟨rfl, f, P, HKI.out, HEQ.out, HNO.out, HST.out.set f P 0⟩
        · have t2 : (f.nm == nm) = false := by rw [beq_eq_false_iff_ne]; exact he
          have t3 : decide (f.nm = nm) = false := by simpa using he
          have HEQ := hid he
          clear he u0 u1 u2 g0 g1 g2 up0 upf ue0 uef
          gi_wp2_with (fail)
          refine ⟨KeepsFrom.refl _ _, KeepF.refl _ _, ?_⟩
          rw [HI1.out]
          exact ⟨HST.out, fun m hm f' hf' => by
            by_cases e : m = k
            · subst e; rw [HFK.out] at hf'; cases hf'; exact HEQ.out
            · exact HNO.out m (by omega) f' hf'⟩
      · rintro D W1 hD hi1 hdf
        rw [HI1.out] at hi1
        obtain ⟨hst, hno⟩ := hi1
        have HE : Hid (seekO n2 l nm = (⟨[], 0, 0⟩, 0, 61)) := seek_none HC.out (findN_no fun f hf => by
          obtain ⟨i, hi⟩ := List.mem_iff_getElem?.1 hf
          refine hno i ?_ f hi
          rw [plcL_length HC.out.1]
          by_cases cc : i < l.length
          · exact cc
          · rw [List.getElem?_eq_none (by omega)] at hi; cases hi)
        have HST := hid hst
        obtain ⟨u0, u1, u2⟩ := hst.cf.cells
        have g0 := hst.cf.frozen 0; have g1 := hst.cf.frozen 1; have g2 := hst.cf.frozen 2
        have up0 : W1.cell? ⟨w.heap.size + 2, 0, none⟩ = some (.int .i64 0) := by rw [row_cell hst.cp]; rfl
        have upf := row_frozen hst.cp 0
        have ue0 : W1.cell? ⟨w.heap.size + 3, 0, none⟩ = some (.int .i64 0) := by rw [row_cell hst.ce]; rfl
        have uef := row_frozen hst.ce 0
        have HDF := hid hdf
        have HS2 := hid (hst.set ⟨[], 0, 0⟩ 0 61)
        have hDD : w.heap.size + 4 ≤ D := by have := HB0.out.az; omega
        clear hst hno hdf hit
        gi_wp2_with (fail)
        have hdf3 := ((((((KeepsOthers.setCell W1 ⟨w.heap.size + 1, 0, none⟩ (.string (bs []))).from 0).trans ((KeepsOthers.setCell _ ⟨w.heap.size + 1, 1, none⟩ (.int .i64 0)).from 0)).trans ((KeepsOthers.setCell _ ⟨w.heap.size + 1, 2, none⟩ (.int .i64 0)).from _)).trans (((KeepsOthers.setCell _ ⟨w.heap.size + 2, 0, none⟩ (.int .i64 0)).from _).trans ((KeepsOthers.setCell _ ⟨w.heap.size + 3, 0, none⟩ (.int .i64 61)).from _)))).same D _ (Nat.zero_le _) HDF.out rfl
        refine ⟨by simp, .inl ⟨_, _, rfl, run_takeDeferred hdf3, ?_⟩⟩
        have HK := HS2.out.keep (grownBy_putObj' _ D (.deferred none)) (fun r e => by cases e; exact ⟨by omega, _, hdf3, rfl⟩)
        exact ⟨_, HK.results rfl rfl rfl rfl, by rw [HE.out], HK.bl⟩
      · rintro D c k W1 hD hk hx1 hdf
        rw [HI2.out] at hx1
        obtain ⟨rfl, f, P, hki, hnm, hno, hst⟩ := hx1
        obtain ⟨hrt, hfk, hpk, hPe⟩ := plcL_at hki
        have HE : Hid (seekO n2 l nm = (f, P, 0)) := seek_some HC.out (findN_some hfk hnm hno) hfk hpk
        have HST := hid hst
        have HDF := hid hdf
        have hDD : w.heap.size + 4 ≤ D := by have := HB0.out.az; omega
        clear hki hrt hfk hpk hPe hno hst hit hdf hnm
        gi_wp2_with (fail)
        refine ⟨by simp, .inl ⟨_, _, rfl, run_takeDeferred HDF.out, ?_⟩⟩
        have HK := HST.out.keep (grownBy_putObj' _ D (.deferred none)) (fun r e => by cases e; exact ⟨by omega, _, HDF.out, rfl⟩)
        exact ⟨_, HK.results rfl rfl rfl rfl, by rw [HE.out], HK.bl⟩
    · have t1 : ((n2 : Int) != T) = true := by simpa using hlen
      have HE : Hid (seekO n2 l nm = (⟨[], 0, 0⟩, 0, 60)) := seek_form (fun h => hlen (by rw [h.2, HT.out, layT_right hr]))
      clear hr hlen
      gi_wp2_with (fail)
      exact ⟨_, (HB6.out.set ⟨[], 0, 0⟩ 0 60).results rfl rfl rfl rfl, by rw [HE.out], (HB6.out.set ⟨[], 0, 0⟩ 0 60).bl⟩
end Go.Proofs.YtaegencmnmjgbaaGreat
