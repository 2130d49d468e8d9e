/-
  The program's seek of layer 6.
  The document's Set of layer 6.
-/
import Derived.Test.YtggfcbncjkpkgaaM11
import Derived.Test.YtggfcbncjkpkgaaM12

namespace Go.Proofs.Ytggfcbncjkpkgaa
open Go.RowKit
set_option linter.unusedVariables false
attribute [local go_sem] Oper.semAt_some

theorem run_loadI {P : Program} {w : World} {g : Nat} {ty : TypeId} {v : Value} (hu : P.underlying ty = some (.int .i64)) (h : w.cell? ⟨g, 0, none⟩ = some v) : (loadVar ty ⟨g, 0, none⟩).run P w = .ok v w := by
  have hagg : (isAgg ty).run P w = .ok false w := by
    unfold isAgg
    rw [Sem.run_bind, run_underlying hu w]
    rfl
  simp [loadVar, Sem.run_bind, hagg, h]
theorem run_loadFB {w : World} {b : Nat} {nm : ByteArray} {k g : Int} (h : FB w b nm k g) : (loadVar 40 ⟨b, 0, none⟩).run Try.prog w = .ok (.agg #[.string nm, .int .i64 k, .int .i64 g]) w :=
  run_loadVar_row w b 40 40 #[.string nm, .int .i64 k, .int .i64 g] (0, 0) _ h Try.underlying40 rfl (by kernel_rfl)
theorem FB.frozen {w : World} {b : Nat} {nm : ByteArray} {k g : Int} (h : FB w b nm k g) (i : Nat) : w.frozen? ⟨b, i, none⟩ = false := row_frozen h i
theorem FB.set3 {w : World} {b : Nat} {nm : ByteArray} {k g : Int} (h : FB w b nm k g) (nm' : ByteArray) (k' g' : Int) : FB (((w.setCell ⟨b, 0, none⟩ (.string nm')).setCell ⟨b, 1, none⟩ (.int .i64 k')).setCell ⟨b, 2, none⟩ (.int .i64 g')) b nm' k' g' := row_set (row_set (row_set h 0 _) 1 _) 2 _

/-- What is told of a field that is sought: it, its place, and an error. -/
def seekO (n : Nat) (l : List Fd) (nm : List UInt8) : Fd × Int × Int :=
  if rightL l = true ∧ (n : Int) = layN l then
    match findN l nm with
    | none => (⟨[], 0, 0⟩, 0, 61)
    | some i => match l[i]?, (layP 0 l)[i]? with
      | some f, some p => (f, p, 0)
      | _, _ => (⟨[], 0, 0⟩, 0, 0)
  else (⟨[], 0, 0⟩, 0, 60)
theorem seek_form {n : Nat} {l : List Fd} {nm : List UInt8} (h : ¬ (rightL l = true ∧ (n : Int) = layN l)) : seekO n l nm = (⟨[], 0, 0⟩, 0, 60) := by unfold seekO; rw [if_neg h]
theorem seek_none {n : Nat} {l : List Fd} {nm : List UInt8} (h : rightL l = true ∧ (n : Int) = layN l) (hf : findN l nm = none) : seekO n l nm = (⟨[], 0, 0⟩, 0, 61) := by unfold seekO; rw [if_pos h, hf]
theorem seek_some {n : Nat} {l : List Fd} {nm : List UInt8} (h : rightL l = true ∧ (n : Int) = layN l) {i : Nat} {f : Fd} {p : Int} (hf : findN l nm = some i) (hi : l[i]? = some f) (hp : (layP 0 l)[i]? = some p) : seekO n l nm = (f, p, 0) := by
  unfold seekO; rw [if_pos h, hf]; simp only [hi, hp]
def SeekQ (w : World) (r : Fd × Int × Int) (e : Ending) (w' : World) : Prop := e = .returned (.tuple #[fv r.1, .int .i64 r.2.1, .int .i64 r.2.2]) ∧ Below w.heap.size w w'

/-- The four boxes of seek: the name, and the results. -/
structure SeekB (w W : World) (nm : List UInt8) (f : Fd) (p e : Int) : Prop where
  cn : W.heap[w.heap.size]? = some (.cells #[.string (bs nm)] 9 (0, 0))
  cf : FB W (w.heap.size + 1) (bs f.nm) f.k f.g
  cp : W.heap[w.heap.size + 2]? = some (.cells #[.int .i64 p] 3 (0, 0))
  ce : W.heap[w.heap.size + 3]? = some (.cells #[.int .i64 e] 41 (0, 0))
  bl : Below w.heap.size w W
  az : w.heap.size + 4 ≤ W.heap.size
section
variable {w W W' : World} {nm : List UInt8} {f : Fd} {p e : Int}
theorem SeekB.on (h : SeekB w W nm f p e) (hb : Below W.heap.size W W') : SeekB w W' nm f p e :=
  ⟨(hb.block _ (row_lt h.cn)).trans h.cn, h.cf.on hb, (hb.block _ (row_lt h.cp)).trans h.cp, (hb.block _ (row_lt h.ce)).trans h.ce, h.bl.trans (hb.mono h.bl.size), Nat.le_trans h.az hb.size⟩
theorem SeekB.keep {row : Option Nat} (h : SeekB w W nm f p e) (hg : W.grownBy W' row) (hr : ∀ r, row = some r → w.heap.size ≤ r ∧ ∃ o : Obj, W.heap[r]? = some o ∧ o.isCells = false) : SeekB w W' nm f p e :=
  ⟨cells_keep h.cn hg (fun r e => (hr r e).2), cells_keep h.cf hg (fun r e => (hr r e).2), cells_keep h.cp hg (fun r e => (hr r e).2), cells_keep h.ce hg (fun r e => (hr r e).2), h.bl.grown hg h.bl.size (fun r e => (hr r e).1), Nat.le_trans h.az hg.size⟩
/-- All three results are set. -/
theorem SeekB.set (h : SeekB w W nm f p e) (f' : Fd) (p' e' : Int) :
    SeekB w (((((W.setCell ⟨w.heap.size + 1, 0, none⟩ (.string (bs f'.nm))).setCell ⟨w.heap.size + 1, 1, none⟩ (.int .i64 f'.k)).setCell ⟨w.heap.size + 1, 2, none⟩ (.int .i64 f'.g)).setCell ⟨w.heap.size + 2, 0, none⟩ (.int .i64 p')).setCell ⟨w.heap.size + 3, 0, none⟩ (.int .i64 e')) nm f' p' e' := by
  have ne : ∀ {V : World} {b : Nat} {o : Option Obj} (a i : Nat) (u : Value), b ≠ a → V.heap[b]? = o → (V.setCell ⟨a, i, none⟩ u).heap[b]? = o := fun a i u hne ho => (Below.heap_setCell _ ⟨a, i, none⟩ u _ hne).trans ho
  refine ⟨?_, ?_, ?_, ?_, ?_, by simp only [size_set]; exact h.az⟩
  · exact ne _ _ _ (by omega) (ne _ _ _ (by omega) (ne _ _ _ (by omega) (ne _ _ _ (by omega) (ne _ _ _ (by omega) h.cn))))
  · exact ne _ _ _ (by omega) (ne _ _ _ (by omega) (h.cf.set3 _ _ _))
  · exact ne _ _ _ (by omega) (row_set (ne _ _ _ (by omega) (ne _ _ _ (by omega) (ne _ _ _ (by omega) h.cp))) 0 _)
  · exact row_set (ne _ _ _ (by omega) (ne _ _ _ (by omega) (ne _ _ _ (by omega) (ne _ _ _ (by omega) h.ce)))) 0 _
  · exact ((((h.bl.setCell (p := ⟨w.heap.size + 1, 0, none⟩) (show w.heap.size ≤ w.heap.size + 1 by omega) _).setCell (p := ⟨w.heap.size + 1, 1, none⟩) (show w.heap.size ≤ w.heap.size + 1 by omega) _).setCell (p := ⟨w.heap.size + 1, 2, none⟩) (show w.heap.size ≤ w.heap.size + 1 by omega) _).setCell (p := ⟨w.heap.size + 2, 0, none⟩) (show w.heap.size ≤ w.heap.size + 2 by omega) _).setCell (p := ⟨w.heap.size + 3, 0, none⟩) (show w.heap.size ≤ w.heap.size + 3 by omega) _
/-- What is read behind a return. -/
theorem SeekB.results (h : SeekB w W nm f p e) {fn : Func} {x y z : Tmp} (hf : fn.results = #[.cell x 40, .cell y 3, .cell z 41]) {tmps : Array Value}
    (hx : tmps.getD x undef = .pointer (some ⟨w.heap.size + 1, 0, none⟩)) (hy : tmps.getD y undef = .pointer (some ⟨w.heap.size + 2, 0, none⟩)) (hz : tmps.getD z undef = .pointer (some ⟨w.heap.size + 3, 0, none⟩)) :
    (Go.results fn tmps).run Try.prog W = .ok (.tuple #[fv f, .int .i64 p, .int .i64 e]) W := by
  have c2 : W.cell? ⟨w.heap.size + 2, 0, none⟩ = some (.int .i64 p) := by rw [row_cell h.cp]; rfl
  have c3 : W.cell? ⟨w.heap.size + 3, 0, none⟩ = some (.int .i64 e) := by rw [row_cell h.ce]; rfl
  have l1 := run_loadFB h.cf
  have l2 := run_loadI (P := Try.prog) Try.underlying3 c2
  have l3 := run_loadI (P := Try.prog) Try.underlying41 c3
  have hx' : tmps[x]?.getD undef = .pointer (some ⟨w.heap.size + 1, 0, none⟩) := by simpa using hx
  have hy' : tmps[y]?.getD undef = .pointer (some ⟨w.heap.size + 2, 0, none⟩) := by simpa using hy
  have hz' : tmps[z]?.getD undef = .pointer (some ⟨w.heap.size + 3, 0, none⟩) := by simpa using hz
  simp [Go.results, hf, hx', hy', hz', asAddr, Sem.run_bind, Result.andThen, l1, l2, l3, fv]
end

theorem blk4 (V : World) (o1 o2 o3 o4 : Obj) : ((((V.alloc o1).alloc o2).alloc o3).alloc o4).heap[V.heap.size]? = some o1 ∧ ((((V.alloc o1).alloc o2).alloc o3).alloc o4).heap[V.heap.size + 1]? = some o2 ∧ ((((V.alloc o1).alloc o2).alloc o3).alloc o4).heap[V.heap.size + 2]? = some o3 ∧ ((((V.alloc o1).alloc o2).alloc o3).alloc o4).heap[V.heap.size + 3]? = some o4 := by
  have n2 := heap_alloc_new (V.alloc o1) o2
  have n3 := heap_alloc_new ((V.alloc o1).alloc o2) o3
  have n4 := heap_alloc_new (((V.alloc o1).alloc o2).alloc o3) o4
  simp only [World.size_alloc] at n2 n3 n4
  refine ⟨?_, ?_, ?_, n4⟩
  · exact (Below.heap_alloc _ _ _ (by simp; omega)).trans ((Below.heap_alloc _ _ _ (by simp; omega)).trans ((Below.heap_alloc _ _ _ (by simp)).trans (heap_alloc_new V o1)))
  · exact (Below.heap_alloc _ _ _ (by simp)).trans ((Below.heap_alloc _ _ _ (by simp)).trans n2)
  · exact (Below.heap_alloc _ _ _ (by simp)).trans n3
set_option maxRecDepth 100000 in
set_option maxHeartbeats 8000000 in
theorem seek_any {w : World} {A : Option Addr} {n c : Nat} {l : List Fd} (h : RdF w w.heap.size A n c l) (hs : short l) (A2 : Option Addr) (n2 c2 : Nat) (nm : List UInt8) :
    Calls Try.prog 40 #[.slice A2 n2 c2, .slice A n c, .string (bs nm)] w (SeekQ w (seekO n2 l nm)) := by
  have HL := hid h.1
  have H := hid h; have HS := hid hs; clear h hs
  obtain ⟨T, hT⟩ : ∃ T, T = layT l := ⟨_, rfl⟩
  have HT := hid hT
  refine (callsIn_wide (n := 5)).1 (callsIn_of_wp_marks Try.func40 rfl trivial ?_ rfl)
  simp only [Try.ntmps40, List.size_toArray, List.length_cons, List.length_nil, Nat.reduceAdd, Nat.reduceSub, Array.replicate_succ, Array.replicate_zero, List.push_toArray, List.append_toArray, List.nil_append, List.cons_append]
  gi_wp2_with (fail)
  obtain ⟨w4, hw4⟩ : ∃ w4, w4 = (((w.alloc (.cells #[.string (bs nm)] 9)).alloc (.cells #[.string ⟨#[]⟩, .int .i64 0, .int .i64 0] 40)).alloc (.cells #[.int .i64 0] 3)).alloc (.cells #[.int .i64 0] 41) := ⟨_, rfl⟩
  rw [← hw4]
  have hB4 : SeekB w w4 nm ⟨[], 0, 0⟩ 0 0 := by
    rw [hw4]
    obtain ⟨b1, b2, b3, b4⟩ := blk4 w (.cells #[.string (bs nm)] 9) (.cells #[.string ⟨#[]⟩, .int .i64 0, .int .i64 0] 40) (.cells #[.int .i64 0] 3) (.cells #[.int .i64 0] 41)
    exact ⟨b1, b2, b3, b4, Ba (Ba (Ba (B1 w _) _) _) _, by simp⟩
  clear hw4
  have HB4 := hid hB4
  clear hB4
  refine ⟨trivial, callsIn_wide.2 ((p6layout_any (H.out.on HB4.out.bl) HS.out).mono ?_)⟩
  rintro e w5 ⟨v5, rfl, ho5, hb5⟩
  rw [← hT]
  have HB5 := hid (HB4.out.on hb5)
  obtain ⟨A5, n5, cc5, rfl⟩ := ho5.shape
  clear hb5 ho5 hT
  gi_wp2_with (fail)
  refine ⟨trivial, callsIn_wide.2 ((p6right_any (H.out.on HB5.out.bl) HS.out).mono ?_)⟩
  rintro e w6 ⟨rfl, hb6⟩
  have HB6 := hid (HB5.out.on hb6)
  have hcf := HB6.out.cf.cells
  obtain ⟨u0, u1, u2⟩ := hcf
  have g0 := HB6.out.cf.frozen 0; have g1 := HB6.out.cf.frozen 1; have g2 := HB6.out.cf.frozen 2
  have up0 := row_cell HB6.out.cp 0; have upf := row_frozen HB6.out.cp 0
  have ue0 := row_cell HB6.out.ce 0; have uef := row_frozen HB6.out.ce 0
  clear hb6
  cases hr : rightL l with
  | false =>
    have HE : Hid (seekO n2 l nm = (⟨[], 0, 0⟩, 0, 60)) := seek_form (by rw [hr]; simp)
    clear hr
    gi_wp2_with (fail)
    exact ⟨_, (HB6.out.set ⟨[], 0, 0⟩ 0 60).results rfl rfl rfl rfl, by rw [HE.out], (HB6.out.set ⟨[], 0, 0⟩ 0 60).bl⟩
  | true =>
    by_cases hlen : (n2 : Int) = T
    · have t1 : ((n2 : Int) != T) = false := by rw [hlen]; simp
      have HC : Hid (rightL l = true ∧ (n2 : Int) = layN l) := ⟨hr, by rw [hlen, HT.out, layT_right hr]⟩
      clear hr hlen u0 u1 u2 g0 g1 g2 up0 upf ue0 uef
      gi_wp2_with (fail)
      refine ⟨trivial, callsIn_wide.2 ((places_any _ _ _ _).mono ?_)⟩
      rintro e W0 ⟨rfl, hW0⟩
      have hb0 : Below w6.heap.size w6 W0 := by rw [hW0]; exact B1 _ _
      have yB : W0.heap[w6.heap.size]? = some (.cells #[.slice A n c] 22 (0, 0)) := by rw [hW0]; exact heap_alloc_new _ _
      have HB0 := hid (HB6.out.on hb0)
      have hit := places_iter (w := W0) yB (H.out.below HB0.out.bl) HS.out (by have := HB0.out.az; omega)
      clear hW0 hb0 yB
      gi_wp2_with (fail)
      obtain ⟨I, HI1⟩ : ∃ I : Nat → World → Prop, Hid (I = fun k W => SeekB w W nm ⟨[], 0, 0⟩ 0 0 ∧ ∀ m, m < k → ∀ f, l[m]? = some f → f.nm ≠ nm) := ⟨_, hid rfl⟩
      obtain ⟨Ix, HI2⟩ : ∃ Ix : Code → Nat → World → Prop, Hid (Ix = fun c k W => (c = .ret ∧ ∃ f p, (plcL l)[k]? = some (f, p) ∧ f.nm = nm ∧ (∀ m, m < k → ∀ f, l[m]? = some f → f.nm ≠ nm) ∧ SeekB w W nm f p 0)) := ⟨_, hid rfl⟩
      refine range_any (gf := 51) (lb := #[.pointer (some ⟨w6.heap.size, 0, none⟩)]) rfl (enters_of Try.func51 (by kernel_rfl) rfl)
        hit (fun h k => KeepF.trans h k) (fun W l o o' hl h hc => KeepF.put (by have := HB0.out.az; omega) W l o o' hl h hc) (fun _ => rfl) I Ix
        (by
          rw [HI1.out]
          rintro s A C row ⟨hs, hn⟩ hg hr
          exact ⟨hs.keep hg (fun r e => ⟨by have := (hr r e).1; have := HB0.out.az; omega, (hr r e).2⟩), hn⟩)
        (by
          rw [HI2.out]
          rintro c s A C row ⟨hc, f, p, h1, h2, h3, h4⟩ hg hr
          exact ⟨hc, f, p, h1, h2, h3, h4.keep hg (fun r e => ⟨by have := (hr r e).1; have := HB0.out.az; omega, (hr r e).2⟩)⟩)
        (by rw [HI1.out]; exact ⟨HB0.out, fun m hm => absurd hm (by omega)⟩) ?_ ?_ ?_
      · rintro ll k x W1 hki hi1 hll hll2
        obtain ⟨f, P⟩ := x
        have HKI := hid hki
        obtain ⟨hrt, hfk, hpk, hPe⟩ := plcL_at hki
        dsimp only at hfk hpk hPe
        have HFK := hid hfk
        clear hrt hfk hpk hPe hki
        have hi1' := hi1
        rw [HI1.out] at hi1'
        obtain ⟨hst1, hno1⟩ := hi1'
        dsimp only [fv]
        have HNO := hid hno1
        clear hno1
        gi_wp2_with (fail)
        refine ⟨kf_below (B1 _ _), KeepF.below (B1 _ _) (by have := hst1.az; omega), by rw [HI1.out]; exact ⟨hst1.on (B1 _ _), HNO.out⟩, ?_⟩
        rintro W2 hg2 hi2
        rw [HI1.out] at hi2
        obtain ⟨hst, -⟩ := hi2
        have hfb : FB W2 W1.heap.size (bs f.nm) f.k f.g := (hg2.block _ (by simp) (by simp; omega)).trans (heap_alloc_new W1 _)
        obtain ⟨q, hq⟩ : ∃ q, q = W1.heap.size := ⟨_, rfl⟩
        rw [← hq] at hfb ⊢
        clear hq
        obtain ⟨e0, e1, e2⟩ := hfb.cells
        have HST := hid hst
        have cn0 : W2.cell? ⟨w.heap.size, 0, none⟩ = some (.string (bs nm)) := by rw [row_cell hst.cn]; rfl
        obtain ⟨u0, u1, u2⟩ := hst.cf.cells
        have g0 := hst.cf.frozen 0; have g1 := hst.cf.frozen 1; have g2 := hst.cf.frozen 2
        have up0 : W2.cell? ⟨w.heap.size + 2, 0, none⟩ = some (.int .i64 0) := by rw [row_cell hst.cp]; rfl
        have upf := row_frozen hst.cp 0
        have ue0 : W2.cell? ⟨w.heap.size + 3, 0, none⟩ = some (.int .i64 0) := by rw [row_cell hst.ce]; rfl
        have uef := row_frozen hst.ce 0
        clear hst hfb hg2 hi1 hst1 hit
        by_cases he : f.nm = nm
        · have t2 : (f.nm == nm) = true := by simpa using he
          have t3 : decide (f.nm = nm) = true := by simpa using he
          have HEQ := hid he
          clear he
          gi_wp2_with (fail)
          refine ⟨((((KeepsOthers.setCell _ _ _).from _).trans ((KeepsOthers.setCell _ _ _).from _)).trans ((KeepsOthers.setCell _ _ _).from _)).trans (((KeepsOthers.setCell _ _ _).from _).trans ((KeepsOthers.setCell _ _ _).from _)), ?_⟩
          rw [HI2.out]
          exact ⟨rfl, f, P, HKI.out, HEQ.out, HNO.out, HST.out.set f P 0⟩
        · have t2 : (f.nm == nm) = false := by rw [beq_eq_false_iff_ne]; exact he
          have t3 : decide (f.nm = nm) = false := by simpa using he
          have HEQ := hid he
          clear he u0 u1 u2 g0 g1 g2 up0 upf ue0 uef
          gi_wp2_with (fail)
          refine ⟨KeepsFrom.refl _ _, KeepF.refl _ _, ?_⟩
          rw [HI1.out]
          exact ⟨HST.out, fun m hm f' hf' => by
            by_cases e : m = k
            · subst e; rw [HFK.out] at hf'; cases hf'; exact HEQ.out
            · exact HNO.out m (by omega) f' hf'⟩
      · rintro D W1 hD hi1 hdf
        rw [HI1.out] at hi1
        obtain ⟨hst, hno⟩ := hi1
        have HE : Hid (seekO n2 l nm = (⟨[], 0, 0⟩, 0, 61)) := seek_none HC.out (findN_no fun f hf => by
          obtain ⟨i, hi⟩ := List.mem_iff_getElem?.1 hf
          refine hno i ?_ f hi
          rw [plcL_length HC.out.1]
          by_cases cc : i < l.length
          · exact cc
          · rw [List.getElem?_eq_none (by omega)] at hi; cases hi)
        have HST := hid hst
        obtain ⟨u0, u1, u2⟩ := hst.cf.cells
        have g0 := hst.cf.frozen 0; have g1 := hst.cf.frozen 1; have g2 := hst.cf.frozen 2
        have up0 : W1.cell? ⟨w.heap.size + 2, 0, none⟩ = some (.int .i64 0) := by rw [row_cell hst.cp]; rfl
        have upf := row_frozen hst.cp 0
        have ue0 : W1.cell? ⟨w.heap.size + 3, 0, none⟩ = some (.int .i64 0) := by rw [row_cell hst.ce]; rfl
        have uef := row_frozen hst.ce 0
        have HDF := hid hdf
        have HS2 := hid (hst.set ⟨[], 0, 0⟩ 0 61)
        have hDD : w.heap.size + 4 ≤ D := by have := HB0.out.az; omega
        clear hst hno hdf hit
        gi_wp2_with (fail)
        have hdf3 := ((((((KeepsOthers.setCell W1 ⟨w.heap.size + 1, 0, none⟩ (.string (bs []))).from 0).trans ((KeepsOthers.setCell _ ⟨w.heap.size + 1, 1, none⟩ (.int .i64 0)).from 0)).trans ((KeepsOthers.setCell _ ⟨w.heap.size + 1, 2, none⟩ (.int .i64 0)).from _)).trans (((KeepsOthers.setCell _ ⟨w.heap.size + 2, 0, none⟩ (.int .i64 0)).from _).trans ((KeepsOthers.setCell _ ⟨w.heap.size + 3, 0, none⟩ (.int .i64 61)).from _)))).same D _ (Nat.zero_le _) HDF.out rfl
        refine ⟨by simp, .inl ⟨_, _, rfl, run_takeDeferred hdf3, ?_⟩⟩
        have HK := HS2.out.keep (grownBy_putObj' _ D (.deferred none)) (fun r e => by cases e; exact ⟨by omega, _, hdf3, rfl⟩)
        exact ⟨_, HK.results rfl rfl rfl rfl, by rw [HE.out], HK.bl⟩
      · rintro D c k W1 hD hk hx1 hdf
        rw [HI2.out] at hx1
        obtain ⟨rfl, f, P, hki, hnm, hno, hst⟩ := hx1
        obtain ⟨hrt, hfk, hpk, hPe⟩ := plcL_at hki
        have HE : Hid (seekO n2 l nm = (f, P, 0)) := seek_some HC.out (findN_some hfk hnm hno) hfk hpk
        have HST := hid hst
        have HDF := hid hdf
        have hDD : w.heap.size + 4 ≤ D := by have := HB0.out.az; omega
        clear hki hrt hfk hpk hPe hno hst hit hdf hnm
        gi_wp2_with (fail)
        refine ⟨by simp, .inl ⟨_, _, rfl, run_takeDeferred HDF.out, ?_⟩⟩
        have HK := HST.out.keep (grownBy_putObj' _ D (.deferred none)) (fun r e => by cases e; exact ⟨by omega, _, HDF.out, rfl⟩)
        exact ⟨_, HK.results rfl rfl rfl rfl, by rw [HE.out], HK.bl⟩
    · have t1 : ((n2 : Int) != T) = true := by simpa using hlen
      have HE : Hid (seekO n2 l nm = (⟨[], 0, 0⟩, 0, 60)) := seek_form (fun h => hlen (by rw [h.2, HT.out, layT_right hr]))
      clear hr hlen
      gi_wp2_with (fail)
      exact ⟨_, (HB6.out.set ⟨[], 0, 0⟩ 0 60).results rfl rfl rfl rfl, by rw [HE.out], (HB6.out.set ⟨[], 0, 0⟩ 0 60).bl⟩
end Go.Proofs.Ytggfcbncjkpkgaa

namespace Go.Proofs.Ytggfcbncjkpkgaa
open Go.RowKit
set_option linter.unusedVariables false

/-- The bytes of a value. -/
def encB (vk n : Int) (t : ByteArray) (k g : Int) : List UInt8 := (encT vk n t k g).data.toList
theorem encB_eq (vk n : Int) (t : ByteArray) (k g : Int) : encT vk n t k g = bs (encB vk n t k g) := by
  unfold encB bs; simp
theorem encB_length {vk n : Int} {t : ByteArray} {k g : Int} (h : rightF vk n t.size k g = true) : ((encB vk n t k g).length : Int) = longF k g := by
  have hm : mayF k g = true := by
    have h1 := h
    unfold rightF at h1
    simp only [Bool.and_eq_true] at h1
    exact h1.1.1
  unfold encB encT
  rw [if_pos h]
  unfold encL
  by_cases h12 : k = 12
  · subst h12
    rw [if_pos rfl]
    have hl : longF 12 g = g := by unfold longF; rw [hm]; rfl
    have h2 : (t.size : Int) = g := by
      unfold rightF at h
      simp only [Bool.and_eq_true, if_true, decide_eq_true_eq] at h
      exact h.2.2
    rw [hl, ← h2]
    rfl
  · rw [if_neg h12]
    have h8 := longF_le8 g h12
    have h0 := longF_nonneg k g
    show ((((le n 8).take (longF k g).toNat).length : Nat) : Int) = _
    rw [List.length_take, le_length]; omega

/-- What a field's setting makes of an object's bytes; and its error. -/
def setS6 (s : List UInt8) (l : List Fd) (nm : List UInt8) (vk n : Int) (t : ByteArray) : List UInt8 × Int :=
  if rightL l = true ∧ (s.length : Int) = layN l then
    match findN l nm with
    | none => ([], 61)
    | some i => match l[i]?, (layP 0 l)[i]? with
      | some f, some p => if rightF vk n t.size f.k f.g then (setL s p.toNat (encB vk n t f.k f.g), 0) else ([], 50)
      | _, _ => ([], 0)
  else ([], 60)
section
variable {s : List UInt8} {l : List Fd} {nm : List UInt8} {vk n : Int} {t : ByteArray}
theorem set_form (h : ¬ (rightL l = true ∧ (s.length : Int) = layN l)) : setS6 s l nm vk n t = ([], 60) := by unfold setS6; rw [if_neg h]
theorem set_none (h : rightL l = true ∧ (s.length : Int) = layN l) (hf : findN l nm = none) : setS6 s l nm vk n t = ([], 61) := by unfold setS6; rw [if_pos h, hf]
theorem set_some (h : rightL l = true ∧ (s.length : Int) = layN l) {i : Nat} {f : Fd} {p : Int} (hf : findN l nm = some i) (hi : l[i]? = some f) (hp : (layP 0 l)[i]? = some p) : setS6 s l nm vk n t = if rightF vk n t.size f.k f.g then (setL s p.toNat (encB vk n t f.k f.g), 0) else ([], 50) := by
  unfold setS6; rw [if_pos h, hf]; simp only [hi, hp]
end
def SetQ (w : World) (r : List UInt8 × Int) (e : Ending) (w' : World) : Prop := e = .returned (.tuple #[.string (bs r.1), .int .i64 r.2]) ∧ Below w.heap.size w w'

set_option maxRecDepth 20000 in
set_option maxHeartbeats 4000000 in
theorem r6set_any {w : World} {A : Option Addr} {m c : Nat} {l : List Fd} (h : RdF w w.heap.size A m c l) (hs : short l) (s : List UInt8) (hsl : s.length ≤ 100000) (nm : List UInt8) (vk n : Int) (t : ByteArray) (hn : U64 n) :
    Calls Try.prog 28 #[.string (bs s), .slice A m c, .string (bs nm), .agg #[.int .i64 vk, .int .u64 n, .string t]] w (SetQ w (setS6 s l nm vk n t)) := by
  have HL := hid h.1
  have H := hid h; have HS := hid hs; have HN := hid hn; clear h hs hn
  have hsi : (s.length : Int) ≤ 100000 := by omega
  obtain ⟨w0, hw0⟩ : ∃ w0, w0 = w.alloc (.cells #[.int .i64 vk, .int .u64 n, .string t] 37) := ⟨_, rfl⟩
  have HW0 := hid hw0
  have HB0 : Hid (Below w.heap.size w w0) := by rw [hw0]; exact B1 _ _
  obtain ⟨bx, hbx⟩ : ∃ bx, bx = w.heap.size := ⟨_, rfl⟩
  have HBX := hid hbx
  have HV0 : Hid (VB w0 bx vk n t) := by rw [hw0, hbx]; exact vb_new w vk n t
  clear hw0 hbx
  obtain ⟨R, hR⟩ : ∃ R, R = setS6 s l nm vk n t := ⟨_, rfl⟩
  rw [← hR]
  have HRR := hid hR; clear hR
  go_enter Try.func28, Try.ntmps28
  go_wp2_with fail
  rw [← HW0.out, ← HBX.out]
  refine (r6layout_any (H.out.on HB0.out) HS.out).mono ?_
  rintro e w1 ⟨v1, rfl, ho1, hb1⟩
  obtain ⟨A1, c1, rfl, hr1⟩ := ho1.rd lay_I64
  obtain ⟨M, hM⟩ : ∃ M, M = (layL l).length := ⟨_, rfl⟩
  rw [← hM] at hr1 ⊢
  have HR1 := hid hr1; have HM := hid hM; have HB1 := hid hb1
  have HBW1 := hid (Bt HB0.out hb1)
  have HV1 := hid (HV0.out.on hb1)
  obtain ⟨T, hT⟩ : ∃ T, T = layT l := ⟨_, rfl⟩
  have hTb := layT_bd l
  rw [← hT] at hTb ⊢
  have HT := hid hT
  clear ho1 hr1 hM hb1 hT
  go_wp2_with fail
  refine (r6right_any (H.out.on HBW1.out) HS.out).mono ?_
  rintro e w2 ⟨rfl, hb2⟩
  have HBW2 := hid (Bt HBW1.out hb2)
  have HV2 := hid (HV1.out.on hb2); have HR2 := hid (HR1.out.on hb2)
  clear hb2
  cases hr : rightL l with
  | false =>
    have HE : Hid (R = ([], 60)) := by rw [HRR.out]; exact set_form (by rw [hr]; simp)
    clear hr
    go_wp2_with fail
    go_ret2
    exact ⟨by rw [HE.out]; rfl, HBW2.out⟩
  | true =>
    have HR := hid hr
    by_cases hlen : (s.length : Int) = T
    · have t1 : ((s.length : Int) != T) = false := by rw [hlen]; simp
      have HC : Hid (rightL l = true ∧ (s.length : Int) = layN l) := ⟨hr, by rw [hlen, HT.out, layT_right hr]⟩
      clear hr hlen
      go_wp2_with fail
      refine (r6find_any (H.out.on HBW2.out) nm).mono ?_
      rintro e w3 ⟨rfl, hb3⟩
      have HBW3 := hid (Bt HBW2.out hb3)
      have HV3 := hid (HV2.out.on hb3); have HR3 := hid (HR2.out.on hb3)
      clear hb3
      cases hf : findN l nm with
      | none =>
        rw [findI_none hf]
        have HE : Hid (R = ([], 61)) := by rw [HRR.out]; exact set_none HC.out hf
        clear hf
        go_wp2_with fail
        go_ret2
        exact ⟨by rw [HE.out]; rfl, HBW3.out⟩
      | some i =>
        rw [findI_some hf]
        obtain ⟨f, hi, hnm9, hfst⟩ := findN_get hf
        clear hnm9 hfst
        obtain ⟨hin, hk64, hg64, hnl, b, off, rfl, hcf⟩ := H.out.at hi
        clear hk64 hg64 hnl
        obtain ⟨p, hp⟩ : ∃ p, (layP 0 l)[i]? = some p := ⟨_, layP_get hi 0⟩
        have hbd := lay_in HC.out.1 hi hp
        have hlp := long_pos (right_may HC.out.1 f (List.mem_of_getElem? hi))
        have HE0 : Hid (R = if rightF vk n t.size f.k f.g then (setL s p.toNat (encB vk n t f.k f.g), 0) else ([], 50)) := by rw [HRR.out]; exact set_some HC.out hf hi hp
        have hiM : i < M := by rw [HM.out, layL_right HC.out.1, layP_length, HL.out]; exact hin
        obtain ⟨b2, off2, rfl, hbl2, hc2⟩ := HR3.out.2.2.2.2 (by omega)
        have hiL : i < (layL l).length := by rw [← HM.out]; exact hiM
        have hcp := hc2 i hiL
        have hpe : (layL l)[i] = p := by
          have : (layL l)[i]? = some p := by rw [layL_right HC.out.1]; exact hp
          rw [List.getElem?_eq_getElem hiL] at this; cases this; rfl
        rw [hpe] at hcp
        obtain ⟨pn, hpn⟩ : ∃ pn : Nat, p = (pn : Int) := ⟨p.toNat, by omega⟩
        rw [hpn] at hcp HE0
        simp only [Int.toNat_natCast] at HE0
        have HCF := hid hcf; have HCPb := hid hcp; have HBL2 := hid hbl2
        have HEND : Hid (rightF vk n t.size f.k f.g = true → pn + (encB vk n t f.k f.g).length ≤ s.length) := fun h => by
          have h1 := encB_length h
          have h2 := HC.out.2
          have h3 : f.long = longF f.k f.g := rfl
          omega
        have hii : (i : Int) < m := by omega
        have hiMi : (i : Int) < M := by omega
        have hi0 : (0 : Int) ≤ i := by omega
        have hineg : decide ((i : Int) < 0) = false := decide_eq_false (by omega)
        clear hcf hcp hc2 hpe hp hi hf hbd hlp hpn HC hbl2
        obtain ⟨E, hE⟩ : ∃ E, E = encB vk n t f.k f.g := ⟨_, rfl⟩
        rw [← hE] at HE0 HEND
        have HEE : Hid (encT vk n t f.k f.g = bs E) := by rw [hE]; exact encB_eq _ _ _ _ _
        clear hE
        go_wp2_with fail
        refine reg_begin (by kernel_rfl) (fun w0a hx0a hHeld => ?_)
        have pf : ∀ w', Ext w0a w' → FdC w' b (off + i * 3) f := fun w' h => HCF.out w' (Bt HBW3.out (hx0a.trans h))
        have pf0 := fun w' h => (pf w' h).1
        have pf1 := fun w' h => (pf w' h).2.1
        have pf2 := fun w' h => (pf w' h).2.2
        have pv0 : ∀ w', Ext w0a w' → w'.cell? ⟨bx, 0, none⟩ = some (.int .i64 vk) := fun w' h => ((HV3.out.on (hx0a.trans h)).cells).1
        have pv1 : ∀ w', Ext w0a w' → w'.cell? ⟨bx, 1, none⟩ = some (.int .u64 n) := fun w' h => ((HV3.out.on (hx0a.trans h)).cells).2.1
        have pv2 : ∀ w', Ext w0a w' → w'.cell? ⟨bx, 2, none⟩ = some (.string t) := fun w' h => ((HV3.out.on (hx0a.trans h)).cells).2.2
        clear pf
        refine reg_take 0 (v := ?vb0) at0 (by kernel_rfl) (by kernel_rfl) (by kernel_rfl) (by rfl) ?hyb0 hHeld ?restb0
        case hyb0 => (intro w' hSw; go_simp; try with_reducible rfl)
        try simp only [Act.put, List.setIfInBounds_toArray, List.set_cons_zero, List.set_cons_succ]
        refine reg_take 1 (v := ?vb1) (atS at0) (by kernel_rfl) (by kernel_rfl) (by kernel_rfl) (by rfl) ?hyb1 hHeld ?restb1
        case hyb1 => (intro w' hSw; go_simp; try with_reducible rfl)
        try simp only [Act.put, List.setIfInBounds_toArray, List.set_cons_zero, List.set_cons_succ]
        refine reg_take 2 (v := ?vb2) (atS (atS at0)) (by kernel_rfl) (by kernel_rfl) (by kernel_rfl) (by rfl) ?hyb2 hHeld ?restb2
        case hyb2 => (intro w' hSw; go_simp; try with_reducible rfl)
        try simp only [Act.put, List.setIfInBounds_toArray, List.set_cons_zero, List.set_cons_succ]
        refine reg_take 3 (v := ?vb3) (atS (atS (atS at0))) (by kernel_rfl) (by kernel_rfl) (by kernel_rfl) (by rfl) ?hyb3 hHeld ?restb3
        case hyb3 => (intro w' hSw; go_simp; try with_reducible rfl)
        try simp only [Act.put, List.setIfInBounds_toArray, List.set_cons_zero, List.set_cons_succ]
        refine reg_take 4 (v := ?vb4) (atS (atS (atS (atS at0)))) (by kernel_rfl) (by kernel_rfl) (by kernel_rfl) (by rfl) ?hyb4 hHeld ?restb4
        case hyb4 => (intro w' hSw; go_simp; try with_reducible rfl)
        try simp only [Act.put, List.setIfInBounds_toArray, List.set_cons_zero, List.set_cons_succ]
        refine wpAnyH_ready (rs := [5]) (by kernel_rfl) (by simp) ?_
        refine AllReadyH.cons (atS5 at0) (fun K hK => ?_) AllReadyH.nil
        go_simp
        refine (rencode_any vk n t (bs f.nm) f.k f.g _ HN.out).mono ?_
        rintro e w4 ⟨rfl, hb4⟩
        rw [HEE.out]
        have HB4 := hid hb4
        go_wp2_with fail
        refine hK.out _ _ HB4.out (fun hHeld => ?_)
        clear hK K
        try simp only [Act.put, List.setIfInBounds_toArray, List.set_cons_zero, List.set_cons_succ]
        refine reg_on HB4.out (fun hHeld => ?_)
        refine reg_take 6 (v := ?vb6) (atS5 (atS at0)) (by kernel_rfl) (by kernel_rfl) (by kernel_rfl) (by rfl) ?hyb6 hHeld ?restb6
        case hyb6 => (intro w' hSw; go_simp; try with_reducible rfl)
        try simp only [Act.put, List.setIfInBounds_toArray, List.set_cons_zero, List.set_cons_succ]
        refine reg_take 7 (v := ?vb7) (atS5 (atS (atS at0))) (by kernel_rfl) (by kernel_rfl) (by kernel_rfl) (by rfl) ?hyb7 hHeld ?restb7
        case hyb7 => (intro w' hSw; go_simp; try with_reducible rfl)
        try simp only [Act.put, List.setIfInBounds_toArray, List.set_cons_zero, List.set_cons_succ]
        refine reg_take 8 (v := ?vb8) (atS5 (atS (atS (atS at0)))) (by kernel_rfl) (by kernel_rfl) (by kernel_rfl) (by rfl) ?hyb8 hHeld ?restb8
        case hyb8 => (intro w' hSw; go_simp; try with_reducible rfl)
        try simp only [Act.put, List.setIfInBounds_toArray, List.set_cons_zero, List.set_cons_succ]
        refine reg_take 9 (v := ?vb9) (atS5 (atS (atS (atS (atS at0))))) (by kernel_rfl) (by kernel_rfl) (by kernel_rfl) (by rfl) ?hyb9 hHeld ?restb9
        case hyb9 => (intro w' hSw; go_simp; try with_reducible rfl)
        try simp only [Act.put, List.setIfInBounds_toArray, List.set_cons_zero, List.set_cons_succ]
        refine reg_take 10 (v := ?vb10) (atS5 (atS5 at0)) (by kernel_rfl) (by kernel_rfl) (by kernel_rfl) (by rfl) ?hyb10 hHeld ?restb10
        case hyb10 => (intro w' hSw; go_simp; try with_reducible rfl)
        try simp only [Act.put, List.setIfInBounds_toArray, List.set_cons_zero, List.set_cons_succ]
        refine wpAnyH_done (by kernel_rfl) ?_ _
        refine NoPanic.normal ?_
        clear pf0 pf1 pf2 pv0 pv1 pv2
        have HBW4 := hid (Bt HBW3.out (Bt hx0a HB4.out))
        cases hrf : rightF vk n t.size f.k f.g with
        | false =>
          have hee : encE vk n t f.k f.g = 50 := by simp [encE, hrf]
          have HE : Hid (R = ([], 50)) := by rw [HE0.out, hrf]; rfl
          rw [hee]
          clear hrf hee
          go_wp2_with fail
          go_ret2
          exact ⟨by rw [HE.out]; rfl, HBW4.out⟩
        | true =>
          have hee : encE vk n t f.k f.g = 0 := by simp [encE, hrf]
          have HE : Hid (R = (setL s pn E, 0)) := by rw [HE0.out, hrf]; rfl
          have hend := HEND.out hrf
          rw [hee]
          clear hrf hee
          have HB34 : Hid (Below w3.heap.size w3 w4) := Bt hx0a HB4.out
          have pp := (HB34.out.cell (p := ⟨b2, off2 + i, none⟩) HBL2.out).trans HCPb.out
          have hxe1 : (⟨s.toArray⟩ : ByteArray).extract 0 pn = ⟨(s.take pn).toArray⟩ := by rw [ext_at]; simp
          have hxe2 : (⟨s.toArray⟩ : ByteArray).extract (pn + E.length) s.length = ⟨(s.drop (pn + E.length)).toArray⟩ := by rw [ext_at]; simp
          have q1 : IntKind.i64.wrap ((pn : Int) + (E.length : Int)) = (pn : Int) + (E.length : Int) := by rw [IntKind.wrap_i64]; omega
          have tn : ((pn : Int) + (E.length : Int)).toNat = pn + E.length := by omega
          have s0 : 0 ≤ (pn : Int) + (E.length : Int) := by omega
          have s1 : (pn : Int) + (E.length : Int) ≤ (s.length : Int) := by omega
          have s2 : pn + E.length ≤ s.length := hend
          have s3 : (pn : Int) ≤ (s.length : Int) := by omega
          have s4 : pn ≤ s.length := by omega
          go_wp2_with fail
          go_region
          go_wp2_with fail
          go_ret2
          refine ⟨?_, Bd HBW4.out 1⟩
          rw [HE.out]
          show Ending.returned (.tuple #[.string (⟨(s.take pn).toArray⟩ ++ ⟨E.toArray⟩ ++ ⟨(s.drop (pn + E.length)).toArray⟩), .int .i64 0]) = _
          rw [ByteArray.mk_append_mk, ByteArray.mk_append_mk]
          show _ = Ending.returned (.tuple #[.string ⟨(s.take pn ++ (E ++ s.drop (pn + E.length))).toArray⟩, .int .i64 0])
          simp
    · have t1 : ((s.length : Int) != T) = true := by simpa using hlen
      have HE : Hid (R = ([], 60)) := by rw [HRR.out]; exact set_form (fun h => hlen (by rw [h.2, HT.out, layT_right hr]))
      clear hr hlen
      go_wp2_with fail
      go_ret2
      exact ⟨by rw [HE.out]; rfl, HBW2.out⟩
end Go.Proofs.Ytggfcbncjkpkgaa
