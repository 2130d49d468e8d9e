/-
  slices.Equal of fields; the program's Same of layer 7.
  Changes of layer 8: mathematics.
  The document's all of layer 8; changes in memory.
  A change in memory; a table whose fields and moves a loop makes.
-/
import Derived.Test.YtjodbopnibdolaaM17
import Derived.Test.YtjodbopnibdolaaM11
import Derived.Test.YtjodbopnibdolaaM13

namespace Go.Proofs.Ytjodbopnibdolaa
open Go.RowKit
set_option linter.unusedVariables false
set_option linter.unusedSimpArgs false

set_option maxHeartbeats 2000000 in
theorem fequal_any {w : World} {A A2 : Option Addr} {n n2 c c2 : Nat} {l l2 : List Fd} (h : RdF w w.heap.size A n c l) (h2 : RdF w w.heap.size A2 n2 c2 l2) :
    Calls Try.prog 51 #[.slice A n c, .slice A2 n2 c2] w fun e w' => e = .returned (.bool (decide (l = l2))) ∧ Below w.heap.size w w' := by
  have HL := hid h.1; have HL2 := hid h2.1
  have hnm : (n : Int) ≤ 9223372036854775807 := by have := Nat.le_trans h.2.1 h.2.2.1; unfold maxLen at this; omega
  have H := hid h; have H2 := hid h2; clear h h2
  by_cases hne : n = n2
  · subst hne
    go_enter Try.func51, Try.ntmps51
    go_wp2_with fail
    go_loopw [13] (fun i wr => ∃ j : Nat, j ≤ n ∧ i = .int .i64 j ∧ Hid (∀ m, m < j → l[m]? = l2[m]?) ∧ Hid (Below w.heap.size w wr)) (fun i _ => n - (intOf i).toNat)
    case atStart => exact ⟨0, by omega, rfl, hid (fun m hm => absurd hm (by omega)), B0 w⟩
    case round =>
      obtain ⟨j, hj, rfl, HA, hb⟩ := hrel
      by_cases hlt : j < n
      · have hjl : j < l.length := by have := HL.out; omega
        obtain ⟨f, hf⟩ : ∃ f, l[j]? = some f := ⟨_, List.getElem?_eq_getElem hjl⟩
        obtain ⟨g, hg⟩ : ∃ g, l2[j]? = some g := ⟨_, List.getElem?_eq_getElem (by have := HL2.out; omega)⟩
        obtain ⟨_, hk64, hg64, hnl, b, off, rfl, hc⟩ := H.out.at hf
        obtain ⟨_, _, _, _, b2, off2, rfl, hc2⟩ := H2.out.at hg
        obtain ⟨c0, cc1, cc2⟩ := hc wr hb.out
        obtain ⟨d0, dd1, dd2⟩ := hc2 wr hb.out
        have hji : (j : Int) < n := by omega
        have hj0 : (0 : Int) ≤ j := by omega
        have HFG := hid (And.intro hf hg)
        clear hc hc2 hjl hf hk64 hg64 hnl hg
        by_cases hfg : f = g
        · subst hfg
          go_wp2_with fail
          go_quiet (fail)
          go_wp2_with fail
          exact ⟨⟨j + 1, by omega, by go_num, hid (fun m hm => by
            by_cases e : m = j
            · subst e; rw [HFG.out.1, HFG.out.2]
            · exact HA.out m (by omega)), Bd hb.out nq⟩, by simp [intOf]; omega⟩
        · have HE : Hid (decide (l = l2) = false) := hid (decide_eq_false (fun e => hfg (by have := HFG.out; rw [e] at this; exact Option.some.inj (this.1.symm.trans this.2))))
          have HFN := hid hfg
          clear hfg
          by_cases e1 : f.nm = g.nm
          · by_cases e2 : f.k = g.k
            · have e3 : ¬ f.g = g.g := fun e3 => HFN.out (by cases f; cases g; simp_all)
              have t3 : (f.g == g.g) = false := by simpa using e3
              have t2 : (f.k == g.k) = true := by simpa using e2
              go_wp2_with fail
              go_quiet (fail)
              go_wp2_with fail
              go_ret
              exact ⟨by rw [HE.out]; rfl, Bd hb.out nq⟩
            · have t2 : (f.k == g.k) = false := by simpa using e2
              go_wp2_with fail
              go_quiet (fail)
              go_wp2_with fail
              go_ret
              exact ⟨by rw [HE.out]; rfl, Bd hb.out nq⟩
          · go_wp2_with fail
            go_quiet (fail)
            go_wp2_with fail
            go_ret
            exact ⟨by rw [HE.out]; rfl, Bd hb.out nq⟩
      · obtain rfl : j = n := by omega
        have HE : Hid (decide (l = l2) = true) := hid (decide_eq_true (List.ext_getElem? (fun m => by
          by_cases c : m < j
          · exact HA.out m c
          · rw [List.getElem?_eq_none (by have := HL.out; omega), List.getElem?_eq_none (by have := HL2.out; omega)])))
        go_wp2_with fail
        go_ret
        exact ⟨by rw [HE.out]; rfl, hb.out⟩
  · have hni : ¬ (n : Int) = n2 := by omega
    have HE : Hid (decide (l = l2) = false) := hid (decide_eq_false (fun e => hne (by rw [← HL.out, ← HL2.out, e])))
    go_enter Try.func51, Try.ntmps51
    go_wp2_with fail
    go_ret
    exact ⟨by rw [HE.out]; rfl, B0 w⟩

theorem ret_TBp {fn : Func} {p : Tmp} (hf : fn.results = #[.cell p 36]) {R : Ending → World → Prop} {a : Act} {w : World} {b : Nat} {v1 v2 v3 : Value} (hp : a.tmps.getD p undef = .pointer (some ⟨b, 0, none⟩)) (hv : TBx w b v1 v2 v3 36)
    (hd : a.defers = []) (hR : R (.returned (.agg #[v1, v2, v3])) w) : bodyPost Try.prog fn R .ret a w :=
  bodyPost_ret_by (results_cell_row hf a.tmps w b 36 _ (0, 0) _ hp hv Try.underlying36 rfl (by kernel_rfl)) hd hR
theorem run_loadTBp {w : World} {b : Nat} {v1 v2 v3 : Value} (h : TBx w b v1 v2 v3 36) : (loadVar 36 ⟨b, 0, none⟩).run Try.prog w = .ok (.agg #[v1, v2, v3]) w :=
  run_loadVar_row w b 36 36 #[v1, v2, v3] (0, 0) _ h Try.underlying36 rfl (by kernel_rfl)
theorem ret_TBpe {fn : Func} {p u : Tmp} (hf : fn.results = #[.cell p 36, .tmp u]) {R : Ending → World → Prop} {a : Act} {w : World} {b : Nat} {v1 v2 v3 x : Value} (hp : a.tmps.getD p undef = .pointer (some ⟨b, 0, none⟩)) (hv : TBx w b v1 v2 v3 36)
    (hx : a.tmps.getD u undef = x) (hd : a.defers = []) (hR : R (.returned (.tuple #[.agg #[v1, v2, v3], x])) w) : bodyPost Try.prog fn R .ret a w :=
  bodyPost_ret_by (by rw [results_cell_tmp hf, hp, hx]; simp [asAddr, Result.andThen, run_loadTBp hv]) hd hR

/-- A table that a call made: its three rows are the call's own, and the new fields' row lies behind the old ones'. -/
def OwT (w : World) (base : Nat) (v : Value) (T : Tb) : Prop := ∃ v1 v2 v3 B2, v = .agg #[v1, v2, v3] ∧ OwF w base v1 T.o ∧ OwF w B2 v2 T.nw ∧ OwM w base 62 v3 T.mv ∧ base ≤ B2 ∧ B2 ≤ w.heap.size ∧ ∀ r, v1.ownBlock = some r → r < B2
theorem OwT.rd {w : World} {base : Nat} {v : Value} {T : Tb} (h : OwT w base v T) (ho : ∀ f ∈ T.o, I64 f.k ∧ I64 f.g ∧ f.nm.length ≤ nmMax) (hn : ∀ f ∈ T.nw, I64 f.k ∧ I64 f.g ∧ f.nm.length ≤ nmMax) (hm : ∀ m ∈ T.mv, I64 m.fr ∧ I64 m.k ∧ U64 m.n) : RdT w w.heap.size v T := by
  obtain ⟨v1, v2, v3, B2, rfl, h1, h2, h3, _⟩ := h
  obtain ⟨A, c, rfl, r1⟩ := h1.rd ho
  obtain ⟨A2, c2, rfl, r2⟩ := h2.rd hn
  obtain ⟨A3, c3, rfl, r3⟩ := h3.rd hm
  exact ⟨_, _, _, _, _, _, _, _, _, rfl, r1, r2, r3⟩

set_option maxRecDepth 20000 in
set_option maxHeartbeats 8000000 in
theorem p7same_any {w : World} {A : Option Addr} {n c : Nat} {l : List Fd} (h : RdF w w.heap.size A n c l) (hs : short l) :
    Calls Try.prog 23 #[.slice A n c] w fun e w' => ∃ v, e = .returned v ∧ OwT w' w.heap.size v (sameT l) ∧ Below w.heap.size w w' := by
  have HL := hid h.1
  have H := hid h; have HS := hid hs; clear h hs
  obtain ⟨w0, hw0⟩ : ∃ w0, w0 = w.alloc (.cells #[.slice none 0 0, .slice none 0 0, .slice none 0 0] 36) := ⟨_, rfl⟩
  have HW0 := hid hw0
  have HB0 : Hid (Below w.heap.size w w0) := by rw [hw0]; exact B1 _ _
  obtain ⟨r, hr⟩ : ∃ r, r = w.heap.size := ⟨_, rfl⟩
  have HR := hid hr
  have HT0 : Hid (TBx w0 r (.slice none 0 0) (.slice none 0 0) (.slice none 0 0) 36) := by rw [hw0, hr]; exact tb_new w _ _ _ _
  clear hw0 hr
  go_enter Try.func23, Try.ntmps23
  go_wp2_with fail
  rw [← HW0.out, ← HR.out]
  refine (p6right_any (H.out.on HB0.out) HS.out).mono ?_
  rintro e w1 ⟨rfl, hb1⟩
  have HT1 := hid (HT0.out.on hb1)
  have HB1 := hid (Bt HB0.out hb1)
  have HLT : Hid (r < w1.heap.size) := hid HT1.out.lt
  have fz := HT1.out.frozen 0; have fz1 := HT1.out.frozen 1; have fz2 := HT1.out.frozen 2
  obtain ⟨c0, cc1, cc2⟩ := HT1.out.cells
  have hrs : w.heap.size ≤ r := Nat.le_of_eq HR.out.symm
  clear hb1
  cases hr : rightL l with
  | false =>
    have HE : Hid (sameT l = Tb.none) := sameT_wrong hr
    clear hr
    go_wp2_with fail
    refine ret_TBp (by rfl) (by rfl) (HT1.out.set3 _ _ _) (by rfl) ⟨_, rfl, ?_, B3 HB1.out hrs _ _ _⟩
    rw [HE.out]
    exact ⟨_, _, _, w.heap.size, rfl, OwF.nil _ _, OwF.nil _ _, OwM.nil _ _ _, Nat.le_refl _, by simp only [size_set]; exact HB1.out.size, fun r e => by simp [Value.ownBlock] at e⟩
  | true =>
    have HE : Hid (sameT l = ⟨l, l, selfL l.length⟩) := sameT_right hr
    have hn16 : n ≤ 16 := by have := right_len hr; have := HL.out; omega
    have hn16i : (n : Int) ≤ 16 := by omega
    clear hr c0 cc1 cc2 fz fz1 fz2
    go_wp2_with fail
    refine (fclone_any (H.out.on HB1.out) (by omega)).mono ?_
    rintro e w2 ⟨v1, rfl, ho1, hb2⟩
    obtain ⟨Av, nv, cv, rfl⟩ := ho1.shape
    have HO1 := hid ho1; have HB2 := hid hb2
    clear ho1 hb2
    go_wp2_with fail
    refine (fclone_any (H.out.on (Bt HB1.out HB2.out)) (by omega)).mono ?_
    rintro e w3 ⟨v2, rfl, ho2, hb3⟩
    obtain ⟨Ax, nx, cx, rfl⟩ := ho2.shape
    have HO12 : Hid (OwF w3 w1.heap.size (.slice Av nv cv) l) := hid (HO1.out.on hb3)
    have HO2 := hid ho2
    have HB3 : Hid (Below w1.heap.size w1 w3) := hid (Bt HB2.out hb3)
    have HAP : Hid (∀ r, (Value.slice Av nv cv).ownBlock = some r → r < w2.heap.size) := hid (fun x e1 => by
      obtain ⟨_, cs, hc⟩ := HO1.out.blk2 x e1
      exact row_lt hc)
    have HS23 : Hid (w2.heap.size ≤ w3.heap.size) := hid hb3.size
    clear ho2 hb3
    obtain ⟨w4, hw4⟩ : ∃ w4, w4 = w3.alloc (.cells #[.slice Av nv cv, .slice Ax nx cx, .slice none 0 0] 36) := ⟨_, rfl⟩
    obtain ⟨q, hq⟩ : ∃ q, q = w3.heap.size := ⟨_, rfl⟩
    have HMK : Hid (MkT w3 w4 q 36 62 (.slice Av nv cv) (.slice Ax nx cx) (.slice none 0 0) (q + 1) (selfL 0)) := by
      rw [hw4, hq]
      exact hid ⟨tb_new w3 _ _ _ _, OwM.nil _ _ _, B1 _ _, by omega, Nat.le_refl _, by simp⟩
    have HW4 := hid hw4; have HQ := hid hq
    have HT3 := hid (HT1.out.on HB3.out)
    clear hw4 hq
    go_upto_region 5 with fail
    rw [← HW4.out, ← HQ.out]
    go_loopw [16] (fun i wr => ∃ j : Nat, j ≤ n ∧ i = .int .i64 j ∧ Hid (∃ v, MkT w3 wr q 36 62 (.slice Av nv cv) (.slice Ax nx cx) v (q + 1) (selfL j))) (fun i _ => n - (intOf i).toNat)
    case atStart => exact ⟨0, by omega, rfl, hid ⟨_, HMK.out⟩⟩
    case round =>
      obtain ⟨j, hj, rfl, ⟨v, hm⟩⟩ := hrel
      have HM := hid hm
      obtain ⟨c0, cc1, cc2⟩ := hm.tb.cells
      by_cases hlt : j < n
      · have hji : (j : Int) < n := by omega
        have hj0 : (0 : Int) ≤ j := by omega
        obtain ⟨v', w5, hrun, hown, hgr⟩ := run_appMv Try.underlying34 infoMp hm.ow (selfM j) (by rw [selfL_length]; omega) hm.az 34
        have hmk := (hm.on (B1 _ (.cells #[.int .i64 (selfM j).fr, .int .i64 (selfM j).k, .int .u64 (selfM j).n, .string (selfM j).t] 62))).app hgr hown
        rw [← selfL_succ] at hmk
        have htb := (HM.out.on (B1 _ (.cells #[.int .i64 (selfM j).fr, .int .i64 (selfM j).k, .int .u64 (selfM j).n, .string (selfM j).t] 62))).tb.grown hgr (fun e => by have := (hm.ow.blk2 q e.symm).1; have := hm.qb; omega)
        have fz := htb.frozen 2
        have ct := htb.cells.2.2
        obtain ⟨A3, n3, c3, rfl⟩ := hown.shape
        have HRUN := hid hrun; have HMK2 := hid hmk
        clear hrun hown hgr hmk hm htb
        go_wp2_with (at_builtin; refine wpList_appG rfl _ _ rfl rfl rfl HRUN.out ?_)
        exact ⟨⟨j + 1, by omega, by go_num, hid ⟨_, HMK2.out⟩⟩, by simp [intOf]; omega⟩
      · obtain rfl : j = n := by omega
        have HTZ : Hid (TBx wr r (.slice none 0 0) (.slice none 0 0) (.slice none 0 0) 36) := hid (HT3.out.on hm.bl)
        have fz := HTZ.out.frozen 0; have fz1 := HTZ.out.frozen 1; have fz2 := HTZ.out.frozen 2
        obtain ⟨r0, r1, r2⟩ := HTZ.out.cells
        obtain ⟨A3, n3, c3, hv⟩ := hm.ow.shape
        subst hv
        clear hm
        go_wp2_with fail
        have hB : Below w.heap.size w wr := Bt HB1.out (HB3.out.trans (HM.out.bl.mono HB3.out.size))
        refine ret_TBp (by rfl) (by rfl) (HTZ.out.set3 _ _ _) (by rfl) ⟨_, rfl, ?_, B3 hB hrs _ _ _⟩
        rw [HE.out, HL.out]
        have hr1 : r < w1.heap.size := HLT.out
        have hr2 : r < w2.heap.size := Nat.lt_of_lt_of_le hr1 HB2.out.size
        have hr3 : r < q + 1 := by have := HQ.out; have := HB3.out.size; omega
        have hw1 : w.heap.size ≤ w1.heap.size := HB1.out.size
        have o1 := HO12.out.on HM.out.bl
        have o2 := HO2.out.on HM.out.bl
        exact ⟨_, _, _, w2.heap.size, rfl, (((o1.set hr1 0 _).set hr1 1 _).set hr1 2 _).less hw1, (((o2.set hr2 0 _).set hr2 1 _).set hr2 2 _),
          (((HM.out.ow.set hr3 0 _).set hr3 1 _).set hr3 2 _).less (by omega), Nat.le_trans hw1 HB2.out.size, by simp only [size_set]; exact Nat.le_trans HS23.out HM.out.bl.size, HAP.out⟩
end Go.Proofs.Ytjodbopnibdolaa

namespace Go.Proofs.Ytjodbopnibdolaa
open Go.RowKit
set_option linter.unusedVariables false

/-- A change: what it does, the field's name, the new field, the value, the order. -/
structure Ch where
  op : Int
  nm : List UInt8
  to : Fd
  dk : Int
  dn : Int
  dt : ByteArray
  od : List Int

/-- What becomes of the field of a number. -/
def ed (c : Ch) (k : Option Nat) (i : Nat) (f : Fd) : Fd :=
  if c.op = 3 ∧ k = some i then { f with nm := c.to.nm } else if c.op = 4 ∧ k = some i then { f with k := c.to.k, g := c.to.g } else f
def keepB (c : Ch) (k : Option Nat) (i : Nat) : Bool := !(decide (c.op = 2) && decide (k = some i))
def idxs (c : Ch) (k : Option Nat) (n : Nat) : List Nat := (List.range n).filter (keepB c k)
def newF (l : List Fd) (c : Ch) (k : Option Nat) (n : Nat) : List Fd := (idxs c k n).filterMap fun i => (l[i]?).map (ed c k i)
def mvF (c : Ch) (k : Option Nat) (n : Nat) : List Mv := (idxs c k n).map selfM
/-- Are they all numbers below n, each once? -/
def allB (od : List Int) (n : Nat) : Bool := decide (od.length = n) && (List.range n).all fun i => decide (od.count (i : Int) = 1)
def odF (l : List Fd) (od : List Int) : List Fd := od.filterMap fun i => fdAt l i
def odM (od : List Int) : List Mv := od.map fun i => ⟨i, 0, 0, ⟨#[]⟩⟩
/-- The new fields, and the moves, where nothing is amiss. -/
def newC (l : List Fd) (c : Ch) : List Fd := if c.op = 1 then newF l c (findN l c.nm) l.length ++ [c.to] else if c.op = 5 then odF l c.od else newF l c (findN l c.nm) l.length
def mvC (l : List Fd) (c : Ch) : List Mv := if c.op = 1 then mvF c (findN l c.nm) l.length ++ [⟨-1, c.dk, c.dn, c.dt⟩] else if c.op = 5 then odM c.od else mvF c (findN l c.nm) l.length
/-- Does it not cast? -/
def noCast (l : List Fd) (c : Ch) (k : Option Nat) (n : Nat) : Bool := decide (c.op = 4) && (match k with | some i => decide (i < n) && (match l[i]? with | some f => !castsF f.k f.g c.to.k c.to.g | none => false) | none => false)
def noAdd (c : Ch) : Bool := decide (c.op = 1) && !(rightF c.dk c.dn c.dt.size c.to.k c.to.g && (decide (c.to.k ≠ 11) || decide (c.dn = 0)))
def noOrd (l : List Fd) (c : Ch) : Bool := decide (c.op = 5) && !allB c.od l.length
/-- The error. -/
def mkE (l : List Fd) (c : Ch) : Int :=
  if rightL l = false then 60
  else if c.op < 1 ∨ 5 < c.op then 80
  else if 2 ≤ c.op ∧ c.op ≤ 4 ∧ findN l c.nm = none then 61
  else if noCast l c (findN l c.nm) l.length then 80
  else if noAdd c then 80
  else if noOrd l c then 80
  else if rightL (newC l c) then 0 else 80
def mkT (l : List Fd) (c : Ch) : Tb := if mkE l c = 0 then ⟨l, newC l c, mvC l c⟩ else Tb.none

theorem idxs_zero (c : Ch) (k : Option Nat) : idxs c k 0 = [] := rfl
theorem idxs_succ (c : Ch) (k : Option Nat) (n : Nat) : idxs c k (n + 1) = idxs c k n ++ (if keepB c k n then [n] else []) := by
  unfold idxs
  rw [List.range_succ, List.filter_append]
  congr 1
  cases h : keepB c k n <;> simp [h]
theorem newF_keep {l : List Fd} {c : Ch} {k : Option Nat} {n : Nat} {f : Fd} (hf : l[n]? = some f) (h : keepB c k n = true) : newF l c k (n + 1) = newF l c k n ++ [ed c k n f] := by
  unfold newF; rw [idxs_succ, h]; simp [hf]
theorem newF_drop {l : List Fd} {c : Ch} {k : Option Nat} {n : Nat} (h : keepB c k n = false) : newF l c k (n + 1) = newF l c k n := by
  unfold newF; rw [idxs_succ, h]; simp
theorem mvF_keep {c : Ch} {k : Option Nat} {n : Nat} (h : keepB c k n = true) : mvF c k (n + 1) = mvF c k n ++ [selfM n] := by
  unfold mvF; rw [idxs_succ, h]; simp
theorem mvF_drop {c : Ch} {k : Option Nat} {n : Nat} (h : keepB c k n = false) : mvF c k (n + 1) = mvF c k n := by
  unfold mvF; rw [idxs_succ, h]; simp
theorem idxs_length (c : Ch) (k : Option Nat) (n : Nat) : (idxs c k n).length ≤ n := by
  have := List.length_filter_le (keepB c k) (List.range n); simpa [idxs] using this
theorem idxs_lt {c : Ch} {k : Option Nat} {n : Nat} : ∀ i ∈ idxs c k n, i < n := fun i hi => by
  unfold idxs at hi; rw [List.mem_filter, List.mem_range] at hi; exact hi.1
theorem idxs_all {c : Ch} {k : Option Nat} (h : c.op ≠ 2) (n : Nat) : idxs c k n = List.range n := by
  unfold idxs; rw [List.filter_eq_self]; intro i _; unfold keepB; simp [h]
theorem newF_length (l : List Fd) (c : Ch) (k : Option Nat) (n : Nat) : (newF l c k n).length ≤ n :=
  Nat.le_trans (List.length_filterMap_le _ _) (idxs_length c k n)
theorem newF_length_eq {l : List Fd} {c : Ch} {k : Option Nat} {n : Nat} (hn : n ≤ l.length) : (newF l c k n).length = (idxs c k n).length := by
  induction n with
  | zero => rfl
  | succ n ih =>
    cases h : keepB c k n with
    | true => rw [newF_keep (List.getElem?_eq_getElem (by omega)) h, idxs_succ, h]; simp [ih (by omega)]
    | false => rw [newF_drop h, idxs_succ, h]; simp [ih (by omega)]
theorem mvF_length (c : Ch) (k : Option Nat) (n : Nat) : (mvF c k n).length = (idxs c k n).length := by simp [mvF]
theorem newF_I64 {l : List Fd} {c : Ch} {k : Option Nat} {n : Nat} (P : Fd → Prop) (h : ∀ f ∈ l, ∀ i, P (ed c k i f)) : ∀ f ∈ newF l c k n, P f := fun f hf => by
  unfold newF at hf
  rw [List.mem_filterMap] at hf
  obtain ⟨i, _, hi⟩ := hf
  rw [Option.map_eq_some_iff] at hi
  obtain ⟨g, hg, rfl⟩ := hi
  exact h g (List.mem_of_getElem? hg) i
theorem noCast_succ {l : List Fd} {c : Ch} {k : Option Nat} {n : Nat} (h : noCast l c k n = false) (h2 : ¬ (c.op = 4 ∧ k = some n)) : noCast l c k (n + 1) = false := by
  unfold noCast at *
  by_cases h4 : c.op = 4
  · cases k with
    | none => simp
    | some i =>
      have hne : i ≠ n := fun e => h2 ⟨h4, by rw [e]⟩
      have hd : decide (i < n + 1) = decide (i < n) := by rw [decide_eq_decide]; omega
      simp only [hd]; exact h
  · simp [h4]
theorem noCast_ok {l : List Fd} {c : Ch} {k : Option Nat} {n : Nat} {f : Fd} (h4 : c.op = 4) (hk : k = some n) (hf : l[n]? = some f) (hc : castsF f.k f.g c.to.k c.to.g = true) (m : Nat) : noCast l c k m = false := by
  subst hk; unfold noCast; simp [hf, hc]
theorem noCast_bad {l : List Fd} {c : Ch} {k : Option Nat} {n : Nat} {f : Fd} (h4 : c.op = 4) (hk : k = some n) (hf : l[n]? = some f) (hc : castsF f.k f.g c.to.k c.to.g = false) : noCast l c k l.length = true := by
  subst hk; unfold noCast; dsimp only; rw [hf]; simp [h4, hc, (List.getElem?_eq_some_iff.1 hf).1]
theorem allB_iff {od : List Int} {n : Nat} : allB od n = true ↔ od.length = n ∧ ∀ i : Nat, i < n → od.count (i : Int) = 1 := by
  unfold allB; simp
def inB (n : Nat) (x : Int) : Bool := decide (0 ≤ x) && decide (x < n)
theorem cnt_succ (n : Nat) : ∀ od : List Int, od.countP (inB (n + 1)) = od.countP (inB n) + od.count (n : Int)
  | [] => rfl
  | x :: od => by
    rw [List.countP_cons, List.countP_cons, List.count_cons, cnt_succ n od]
    by_cases h : x = (n : Int)
    · have h1 : inB (n + 1) x = true := by unfold inB; simp [h]; omega
      have h2 : inB n x = false := by unfold inB; simp [h]
      rw [h1, h2]; simp [h]; omega
    · have h1 : inB (n + 1) x = inB n x := by
        unfold inB
        congr 1
        rw [decide_eq_decide]; omega
      have h3 : (x == (n : Int)) = false := by simpa using h
      rw [h1, h3]; simp; omega
theorem cnt_all (od : List Int) : ∀ n : Nat, (∀ i : Nat, i < n → od.count (i : Int) = 1) → od.countP (inB n) = n
  | 0, _ => by
    rw [List.countP_eq_zero]; intro x _; unfold inB; simp
  | n + 1, h => by rw [cnt_succ, cnt_all od n (fun i hi => h i (by omega)), h n (by omega)]
/-- All numbers below n, each once: then none is another one. -/
theorem allB_mem {od : List Int} {n : Nat} (h : allB od n = true) : ∀ x ∈ od, 0 ≤ x ∧ x < n := by
  obtain ⟨hl, hc⟩ := allB_iff.1 h
  have h1 := cnt_all od n hc
  rw [← hl] at h1
  intro x hx
  have h2 := List.countP_eq_length.1 h1 x hx
  unfold inB at h2
  simp at h2
  omega
theorem mkT_ok {l : List Fd} {c : Ch} (h : mkE l c = 0) : mkT l c = ⟨l, newC l c, mvC l c⟩ := by unfold mkT; rw [if_pos h]
theorem mkT_no {l : List Fd} {c : Ch} (h : mkE l c ≠ 0) : mkT l c = Tb.none := by unfold mkT; rw [if_neg h]
end Go.Proofs.Ytjodbopnibdolaa

namespace Go.Proofs.Ytjodbopnibdolaa
open Go.RowKit
set_option linter.unusedVariables false

theorem count_take {l : List Int} {x : Int} {j : Nat} {y : Int} (h : l[j]? = some y) : (l.take (j + 1)).count x = (l.take j).count x + (if y = x then 1 else 0) := by
  rw [List.take_add_one, h, List.count_append]
  by_cases c : y = x
  · simp [c]
  · simp [c]

set_option maxRecDepth 20000 in
set_option maxHeartbeats 4000000 in
theorem r8all_any {w : World} {A : Option Addr} {n c : Nat} {l : List Int} (h : RdI w w.heap.size A n c l) (hn : n ≤ 1000000) (m : Nat) (hm : m ≤ 1000000) :
    Calls Try.prog 26 #[.slice A n c, .int .i64 (m : Int)] w fun e w' => e = .returned (.bool (allB l m)) ∧ Below w.heap.size w w' := by
  have HL := hid h.1
  have H := hid h; clear h
  have hni : (n : Int) ≤ 1000000 := by omega
  have hmi : (m : Int) ≤ 1000000 := by omega
  go_enter Try.func26, Try.ntmps26
  go_wp2_with fail
  go_loopw [5] (fun i wr => ∃ j : Nat, j ≤ m ∧ i = .int .i64 j ∧ Hid (∀ x : Nat, x < j → l.count (x : Int) = 1) ∧ Hid (Below w.heap.size w wr)) (fun i _ => m - (intOf i).toNat)
  case atStart => exact ⟨0, by omega, rfl, hid (fun x hx => absurd hx (by omega)), B0 w⟩
  case round =>
    obtain ⟨j, hj, rfl, HA, HB⟩ := hrel
    by_cases hlt : j < m
    · have hji : (j : Int) < m := by omega
      have hj0 : (0 : Int) ≤ j := by omega
      go_wp2_with fail
      go_loopw [6, 7] (fun f i wr2 => ∃ q : Nat, q ≤ n ∧ i = .int .i64 q ∧ f = .int .i64 ((l.take q).count (j : Int) : Nat) ∧ Hid (Below w.heap.size w wr2)) (fun _ i _ => n - (intOf i).toNat)
      case atStart => exact ⟨0, by omega, rfl, by simp, HB⟩
      case round =>
        obtain ⟨q, hq, rfl, rfl, HB2⟩ := hrel
        by_cases hq2 : q < n
        · obtain ⟨b, off, rfl, hbl, hc⟩ := H.out.2.2.2.2 (by omega)
          have hql : q < l.length := by have := HL.out; omega
          obtain ⟨x, hx⟩ : ∃ x, x = l[q] := ⟨_, rfl⟩
          have hxq : l[q]? = some x := by rw [hx]; exact List.getElem?_eq_getElem hql
          have hcell : wr.cell? ⟨b, off + q, none⟩ = some (.int .i64 x) := by rw [hx]; exact (HB2.out.cell (p := ⟨b, off + q, none⟩) hbl).trans (hc q hql)
          have hqi : (q : Int) < n := by omega
          have hq0 : (0 : Int) ≤ q := by omega
          have hct := count_take (x := (j : Int)) hxq
          have hcl : (l.take q).count (j : Int) ≤ q := Nat.le_trans List.count_le_length (by rw [List.length_take]; omega)
          clear hc hx
          by_cases hxj : x = (j : Int)
          · have t1 : (x == (j : Int)) = true := by simpa using hxj
            rw [if_pos hxj] at hct
            have HCT := hid hct; have HCL := hid hcl
            obtain ⟨k, hk⟩ : ∃ k, k = (l.take q).count (j : Int) := ⟨_, rfl⟩
            rw [← hk] at HCT HCL ⊢
            have hw : IntKind.i64.wrap ((k : Int) + 1) = ((k + 1 : Nat) : Int) := by rw [IntKind.wrap_i64]; have := HCL.out; omega
            have HXJ := hid hxj
            clear hct hcl hxj hk
            go_wp2_with fail
            exact ⟨⟨q + 1, by omega, by go_num, by rw [HCT.out]; go_num, HB2⟩, by simp [intOf]; omega⟩
          · have t1 : (x == (j : Int)) = false := by simpa using hxj
            rw [if_neg hxj, Nat.add_zero] at hct
            have HCT := hid hct
            have HXJ := hid hxj
            clear hct hcl hxj
            go_wp2_with fail
            exact ⟨⟨q + 1, by omega, by go_num, by rw [HCT.out]; simp, HB2⟩, by simp [intOf]; omega⟩
        · obtain rfl : q = n := by omega
          have et : l.take q = l := by rw [← HL.out]; exact List.take_length
          rw [et]
          by_cases hone : l.count (j : Int) = 1
          · have t1 : ((l.count (j : Int) : Nat) : Int) = 1 := by omega
            rw [t1]
            go_wp2_with fail
            exact ⟨⟨j + 1, by omega, by go_num, hid (fun x hx => by
              by_cases e : x = j
              · subst e; exact hone
              · exact HA.out x (by omega)), HB2⟩, by simp [intOf]; omega⟩
          · have t1 : (((l.count (j : Int) : Nat) : Int) != 1) = true := by simp; omega
            have HE : Hid (allB l m = false) := hid (by
              cases hh : allB l m with
              | false => rfl
              | true => exact absurd ((allB_iff.1 hh).2 j hlt) hone)
            obtain ⟨k, hk⟩ : ∃ k : Int, k = ((l.count (j : Int) : Nat) : Int) := ⟨_, rfl⟩
            rw [← hk] at t1 ⊢
            clear hk hone
            go_wp2_with fail
            go_ret
            exact ⟨by rw [HE.out]; rfl, HB2.out⟩
    · obtain rfl : j = m := by omega
      have HE : Hid (allB l j = decide ((n : Int) = (j : Int))) := hid (by
        rw [Bool.eq_iff_iff, allB_iff, decide_eq_true_eq, HL.out]
        exact ⟨fun h => by omega, fun h => ⟨by omega, HA.out⟩⟩)
      go_wp2_with fail
      go_ret
      exact ⟨by rw [HE.out]; rfl, HB.out⟩
end Go.Proofs.Ytjodbopnibdolaa

namespace Go.Proofs.Ytjodbopnibdolaa
open Go.RowKit
set_option linter.unusedVariables false
set_option linter.unusedSimpArgs false

/-- A change as an argument. -/
def chV (c : Ch) (A : Option Addr) (n cp : Nat) : Value := .agg #[.int .i64 c.op, .string (bs c.nm), .string (bs c.to.nm), .int .i64 c.to.k, .int .i64 c.to.g, .int .i64 c.dk, .int .u64 c.dn, .string c.dt, .slice A n cp]
def chO (c : Ch) (A : Option Addr) (n cp : Nat) (ty : TypeId) : Obj := .cells #[.int .i64 c.op, .string (bs c.nm), .string (bs c.to.nm), .int .i64 c.to.k, .int .i64 c.to.g, .int .i64 c.dk, .int .u64 c.dn, .string c.dt, .slice A n cp] ty
def CB (w : World) (b : Nat) (c : Ch) (A : Option Addr) (n cp : Nat) (ty : TypeId) : Prop := w.heap[b]? = some (.cells #[.int .i64 c.op, .string (bs c.nm), .string (bs c.to.nm), .int .i64 c.to.k, .int .i64 c.to.g, .int .i64 c.dk, .int .u64 c.dn, .string c.dt, .slice A n cp] ty (0, 0))
/-- Its numbers are whole numbers; its new name is short. -/
def chOk (c : Ch) : Prop := I64 c.op ∧ I64 c.to.k ∧ I64 c.to.g ∧ I64 c.dk ∧ U64 c.dn ∧ c.to.nm.length ≤ 100000
section
variable {w w' : World} {b b' : Nat} {c : Ch} {A : Option Addr} {n cp : Nat} {ty : TypeId}
theorem CB.lt (h : CB w b c A n cp ty) : b < w.heap.size := row_lt h
theorem CB.on (h : CB w b c A n cp ty) (hb : Below w.heap.size w w') : CB w' b c A n cp ty := (hb.block b h.lt).trans h
theorem CB.new (w : World) (c : Ch) (A : Option Addr) (n cp : Nat) (ty : TypeId) : CB (w.alloc (.cells #[.int .i64 c.op, .string (bs c.nm), .string (bs c.to.nm), .int .i64 c.to.k, .int .i64 c.to.g, .int .i64 c.dk, .int .u64 c.dn, .string c.dt, .slice A n cp] ty)) w.heap.size c A n cp ty := heap_alloc_new w _
theorem CB.cells (h : CB w b c A n cp ty) : w.cell? ⟨b, 0, none⟩ = some (.int .i64 c.op) ∧ w.cell? ⟨b, 1, none⟩ = some (.string (bs c.nm)) ∧ w.cell? ⟨b, 2, none⟩ = some (.string (bs c.to.nm)) ∧ w.cell? ⟨b, 3, none⟩ = some (.int .i64 c.to.k) ∧ w.cell? ⟨b, 4, none⟩ = some (.int .i64 c.to.g) ∧ w.cell? ⟨b, 5, none⟩ = some (.int .i64 c.dk) ∧ w.cell? ⟨b, 6, none⟩ = some (.int .u64 c.dn) ∧ w.cell? ⟨b, 7, none⟩ = some (.string c.dt) ∧ w.cell? ⟨b, 8, none⟩ = some (.slice A n cp) :=
  ⟨row_cell h 0, row_cell h 1, row_cell h 2, row_cell h 3, row_cell h 4, row_cell h 5, row_cell h 6, row_cell h 7, row_cell h 8⟩
end

/-- A table that a loop makes: block q holds it, its new fields and moves are the call's own. -/
structure MkC (w W : World) (q : Nat) (s v1 v2 : Value) (B : Nat) (lf : List Fd) (lm : List Mv) : Prop where
  tb : TBx W q s v1 v2 43
  of : OwF W B v1 lf
  om : OwM W B 69 v2 lm
  bl : Below w.heap.size w W
  qb : q < B
  wq : w.heap.size ≤ q
  az : B ≤ W.heap.size
section
variable {w W W' : World} {q B : Nat} {s v1 v2 v : Value} {lf lf' : List Fd} {lm lm' : List Mv}
theorem MkC.on (h : MkC w W q s v1 v2 B lf lm) (hb : Below W.heap.size W W') : MkC w W' q s v1 v2 B lf lm :=
  ⟨h.tb.on hb, h.of.on hb, h.om.on hb, h.bl.trans (hb.mono h.bl.size), h.qb, h.wq, Nat.le_trans h.az hb.size⟩
/-- A row of moves stands where a row of fields grows; and the other way round. -/
theorem OwM.keepF (h : OwM W B 69 v lm) {row : Option Nat} (hg : W.grownBy W' row) (hr : ∀ r, row = some r → ∃ cs, W.heap[r]? = some (.cells cs 24 (0, 0))) : OwM W' B 69 v lm := by
  refine ⟨h.1, ?_⟩
  rcases h.2 with h1 | ⟨g, cap, cur, hv, hbase, hg2, h3⟩
  · exact .inl h1
  · refine .inr ⟨g, cap, cur, hv, hbase, (hg.block g (row_lt hg2) (fun e => ?_)).trans hg2, h3⟩
    obtain ⟨cs, hc⟩ := hr g e.symm
    rw [hg2] at hc; cases hc
theorem OwF.keepM (h : OwF W B v lf) {row : Option Nat} (hg : W.grownBy W' row) (hr : ∀ r, row = some r → ∃ cs, W.heap[r]? = some (.cells cs 69 (0, 0))) : OwF W' B v lf := by
  refine ⟨h.1, ?_⟩
  rcases h.2 with h1 | ⟨g, cap, cur, hv, hbase, hg2, h3⟩
  · exact .inl h1
  · refine .inr ⟨g, cap, cur, hv, hbase, (hg.block g (row_lt hg2) (fun e => ?_)).trans hg2, h3⟩
    obtain ⟨cs, hc⟩ := hr g e.symm
    rw [hg2] at hc; cases hc
theorem MkC.appF (h : MkC w W q s v1 v2 B lf lm) (hg : W.grownBy W' v1.ownBlock) (ho : OwF W' B v lf') : MkC w (W'.setCell ⟨q, 1, none⟩ v) q s v v2 B lf' lm :=
  ⟨(h.tb.grown hg (fun e => by have := (h.of.blk2 q e.symm).1; have := h.qb; omega)).set1 v, ho.set h.qb 1 _, (h.om.keepF hg (fun r e => (h.of.blk2 r e).2)).set h.qb 1 _,
    ((h.bl.grown hg h.bl.size (fun j e => Nat.le_trans (Nat.le_trans h.wq (Nat.le_of_lt h.qb)) (h.of.blk2 j e).1)).setCell (p := ⟨q, 1, none⟩) h.wq _), h.qb, h.wq, by simp only [size_set]; exact Nat.le_trans h.az hg.size⟩
theorem MkC.appM (h : MkC w W q s v1 v2 B lf lm) (hg : W.grownBy W' v2.ownBlock) (ho : OwM W' B 69 v lm') : MkC w (W'.setCell ⟨q, 2, none⟩ v) q s v1 v B lf lm' :=
  ⟨(h.tb.grown hg (fun e => by have := (h.om.blk2 q e.symm).1; have := h.qb; omega)).set2 v, (h.of.keepM hg (fun r e => (h.om.blk2 r e).2)).set h.qb 2 _, ho.set h.qb 2 _,
    ((h.bl.grown hg h.bl.size (fun j e => Nat.le_trans (Nat.le_trans h.wq (Nat.le_of_lt h.qb)) (h.om.blk2 j e).1)).setCell (p := ⟨q, 2, none⟩) h.wq _), h.qb, h.wq, by simp only [size_set]; exact Nat.le_trans h.az hg.size⟩
end
/-- What Make answers. -/
def MkQ (w : World) (l : List Fd) (c : Ch) (e : Ending) (w' : World) : Prop := ∃ v, e = .returned (.tuple #[v, .int .i64 (mkE l c)]) ∧ RdT w' w'.heap.size v (mkT l c) ∧ Below w.heap.size w w'
end Go.Proofs.Ytjodbopnibdolaa
