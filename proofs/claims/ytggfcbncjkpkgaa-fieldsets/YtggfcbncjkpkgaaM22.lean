/-
  The law FieldSets: a walk.
-/
import Derived.Test.YtggfcbncjkpkgaaM21
import Derived.Test.YtggfcbncjkpkgaaM6
import Derived.BigQuiet

namespace Go.Proofs.Ytggfcbncjkpkgaa
open Go.RowKit
set_option linter.unusedVariables false

def zeroV (f : Fd) : Vl := ⟨zeroK f.k f.g, 0, (zeroT f.k f.g).data.toList⟩
def gotV (v : Vl) : Value := .tuple #[.agg #[.int .i64 v.k, .int .u64 v.n, .string (bs v.t)], .int .i64 0]
/-- The bytes hold these values. -/
def sem (l : List Fd) (S : List UInt8) (ws : List Vl) : Prop := (S.length : Int) = layN l ∧ ws.length = l.length ∧ ∀ (j : Nat) (f : Fd), l[j]? = some f → ∃ v, ws[j]? = some v ∧ getR S l f.nm = gotV v
theorem sem_zero {l : List Fd} (hr : rightL l = true) : sem l (List.replicate (layN l).toNat 0) (l.map zeroV) := by
  have hb := layN_bounds hr
  refine ⟨by rw [List.length_replicate]; omega, by simp, fun j f hj => ⟨zeroV f, by rw [List.getElem?_map, hj]; rfl, ?_⟩⟩
  rw [get_zero hr hj]
  unfold gotV zeroV
  rw [bs_data]
theorem sem_set {l : List Fd} {S : List UInt8} {ws : List Vl} (hr : rightL l = true) (h : sem l S ws) {i : Nat} {f : Fd} (hi : l[i]? = some f) (v : Vl) (hn : U64 v.n) :
    ((setS6 S l f.nm v.k v.n (bs v.t)).2 = 0 ∧ sem l (setS6 S l f.nm v.k v.n (bs v.t)).1 (ws.set i v)) ∨ (setS6 S l f.nm v.k v.n (bs v.t)).2 = 50 := by
  have hf := ((rightL_iff.1 hr).2 i f hi).2.2
  obtain ⟨p, hp⟩ : ∃ p, (layP 0 l)[i]? = some p := ⟨_, layP_get hi 0⟩
  rw [set_some ⟨hr, h.1⟩ hf hi hp]
  have hil : i < l.length := by
    by_cases c : i < l.length
    · exact c
    · rw [List.getElem?_eq_none (by omega)] at hi; cases hi
  cases hv : rightF v.k v.n (bs v.t).size f.k f.g with
  | false => exact .inr rfl
  | true =>
    refine .inl ⟨rfl, ?_⟩
    simp only [if_true]
    refine ⟨by rw [set_length hr h.1 hi hp hv]; exact h.1, by rw [List.length_set]; exact h.2.1, fun j f' hj => ?_⟩
    by_cases e : j = i
    · subst e
      rw [hi] at hj; cases hj
      exact ⟨v, by rw [List.getElem?_set_self (by rw [h.2.1]; exact hil)], get_set_same hr h.1 hi hp hn hv⟩
    · obtain ⟨v', h1, h2⟩ := h.2.2 j f' hj
      exact ⟨v', by rw [List.getElem?_set_ne (fun c => e c.symm)]; exact h1, by rw [get_set_other hr h.1 hi hp hv hj e]; exact h2⟩

/-- A row of values that the call has made. -/
def WasB (w : World) (g n : Nat) (ws : List Vl) : Prop := ∃ cur, w.heap[g]? = some (.cells cur 37 (0, 0)) ∧ cur.size = n * 3 ∧ ws.length ≤ n ∧
  ∀ i v, ws[i]? = some v → cur[i * 3]? = some (.int .i64 v.k) ∧ cur[i * 3 + 1]? = some (.int .u64 v.n) ∧ cur[i * 3 + 2]? = some (.string (bs v.t))
section
variable {w w' : World} {g n : Nat} {ws : List Vl}
theorem WasB.on (h : WasB w g n ws) (hb : Below w.heap.size w w') : WasB w' g n ws := by
  obtain ⟨cur, h1, h2⟩ := h
  exact ⟨cur, (hb.block g (row_lt h1)).trans h1, h2⟩
theorem WasB.lt (h : WasB w g n ws) : g < w.heap.size := by obtain ⟨cur, h1, _⟩ := h; exact row_lt h1
theorem WasB.frozen (h : WasB w g n ws) (i : Nat) : w.frozen? ⟨g, i, none⟩ = false := by obtain ⟨cur, h1, _⟩ := h; exact row_frozen h1 i
theorem WasB.cell (h : WasB w g n ws) {i : Nat} {v : Vl} (hi : ws[i]? = some v) : w.cell? ⟨g, i * 3, none⟩ = some (.int .i64 v.k) ∧ w.cell? ⟨g, i * 3 + 1, none⟩ = some (.int .u64 v.n) ∧ w.cell? ⟨g, i * 3 + 2, none⟩ = some (.string (bs v.t)) := by
  obtain ⟨cur, h1, _, _, h2⟩ := h
  obtain ⟨a, b, c⟩ := h2 i v hi
  exact ⟨(row_cell h1 _).trans a, (row_cell h1 _).trans b, (row_cell h1 _).trans c⟩
theorem WasB.some (h : WasB w g n ws) {i : Nat} (hi : i < n) : ∃ a b c, w.cell? ⟨g, i * 3, none⟩ = Option.some a ∧ w.cell? ⟨g, i * 3 + 1, none⟩ = Option.some b ∧ w.cell? ⟨g, i * 3 + 2, none⟩ = Option.some c := by
  obtain ⟨cur, h1, h2, _⟩ := h
  exact ⟨_, _, _, (row_cell h1 _).trans (Array.getElem?_eq_getElem (by omega)), (row_cell h1 _).trans (Array.getElem?_eq_getElem (by omega)), (row_cell h1 _).trans (Array.getElem?_eq_getElem (by omega))⟩
theorem WasB.put (h : WasB w g n ws) {i : Nat} (hi : i < n) (v : Vl) {ws' : List Vl} (hl : ws'.length ≤ n) (hv : ws'[i]? = Option.some v) (ho : ∀ j x, j ≠ i → ws'[j]? = Option.some x → ws[j]? = Option.some x) :
    WasB (((w.setCell ⟨g, i * 3, none⟩ (.int .i64 v.k)).setCell ⟨g, i * 3 + 1, none⟩ (.int .u64 v.n)).setCell ⟨g, i * 3 + 2, none⟩ (.string (bs v.t))) g n ws' := by
  obtain ⟨cur, h1, h2, _, h3⟩ := h
  refine ⟨_, row_set (row_set (row_set h1 _ _) _ _) _ _, by simpa using h2, hl, fun j x hj => ?_⟩
  by_cases e : j = i
  · subst e
    rw [hv] at hj; cases hj
    refine ⟨?_, ?_, ?_⟩ <;> simp [Array.getElem?_setIfInBounds, h2] <;> omega
  · obtain ⟨a, b, c⟩ := h3 j x (ho j x e hj)
    refine ⟨?_, ?_, ?_⟩
    · rw [Array.getElem?_setIfInBounds_ne (by omega), Array.getElem?_setIfInBounds_ne (by omega), Array.getElem?_setIfInBounds_ne (by omega)]; exact a
    · rw [Array.getElem?_setIfInBounds_ne (by omega), Array.getElem?_setIfInBounds_ne (by omega), Array.getElem?_setIfInBounds_ne (by omega)]; exact b
    · rw [Array.getElem?_setIfInBounds_ne (by omega), Array.getElem?_setIfInBounds_ne (by omega), Array.getElem?_setIfInBounds_ne (by omega)]; exact c
end
theorem below_set3 {B g : Nat} {w w' : World} (h : Below B w w') (hg : B ≤ g) (i j k : Nat) (x y z : Value) : Below B w (((w'.setCell ⟨g, i, none⟩ x).setCell ⟨g, j, none⟩ y).setCell ⟨g, k, none⟩ z) := ((h.setCell (p := ⟨g, i, none⟩) hg _).setCell (p := ⟨g, j, none⟩) hg _).setCell (p := ⟨g, k, none⟩) hg _
/-- Bytes of the call's own stand where a value of a row turns. -/
theorem Own.set3 {w : World} {base g n : Nat} {v : Value} {l : List UInt8} {ws : List Vl} (h : Own w base v l) (hw : WasB w g n ws) (i j k : Nat) (x y z : Value) : Own (((w.setCell ⟨g, i, none⟩ x).setCell ⟨g, j, none⟩ y).setCell ⟨g, k, none⟩ z) base v l := by
  refine ⟨h.1, ?_⟩
  rcases h.2 with h1 | ⟨g2, cap, cur, hv, hbase, hg, h3⟩
  · exact .inl h1
  · have hne : g2 ≠ g := fun e => by
      subst e
      obtain ⟨c, h4, _⟩ := hw
      rw [h4] at hg; cases hg
    refine .inr ⟨g2, cap, cur, hv, hbase, ?_, h3⟩
    exact (Below.heap_setCell _ ⟨g, k, none⟩ z g2 hne).trans ((Below.heap_setCell _ ⟨g, j, none⟩ y g2 hne).trans ((Below.heap_setCell _ ⟨g, i, none⟩ x g2 hne).trans hg))
theorem Own.less {w : World} {base b : Nat} {v : Value} {l : List UInt8} (h : Own w base v l) (hb : b ≤ base) : Own w b v l := by
  refine ⟨h.1, ?_⟩
  rcases h.2 with h1 | ⟨g, cap, cur, hv, hbase, hg, h3⟩
  · exact .inl h1
  · exact .inr ⟨g, cap, cur, hv, Nat.le_trans hb hbase, hg, h3⟩
theorem Own.rd2 {w : World} {base m c : Nat} {A : Option Addr} {l : List UInt8} (h : Own w base (.slice A m c) l) : m = l.length ∧ Rd w w.heap.size A m c l := by
  obtain ⟨A', c', e, hr⟩ := h.rd
  cases e
  exact ⟨rfl, hr⟩
theorem infoV : (Try.prog.info? 37).map (fun i => (i.zero, i.size, i.bytes)) = some (some (.agg #[.int .i64 0, .int .u64 0, .string ⟨#[]⟩]), 3, 32) := by kernel_rfl
theorem run_makeV (m : Nat) (hm : m ≤ 1000) : ∃ cs : Array Value, cs.size = m * 3 ∧ ∀ w : World, (Instr.makeSlice 58 (.int .i64 m) (.int .i64 m)).run Try.prog w = .ok (.slice (some ⟨w.heap.size, 0, none⟩) m m) (w.alloc (.cells cs 37)) := by
  have h := infoV
  cases hi : Try.prog.info? 37 with
  | none => rw [hi] at h; cases h
  | some i =>
    rw [hi] at h
    simp only [Option.map_some, Option.some.injEq, Prod.mk.injEq] at h
    obtain ⟨hz, hs, hb⟩ := h
    refine ⟨madeCells (Value.agg #[.int .i64 0, .int .u64 0, .string ⟨#[]⟩]).cells (m * 3), size_madeCells _ _, fun w => ?_⟩
    have hr := run_make (P := Try.prog) w 58 37 i (.agg #[.int .i64 0, .int .u64 0, .string ⟨#[]⟩]) Try.underlying58 hi hz .i64 .i64 m m (by omega) (by omega) (by rw [hb]; omega) (by omega)
    rw [hs] at hr
    simpa using hr
theorem wasB_new {w : World} {cs : Array Value} {m : Nat} (h : cs.size = m * 3) : WasB (w.alloc (.cells cs 37)) w.heap.size m [] := ⟨cs, heap_alloc_new w _, h, by simp, fun i v hi => by simp at hi⟩
theorem RdV.at {w : World} {B n cap : Nat} {A : Option Addr} {l : List Vl} (h : RdV w B A n cap l) {i : Nat} {v : Vl} (hi : l[i]? = some v) : i < n ∧ U64 v.n ∧ v.t.length ≤ maxLen ∧ ∃ b off, A = some ⟨b, off, none⟩ ∧ ∀ w', Below B w w' → VlC w' b (off + i * 3) v := by
  have hl : i < l.length := by
    by_cases c : i < l.length
    · exact c
    · rw [List.getElem?_eq_none (by omega)] at hi; cases hi
  rw [List.getElem?_eq_getElem hl] at hi
  cases hi
  obtain ⟨b, off, e, hlt, hc⟩ := h.2.2.2.2 (by have := h.1; omega)
  obtain ⟨h1, h2, h3⟩ := h.2.2.2.1 _ (List.getElem_mem hl)
  exact ⟨by have := h.1; omega, h2, h3, b, off, e, fun w' hb => ⟨(hb.cell (p := ⟨b, off + i * 3, none⟩) hlt).trans (hc i hl).1, (hb.cell (p := ⟨b, off + i * 3 + 1, none⟩) hlt).trans (hc i hl).2.1, (hb.cell (p := ⟨b, off + i * 3 + 2, none⟩) hlt).trans (hc i hl).2.2⟩⟩

set_option maxRecDepth 20000 in
set_option maxHeartbeats 8000000 in
theorem walk_FieldSets (A : Option Addr) (n c : Nat) (l : List Fd) (Av : Option Addr) (nv cv : Nat) (vs : List Vl) (w : World) (h : RdF w w.heap.size A n c l) (hv : RdV w w.heap.size Av nv cv vs) :
    Calls Try.prog 7 #[.slice A n c, .slice Av nv cv] w fun e w' => e = .returned (.bool true) ∧ Below w.heap.size w w' := by
  have H := hid h; have HL := hid h.1; have HV := hid hv; have HVL := hid hv.1
  have hnvm : (nv : Int) ≤ 9223372036854775807 := by have := Nat.le_trans hv.2.1 hv.2.2.1; unfold maxLen at this; omega
  clear h hv
  have fin : ∀ w2 : World, Below w.heap.size w w2 → Calls Try.prog 12 #[] w2 fun e w' => e = .returned (.bool true) ∧ Below w.heap.size w w'   := fun w2 hb => (alive_any _).mono fun e w' h => ⟨h.1, Bt hb h.2⟩
  have FIN := hid fin
  clear fin
  go_enter Try.func7, Try.ntmps7
  go_wp2_with fail
  refine (few6_any H.out).mono ?_
  rintro e w1 ⟨fw, rfl, hfew, hb1⟩
  have HB1 := hid hb1; clear hb1
  cases fw with
  | false =>
    clear hfew
    go_wp2_with fail
    refine (FIN.out _ HB1.out).mono ?_
    rintro e w2 ⟨rfl, hb2⟩
    have HB2 := hid hb2; clear hb2
    go_wp2_with fail
    go_ret
    exact ⟨rfl, HB2.out⟩
  | true =>
    have hn40 : n ≤ 40 := (hfew rfl).1
    have HS := hid (hfew rfl).short
    clear hfew
    go_wp2_with fail
    refine (p6right_any (H.out.on HB1.out) HS.out).mono ?_
    rintro e w2 ⟨rfl, hb2⟩
    have HB2 := hid (Bt HB1.out hb2); clear hb2
    cases hr : rightL l with
    | false =>
      clear hr
      go_wp2_with fail
      refine (FIN.out _ HB2.out).mono ?_
      rintro e w3 ⟨rfl, hb3⟩
      have HB3 := hid hb3; clear hb3
      go_wp2_with fail
      go_ret
      exact ⟨rfl, HB3.out⟩
    | true =>
      have HR := hid hr
      have hTN := layN_bounds hr
      have HTT : Hid (layT l = layN l) := layT_right hr
      clear hr
      by_cases hnv : (nv : Int) ≤ 40
      case neg =>
        have d1 : decide (40 < (nv : Int)) = true := decide_eq_true (by omega)
        go_wp2_with fail
        refine (FIN.out _ HB2.out).mono ?_
        rintro e w3 ⟨rfl, hb3⟩
        have HB3 := hid hb3; clear hb3
        go_wp2_with fail
        go_ret
        exact ⟨rfl, HB3.out⟩
      have d1 : decide (40 < (nv : Int)) = false := decide_eq_false (by omega)
      go_wp2_with fail
      refine (p6new_any (H.out.on HB2.out) HS.out).mono ?_
      rintro e w3 ⟨v3, rfl, ho3, hb3⟩
      rw [HTT.out] at ho3
      have HB3 := hid (Bt HB2.out hb3)
      have HO3 := hid (ho3.less HB2.out.size)
      obtain ⟨A3, n3, c3, rfl⟩ := ho3.shape2
      obtain ⟨cs, hcs, hmk⟩ := run_makeV n (by omega)
      obtain ⟨w4, hw4⟩ : ∃ w4, w4 = w3.alloc (.cells cs 37) := ⟨_, rfl⟩
      obtain ⟨g, hg⟩ : ∃ g, g = w3.heap.size := ⟨_, rfl⟩
      have HW4 := hid hw4; have HGG := hid hg
      have hb4 : Below w3.heap.size w3 w4 := by rw [hw4]; exact B1 _ _
      have HB4 := hid (Bt HB3.out hb4)
      have HO4 := hid (HO3.out.grown hb4)
      have HW0 : Hid (WasB w4 g n []) := by rw [hw4, hg]; exact wasB_new hcs
      have HGW : Hid (w.heap.size ≤ g) := by rw [hg]; exact HB3.out.size
      clear ho3 hb3 hw4 hg hb4 hcs
      go_wp2_with fail
      rw [← HW4.out, ← HGG.out]
      obtain ⟨Z, hZ⟩ : ∃ Z, Z = List.replicate (layN l).toNat (0 : UInt8) := ⟨_, rfl⟩
      rw [← hZ] at HO4
      have HZ := hid hZ
      clear hZ HO3 hmk
      go_loopw [39] (fun i wr => ∃ j : Nat, j ≤ n ∧ i = .int .i64 j ∧ Hid (WasB wr g n ((l.take j).map zeroV)) ∧ Hid (Own wr w.heap.size (.slice A3 n3 c3) Z) ∧ Hid (Below w.heap.size w wr)) (fun i _ => n - (intOf i).toNat)
      case atStart => exact ⟨0, by omega, rfl, hid (by simpa using HW0.out), HO4, HB4⟩
      case round =>
        obtain ⟨j, hj, rfl, HW, HO, HB⟩ := hrel
        by_cases hlt : j < n
        · have hjl : j < l.length := by have := HL.out; omega
          obtain ⟨f, hf⟩ : ∃ f, l[j]? = some f := ⟨_, List.getElem?_eq_getElem hjl⟩
          obtain ⟨_, hk64, hg64, hnl, b, off, rfl, hc⟩ := H.out.at hf
          obtain ⟨c0, cc1, cc2⟩ := hc wr HB.out
          obtain ⟨zk, hzk⟩ : ∃ zk, zk = zeroK f.k f.g := ⟨_, rfl⟩
          obtain ⟨zt, hzt⟩ : ∃ zt, zt = zeroT f.k f.g := ⟨_, rfl⟩
          have HZV : Hid (zeroV f = ⟨zk, 0, zt.data.toList⟩) := by show _ = _; unfold zeroV; rw [← hzk, ← hzt]
          have HZK := hid hzk; have HZT := hid hzt; have HF := hid hf
          obtain ⟨wa, hwa⟩ : ∃ wa, wa = wr.alloc (.cells #[.string (bs f.nm), .int .i64 f.k, .int .i64 f.g] 40) := ⟨_, rfl⟩
          have HWA := hid hwa
          obtain ⟨fb, hfb⟩ : ∃ fb, fb = wr.heap.size := ⟨_, rfl⟩
          have HFB := hid hfb
          have HBA : Hid (Below wr.heap.size wr wa) := by rw [hwa]; exact B1 _ _
          have hji : (j : Int) < n := by omega
          have hj0 : (0 : Int) ≤ j := by omega
          clear hc hjl hf hk64 hg64 hnl hzk hzt hwa hfb
          go_wp2_with fail
          rw [← HWA.out, ← HFB.out]
          refine (rzero_any (bs f.nm) f.k f.g wa).mono ?_
          rintro e w5 ⟨rfl, hb5⟩
          rw [← HZK.out, ← HZT.out]
          have hbr := Bt HBA.out hb5
          have HB5 := hid (Bt HB.out hbr); have HW5 := hid (HW.out.on hbr); have HO5 := hid (HO.out.grown hbr)
          obtain ⟨x0, x1, x2, y0, y1, y2⟩ := HW5.out.some hlt
          have f0 := HW5.out.frozen (j * 3); have f1 := HW5.out.frozen (j * 3 + 1); have f2 := HW5.out.frozen (j * 3 + 2)
          clear hbr hb5 c0 cc1 cc2
          go_wp2_with fail
          go_roundw
          case rel =>
            have hp := HW5.out.put (i := j) hlt ⟨zk, 0, zt.data.toList⟩ (ws' := (l.take (j + 1)).map zeroV) (by rw [List.length_map, List.length_take]; omega) (by rw [List.getElem?_map, List.getElem?_take_of_lt (by omega), HF.out, ← HZV.out]; rfl) (fun i x hne hx => by
              have hi : i < j + 1 := by
                by_cases c : i < j + 1
                · exact c
                · rw [List.getElem?_eq_none (by rw [List.length_map, List.length_take]; omega)] at hx; cases hx
              rw [List.getElem?_map, List.getElem?_take_of_lt (by omega)] at hx ⊢; exact hx)
            rw [bs_data] at hp
            exact ⟨j + 1, by omega, by simp, hid hp, hid (HO5.out.set3 HW5.out _ _ _ _ _ _), hid (below_set3 HB5.out HGW.out _ _ _ _ _ _)⟩
          case measure => simp [intOf]; omega
        · obtain rfl : j = n := by omega
          have HSM0 : Hid (sem l Z ((l.take j).map zeroV)) := by
            show sem _ _ _
            rw [← HL.out, List.take_length, HZ.out]; exact sem_zero HR.out
          go_wp2_with fail
          go_loopw [5, 52] (fun v i wr => ∃ (k : Nat) (A5 : Option Addr) (n5 c5 : Nat) (S : List UInt8) (ws : List Vl), k ≤ nv ∧ i = .int .i64 k ∧ v = .slice A5 n5 c5 ∧ Hid (Own wr w.heap.size (.slice A5 n5 c5) S) ∧ Hid (WasB wr g j ws) ∧ Hid (sem l S ws) ∧ Hid (Below w.heap.size w wr)) (fun _ i _ => nv - (intOf i).toNat)
          case atStart => exact ⟨0, A3, n3, c3, Z, _, by omega, rfl, rfl, HO, HW, HSM0, HB⟩
          case round =>
            clear HO HW HB HSM0 hj hlt
            obtain ⟨k, A5, n5, c5, S, ws, hk, rfl, rfl, HO, HW, HSM, HB⟩ := hrel
            by_cases hkl : k < nv
            case neg =>
              obtain rfl : k = nv := by omega
              go_wp2_with fail
              refine (FIN.out _ HB.out).mono ?_
              rintro e y2 ⟨rfl, hb2⟩
              have HB2 := hid hb2; clear hb2
              go_wp2_with fail
              go_ret
              exact ⟨rfl, HB2.out⟩
            obtain ⟨v, hvk⟩ : ∃ v, vs[k]? = some v := ⟨_, List.getElem?_eq_getElem (by rw [HVL.out]; exact hkl)⟩
            obtain ⟨_, hvn, hvt, bv', offv, rfl, hvc⟩ := HV.out.at hvk
            obtain ⟨c0, cc1, cc2⟩ := hvc wr HB.out
            have HVN := hid hvn
            have hvti : (v.t.length : Int) ≤ 9223372036854775807 := by unfold maxLen at hvt; omega
            have hki : (k : Int) < nv := by omega
            have hk0 : (0 : Int) ≤ k := by omega
            obtain ⟨wv, hwv⟩ : ∃ wv, wv = wr.alloc (.cells #[.int .i64 v.k, .int .u64 v.n, .string (bs v.t)] 37) := ⟨_, rfl⟩
            obtain ⟨vb, hvb⟩ : ∃ vb, vb = wr.heap.size := ⟨_, rfl⟩
            have HWV := hid hwv; have HVBn := hid hvb
            have HVB : Hid (VB wv vb v.k v.n (bs v.t)) := by rw [hwv, hvb]; exact vb_new wr _ _ _
            have HBV : Hid (Below wr.heap.size wr wv) := by rw [hwv]; exact B1 _ _
            have HBVA : Hid (∀ o : Obj, Below w.heap.size w (wr.alloc o)) := fun o => Ba HB.out o
            clear hvc hvk hvn hvt hwv hvb
            by_cases hn0 : j = 0
            · have t0 : ((j : Int) == 0) = true := by rw [hn0]; rfl
              clear hn0
              go_wp2_with fail
              refine (FIN.out _ (HBVA.out _)).mono ?_
              rintro e y2 ⟨rfl, hb2⟩
              have HB2 := hid hb2; clear hb2
              go_wp2_with fail
              go_ret
              exact ⟨rfl, HB2.out⟩
            have t0 : ((j : Int) == 0) = false := by rw [beq_eq_false_iff_ne]; omega
            by_cases htl : (1000 : Int) < (v.t.length : Int)
            · have t1 : decide ((1000 : Int) < (v.t.length : Int)) = true := decide_eq_true htl
              clear htl hn0
              go_wp2_with fail
              refine (FIN.out _ (HBVA.out _)).mono ?_
              rintro e y2 ⟨rfl, hb2⟩
              have HB2 := hid hb2; clear hb2
              go_wp2_with fail
              go_ret
              exact ⟨rfl, HB2.out⟩
            have t1 : decide ((1000 : Int) < (v.t.length : Int)) = false := decide_eq_false htl
            obtain ⟨i0, hi0⟩ : ∃ i0, i0 = k % j := ⟨_, rfl⟩
            have hi0l : i0 < j := by rw [hi0]; exact Nat.mod_lt _ (by omega)
            have tm : (k : Int).tmod (j : Int) = (i0 : Int) := by rw [hi0, Int.tmod_eq_emod_of_nonneg (by omega)]; simp
            have hjz : (j : Int) ≠ 0 := by omega
            obtain ⟨f, hf⟩ : ∃ f, l[i0]? = some f := ⟨_, List.getElem?_eq_getElem (by rw [HL.out]; exact hi0l)⟩
            obtain ⟨_, hk64, hg64, hnl, b, off, rfl, hc⟩ := H.out.at hf
            have HF := hid hf; have HC := hid hc
            have hi0i : (i0 : Int) < j := by omega
            have hi00 : (0 : Int) ≤ i0 := by omega
            have hi0n : decide ((i0 : Int) < 0) = false := decide_eq_false (by omega)
            obtain ⟨R, hR⟩ : ∃ R, R = setS6 S l f.nm v.k v.n (bs v.t) := ⟨_, rfl⟩
            have hss := sem_set HR.out HSM.out hf v HVN.out
            rw [← hR] at hss
            have HRR := hid hR; have HSS := hid hss
            have HSL : Hid (n5 ≤ 100000) := by
              show _ ≤ _
              have h1 := HSM.out.1; have h2 := HO.out.rd2.1; have h3 := layN_bounds HR.out
              omega
            clear hc hf hk64 hg64 hnl hi0 hn0 htl hR hss
            go_wp2_with fail
            rw [← HWV.out, ← HVBn.out]
            have HBW := hid (Bt HB.out HBV.out)
            have HOV := hid (HO.out.grown HBV.out); have HWW := hid (HW.out.on HBV.out)
            clear c0 cc1 cc2
            refine reg_begin (by kernel_rfl) (fun w0a hx0a hHeld => ?_)
            have pf0 : ∀ w', Ext w0a w' → w'.cell? ⟨b, off + i0 * 3, none⟩ = some (.string (bs f.nm)) := fun w' h => (HC.out w' (Bt HBW.out (hx0a.trans h))).1
            have pv0 : ∀ w', Ext w0a w' → w'.cell? ⟨vb, 0, none⟩ = some (.int .i64 v.k) := fun w' h => ((HVB.out.on (hx0a.trans h)).cells).1
            have pv1 : ∀ w', Ext w0a w' → w'.cell? ⟨vb, 1, none⟩ = some (.int .u64 v.n) := fun w' h => ((HVB.out.on (hx0a.trans h)).cells).2.1
            have pv2 : ∀ w', Ext w0a w' → w'.cell? ⟨vb, 2, none⟩ = some (.string (bs v.t)) := fun w' h => ((HVB.out.on (hx0a.trans h)).cells).2.2
            refine reg_take 0 (v := ?vb0) at0 (by kernel_rfl) (by kernel_rfl) (by kernel_rfl) (by rfl) ?hyb0 hHeld ?restb0
            case hyb0 => (intro w' hSw; go_simp; try with_reducible rfl)
            try simp only [Act.put, List.setIfInBounds_toArray, List.set_cons_zero, List.set_cons_succ]
            refine reg_take 1 (v := ?vb1) (atS at0) (by kernel_rfl) (by kernel_rfl) (by kernel_rfl) (by rfl) ?hyb1 hHeld ?restb1
            case hyb1 => (intro w' hSw; go_simp; try with_reducible rfl)
            try simp only [Act.put, List.setIfInBounds_toArray, List.set_cons_zero, List.set_cons_succ]
            refine reg_take 2 (v := ?vb2) (atS (atS at0)) (by kernel_rfl) (by kernel_rfl) (by kernel_rfl) (by rfl) ?hyb2 hHeld ?restb2
            case hyb2 => (intro w' hSw; go_simp; try with_reducible rfl)
            try simp only [Act.put, List.setIfInBounds_toArray, List.set_cons_zero, List.set_cons_succ]
            refine reg_take 3 (v := ?vb3) (atS (atS (atS at0))) (by kernel_rfl) (by kernel_rfl) (by kernel_rfl) (by rfl) ?hyb3 hHeld ?restb3
            case hyb3 => (intro w' hSw; go_simp; try with_reducible rfl)
            try simp only [Act.put, List.setIfInBounds_toArray, List.set_cons_zero, List.set_cons_succ]
            refine reg_take 4 (v := ?vb4) (atS (atS (atS (atS at0)))) (by kernel_rfl) (by kernel_rfl) (by kernel_rfl) (by rfl) ?hyb4 hHeld ?restb4
            case hyb4 => (intro w' hSw; go_simp; try with_reducible rfl)
            try simp only [Act.put, List.setIfInBounds_toArray, List.set_cons_zero, List.set_cons_succ]
            refine reg_take 5 (v := ?vb5) (atS5 at0) (by kernel_rfl) (by kernel_rfl) (by kernel_rfl) (by rfl) ?hyb5 hHeld ?restb5
            case hyb5 => (intro w' hSw; go_simp; try with_reducible rfl)
            try simp only [Act.put, List.setIfInBounds_toArray, List.set_cons_zero, List.set_cons_succ]
            refine reg_take 6 (v := ?vb6) (atS5 (atS at0)) (by kernel_rfl) (by kernel_rfl) (by kernel_rfl) (by rfl) ?hyb6 hHeld ?restb6
            case hyb6 => (intro w' hSw; go_simp; try with_reducible rfl)
            try simp only [Act.put, List.setIfInBounds_toArray, List.set_cons_zero, List.set_cons_succ]
            refine reg_take 7 (v := ?vb7) (atS5 (atS (atS at0))) (by kernel_rfl) (by kernel_rfl) (by kernel_rfl) (by rfl) ?hyb7 hHeld ?restb7
            case hyb7 => (intro w' hSw; go_simp; try with_reducible rfl)
            try simp only [Act.put, List.setIfInBounds_toArray, List.set_cons_zero, List.set_cons_succ]
            refine wpAnyH_ready (rs := [8]) (by kernel_rfl) (by simp) ?_
            refine AllReadyH.cons (atS5 (atS (atS (atS at0)))) (fun K hK => ?_) AllReadyH.nil
            go_simp
            refine (p6set_any (H.out.on (Bt HBW.out hx0a)) HS.out ((HOV.out.grown hx0a).rd2.2) HSL.out f.nm v.k v.n (bs v.t) HVN.out).mono ?_
            rintro e w6 ⟨v6, rfl, ho6, hb6⟩
            rw [← HRR.out] at ho6 ⊢
            have HB6 := hid hb6
            have HO6 := hid (ho6.less (Nat.le_trans HBW.out.size hx0a.size))
            obtain ⟨A6, n6, c6, rfl⟩ := ho6.shape2
            clear ho6 hb6
            go_wp2_with fail
            refine hK.out _ _ HB6.out (fun hHeld => ?_)
            clear hK K
            try simp only [Act.put, List.setIfInBounds_toArray, List.set_cons_zero, List.set_cons_succ]
            refine reg_on HB6.out (fun hHeld => ?_)
            refine reg_take 9 (v := ?vb9) (atS5 (atS (atS (atS (atS at0))))) (by kernel_rfl) (by kernel_rfl) (by kernel_rfl) (by rfl) ?hyb9 hHeld ?restb9
            case hyb9 => (intro w' hSw; go_simp; try with_reducible rfl)
            try simp only [Act.put, List.setIfInBounds_toArray, List.set_cons_zero, List.set_cons_succ]
            refine reg_take 10 (v := ?vb10) (atS5 (atS5 at0)) (by kernel_rfl) (by kernel_rfl) (by kernel_rfl) (by rfl) ?hyb10 hHeld ?restb10
            case hyb10 => (intro w' hSw; go_simp; try with_reducible rfl)
            try simp only [Act.put, List.setIfInBounds_toArray, List.set_cons_zero, List.set_cons_succ]
            refine reg_take 11 (v := ?vb11) (atS5 (atS5 (atS at0))) (by kernel_rfl) (by kernel_rfl) (by kernel_rfl) (by rfl) ?hyb11 hHeld ?restb11
            case hyb11 => (intro w' hSw; go_simp; try with_reducible rfl)
            try simp only [Act.put, List.setIfInBounds_toArray, List.set_cons_zero, List.set_cons_succ]
            refine reg_take 12 (v := ?vb12) (atS5 (atS5 (atS (atS at0)))) (by kernel_rfl) (by kernel_rfl) (by kernel_rfl) (by rfl) ?hyb12 hHeld ?restb12
            case hyb12 => (intro w' hSw; go_simp; try with_reducible rfl)
            try simp only [Act.put, List.setIfInBounds_toArray, List.set_cons_zero, List.set_cons_succ]
            refine reg_take 13 (v := ?vb13) (atS5 (atS5 (atS (atS (atS at0))))) (by kernel_rfl) (by kernel_rfl) (by kernel_rfl) (by rfl) ?hyb13 hHeld ?restb13
            case hyb13 => (intro w' hSw; go_simp; try with_reducible rfl)
            try simp only [Act.put, List.setIfInBounds_toArray, List.set_cons_zero, List.set_cons_succ]
            refine wpAnyH_done (by kernel_rfl) ?_ _
            refine NoPanic.normal ?_
            clear pf0 pv0 pv1 pv2
            have HBr := hid (Bt hx0a HB6.out)
            have HW6 := hid (HWW.out.on HBr.out); have HV6 := hid (HVB.out.on HBr.out); have HBW6 := hid (Bt HBW.out HBr.out)
            have HO56 := hid (HOV.out.grown HBr.out)
            rcases HSS.out with ⟨e0, hsem⟩ | e50
            · rw [e0]
              have HSEM := hid hsem
              obtain ⟨x0, x1, x2, y0, y1, y2⟩ := HW6.out.some hi0l
              have f0 := HW6.out.frozen (i0 * 3); have f1 := HW6.out.frozen (i0 * 3 + 1); have f2 := HW6.out.frozen (i0 * 3 + 2)
              obtain ⟨z0, z1, z2⟩ := HV6.out.cells
              clear e0 hsem
              go_wp2_with fail
              go_region
              go_wp2_with fail
              obtain ⟨wz, hwz⟩ : ∃ wz, wz = (((w6.setCell ⟨g, i0 * 3, none⟩ (.int .i64 v.k)).setCell ⟨g, i0 * 3 + 1, none⟩ (.int .u64 v.n)).setCell ⟨g, i0 * 3 + 2, none⟩ (.string (bs v.t))).drew := ⟨_, rfl⟩
              have HWz : Hid (WasB wz g j (ws.set i0 v)) := by
                rw [hwz]
                exact HW6.out.put hi0l v (by rw [List.length_set, HSM.out.2.1, HL.out]; exact Nat.le_refl _) (by rw [List.getElem?_set_self (by rw [HSM.out.2.1, HL.out]; exact hi0l)]) (fun i x hne hx => by rw [List.getElem?_set_ne (fun c => hne c.symm)] at hx; exact hx)
              have HOz : Hid (Own wz w.heap.size (.slice A6 n6 c6) R.1) := by
                rw [hwz]; exact HO6.out.set3 HW6.out _ _ _ _ _ _
              have HBz : Hid (Below w.heap.size w wz) := by rw [hwz]; exact Bd (below_set3 HBW6.out HGW.out _ _ _ _ _ _) 1
              rw [← hwz]
              clear hwz y0 y1 y2 f0 f1 f2 z0 z1 z2
              have HSL2 : Hid (n6 ≤ 100000) := by
                show _ ≤ _
                have h1 := HSEM.out.1; have h2 := HOz.out.rd2.1; have h3 := layN_bounds HR.out
                omega
              go_loopw [92] (fun i wr' => ∃ j2 : Nat, j2 ≤ j ∧ i = .int .i64 j2 ∧ Hid (Below wz.heap.size wz wr')) (fun i _ => j - (intOf i).toNat)
              case atStart => exact ⟨0, by omega, rfl, B0 _⟩
              case round =>
                obtain ⟨j2, hj2, rfl, HB2⟩ := hrel
                by_cases hl2 : j2 < j
                · obtain ⟨f2, hf2⟩ : ∃ f2, l[j2]? = some f2 := ⟨_, List.getElem?_eq_getElem (by rw [HL.out]; exact hl2)⟩
                  obtain ⟨_, hk64, hg64, hnl, b2, off2, e2, hc2⟩ := H.out.at hf2
                  cases e2
                  obtain ⟨v2, hw2, hg2⟩ := HSEM.out.2.2 j2 f2 hf2
                  have HG2 : Hid (getR R.1 l f2.nm = .tuple #[.agg #[.int .i64 v2.k, .int .u64 v2.n, .string (bs v2.t)], .int .i64 0]) := hg2
                  obtain ⟨c0, cc1, cc2⟩ := hc2 wr (Bt HBz.out HB2.out)
                  have HWS2 := hid hw2
                  obtain ⟨wa, hwa⟩ : ∃ wa, wa = wr.alloc (.cells #[.string (bs f2.nm), .int .i64 f2.k, .int .i64 f2.g] 40) := ⟨_, rfl⟩
                  obtain ⟨fb, hfb⟩ : ∃ fb, fb = wr.heap.size := ⟨_, rfl⟩
                  have HWA := hid hwa; have HFB := hid hfb
                  have HBA : Hid (Below wz.heap.size wz wa) := by rw [hwa]; exact Ba HB2.out _
                  have hj2i : (j2 : Int) < j := by omega
                  have hj20 : (0 : Int) ≤ j2 := by omega
                  clear hc2 hf2 hk64 hg64 hnl hw2 hg2 hwa hfb
                  go_wp2_with fail
                  rw [← HWA.out, ← HFB.out]
                  refine (p6get_any (H.out.on (Bt HBz.out HBA.out)) HS.out ((HOz.out.grown HBA.out).rd2.2) HSL2.out f2.nm).mono ?_
                  rintro e w8 ⟨rfl, hb8⟩
                  rw [HG2.out]
                  have HB8 := hid (Bt HBA.out hb8)
                  clear hb8 c0 cc1 cc2
                  obtain ⟨w9, hw9⟩ : ∃ w9, w9 = w8.alloc (.cells #[.int .i64 v2.k, .int .u64 v2.n, .string (bs v2.t)] 37) := ⟨_, rfl⟩
                  obtain ⟨vb2, hvb2⟩ : ∃ vb2, vb2 = w8.heap.size := ⟨_, rfl⟩
                  have HW9 := hid hw9; have HVB2 := hid hvb2
                  have hV9 : VB w9 vb2 v2.k v2.n (bs v2.t) := by rw [hw9, hvb2]; exact vb_new w8 _ _ _
                  have hb9 : Below w8.heap.size w8 w9 := by rw [hw9]; exact B1 _ _
                  have HB9 := hid (Bt HB8.out hb9)
                  obtain ⟨g0, g1, g2⟩ := hV9.cells
                  obtain ⟨s0, s1, s2⟩ := (HWz.out.on HB9.out).cell HWS2.out
                  clear hw9 hvb2 hb9 hV9
                  go_wp2_with fail
                  rw [← HW9.out, ← HVB2.out]
                  go_quiet (fail)
                  go_wp2_with fail
                  exact ⟨⟨j2 + 1, by omega, by go_num, Bd HB9.out nq⟩, by simp [intOf]; omega⟩
                · obtain rfl : j2 = j := by omega
                  go_wp2_with fail
                  go_roundw
                  case rel => exact ⟨k + 1, A6, n6, c6, R.1, ws.set i0 v, by omega, by simp, rfl, hid (HOz.out.grown HB2.out), hid (HWz.out.on HB2.out), HSEM, hid (Bt HBz.out HB2.out)⟩
                  case measure => simp [intOf]; omega
            · rw [e50]
              clear e50
              go_wp2_with fail
              obtain ⟨wz, hwz⟩ : ∃ wz, wz = w6 := ⟨_, rfl⟩
              have HWz : Hid (WasB wz g j ws) := by rw [hwz]; exact HW6.out
              have HOz : Hid (Own wz w.heap.size (.slice A5 n5 c5) S) := by rw [hwz]; exact HO56.out
              have HBz : Hid (Below w.heap.size w wz) := by rw [hwz]; exact HBW6.out
              have HSEM := HSM
              rw [← hwz]
              clear hwz
              have HSL2 : Hid (n5 ≤ 100000) := by
                show _ ≤ _
                have h1 := HSEM.out.1; have h2 := HOz.out.rd2.1; have h3 := layN_bounds HR.out
                omega
              go_loopw [92] (fun i wr' => ∃ j2 : Nat, j2 ≤ j ∧ i = .int .i64 j2 ∧ Hid (Below wz.heap.size wz wr')) (fun i _ => j - (intOf i).toNat)
              case atStart => exact ⟨0, by omega, rfl, B0 _⟩
              case round =>
                obtain ⟨j2, hj2, rfl, HB2⟩ := hrel
                by_cases hl2 : j2 < j
                · obtain ⟨f2, hf2⟩ : ∃ f2, l[j2]? = some f2 := ⟨_, List.getElem?_eq_getElem (by rw [HL.out]; exact hl2)⟩
                  obtain ⟨_, hk64, hg64, hnl, b2, off2, e2, hc2⟩ := H.out.at hf2
                  cases e2
                  obtain ⟨v2, hw2, hg2⟩ := HSEM.out.2.2 j2 f2 hf2
                  have HG2 : Hid (getR S l f2.nm = .tuple #[.agg #[.int .i64 v2.k, .int .u64 v2.n, .string (bs v2.t)], .int .i64 0]) := hg2
                  obtain ⟨c0, cc1, cc2⟩ := hc2 wr (Bt HBz.out HB2.out)
                  have HWS2 := hid hw2
                  obtain ⟨wa, hwa⟩ : ∃ wa, wa = wr.alloc (.cells #[.string (bs f2.nm), .int .i64 f2.k, .int .i64 f2.g] 40) := ⟨_, rfl⟩
                  obtain ⟨fb, hfb⟩ : ∃ fb, fb = wr.heap.size := ⟨_, rfl⟩
                  have HWA := hid hwa; have HFB := hid hfb
                  have HBA : Hid (Below wz.heap.size wz wa) := by rw [hwa]; exact Ba HB2.out _
                  have hj2i : (j2 : Int) < j := by omega
                  have hj20 : (0 : Int) ≤ j2 := by omega
                  clear hc2 hf2 hk64 hg64 hnl hw2 hg2 hwa hfb
                  go_wp2_with fail
                  rw [← HWA.out, ← HFB.out]
                  refine (p6get_any (H.out.on (Bt HBz.out HBA.out)) HS.out ((HOz.out.grown HBA.out).rd2.2) HSL2.out f2.nm).mono ?_
                  rintro e w8 ⟨rfl, hb8⟩
                  rw [HG2.out]
                  have HB8 := hid (Bt HBA.out hb8)
                  clear hb8 c0 cc1 cc2
                  obtain ⟨w9, hw9⟩ : ∃ w9, w9 = w8.alloc (.cells #[.int .i64 v2.k, .int .u64 v2.n, .string (bs v2.t)] 37) := ⟨_, rfl⟩
                  obtain ⟨vb2, hvb2⟩ : ∃ vb2, vb2 = w8.heap.size := ⟨_, rfl⟩
                  have HW9 := hid hw9; have HVB2 := hid hvb2
                  have hV9 : VB w9 vb2 v2.k v2.n (bs v2.t) := by rw [hw9, hvb2]; exact vb_new w8 _ _ _
                  have hb9 : Below w8.heap.size w8 w9 := by rw [hw9]; exact B1 _ _
                  have HB9 := hid (Bt HB8.out hb9)
                  obtain ⟨g0, g1, g2⟩ := hV9.cells
                  obtain ⟨s0, s1, s2⟩ := (HWz.out.on HB9.out).cell HWS2.out
                  clear hw9 hvb2 hb9 hV9
                  go_wp2_with fail
                  rw [← HW9.out, ← HVB2.out]
                  go_quiet (fail)
                  go_wp2_with fail
                  exact ⟨⟨j2 + 1, by omega, by go_num, Bd HB9.out nq⟩, by simp [intOf]; omega⟩
                · obtain rfl : j2 = j := by omega
                  go_wp2_with fail
                  go_roundw
                  case rel => exact ⟨k + 1, A5, n5, c5, S, ws, by omega, by simp, rfl, hid (HOz.out.grown HB2.out), hid (HWz.out.on HB2.out), HSEM, hid (Bt HBz.out HB2.out)⟩
                  case measure => simp [intOf]; omega
end Go.Proofs.Ytggfcbncjkpkgaa
