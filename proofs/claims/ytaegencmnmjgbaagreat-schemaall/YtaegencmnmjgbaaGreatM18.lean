/-
  Moves and tables in memory; the document's Right of layer 7.
-/
import Derived.Test.YtaegencmnmjgbaaGreatM16
import Derived.Test.YtaegencmnmjgbaaGreatM17
import Derived.Test.YtaegencmnmjgbaaGreatM7

namespace Go.Proofs.YtaegencmnmjgbaaGreat
open Go.RowKit
set_option linter.unusedVariables false
def MvC (w : World) (b off : Nat) (m : Mv) : Prop := w.cell? ⟨b, off, none⟩ = some (.int .i64 m.fr) ∧ w.cell? ⟨b, off + 1, none⟩ = some (.int .i64 m.k) ∧ w.cell? ⟨b, off + 2, none⟩ = some (.int .u64 m.n) ∧ w.cell? ⟨b, off + 3, none⟩ = some (.string m.t)
def RdM (w : World) (B : Nat) (A : Option Addr) (n cap : Nat) (l : List Mv) : Prop :=
  l.length = n ∧ n ≤ cap ∧ cap ≤ maxLen ∧ (∀ m ∈ l, I64 m.fr ∧ I64 m.k ∧ U64 m.n) ∧ (0 < n → ∃ b off, A = some ⟨b, off, none⟩ ∧ b < B ∧ ∀ i (h : i < l.length), MvC w b (off + i * 4) l[i])
section
variable {w w' : World} {B B' n cap : Nat} {A : Option Addr} {l : List Mv}
theorem MvC.below {b off : Nat} {m : Mv} (h : MvC w b off m) (hb : Below B w w') (hlt : b < B) : MvC w' b off m :=
  ⟨(hb.cell (p := ⟨b, off, none⟩) hlt).trans h.1, (hb.cell (p := ⟨b, off + 1, none⟩) hlt).trans h.2.1, (hb.cell (p := ⟨b, off + 2, none⟩) hlt).trans h.2.2.1, (hb.cell (p := ⟨b, off + 3, none⟩) hlt).trans h.2.2.2⟩
theorem RdM.below (h : RdM w B A n cap l) (hb : Below B w w') : RdM w' B A n cap l :=
  ⟨h.1, h.2.1, h.2.2.1, h.2.2.2.1, fun hn => by
    obtain ⟨b, off, e, hlt, hc⟩ := h.2.2.2.2 hn
    exact ⟨b, off, e, hlt, fun i hi => (hc i hi).below hb hlt⟩⟩
theorem RdM.more (h : RdM w B A n cap l) (hB : B ≤ B') : RdM w B' A n cap l :=
  ⟨h.1, h.2.1, h.2.2.1, h.2.2.2.1, fun hn => by
    obtain ⟨b, off, e, hlt, hc⟩ := h.2.2.2.2 hn
    exact ⟨b, off, e, by omega, hc⟩⟩
theorem RdM.on (h : RdM w w.heap.size A n cap l) (hb : Below w.heap.size w w') : RdM w' w'.heap.size A n cap l := (h.below hb).more hb.size
theorem RdM.nil (w : World) (B : Nat) : RdM w B none 0 0 [] := ⟨rfl, by omega, by simp [maxLen], by simp, fun h => by omega⟩
theorem RdM.at (h : RdM w B A n cap l) {i : Nat} {m : Mv} (hi : l[i]? = some m) : i < n ∧ I64 m.fr ∧ I64 m.k ∧ U64 m.n ∧ ∃ b off, A = some ⟨b, off, none⟩ ∧ ∀ w', Below B w w' → MvC w' b (off + i * 4) m := by
  have hl : i < l.length := (List.getElem?_eq_some_iff.1 hi).1
  rw [List.getElem?_eq_getElem hl] at hi
  cases hi
  obtain ⟨b, off, e, hlt, hc⟩ := h.2.2.2.2 (by have := h.1; omega)
  obtain ⟨h1, h2, h3⟩ := h.2.2.2.1 _ (List.getElem_mem hl)
  exact ⟨by have := h.1; omega, h1, h2, h3, b, off, e, fun w' hb => (hc i hl).below hb hlt⟩
end
def RdT (w : World) (B : Nat) (v : Value) (T : Tb) : Prop := ∃ A n c A2 n2 c2 A3 n3 c3, v = .agg #[.slice A n c, .slice A2 n2 c2, .slice A3 n3 c3] ∧ RdF w B A n c T.o ∧ RdF w B A2 n2 c2 T.nw ∧ RdM w B A3 n3 c3 T.mv
theorem RdT.on {w w' : World} {v : Value} {T : Tb} (h : RdT w w.heap.size v T) (hb : Below w.heap.size w w') : RdT w' w'.heap.size v T := by
  obtain ⟨A, n, c, A2, n2, c2, A3, n3, c3, e, h1, h2, h3⟩ := h
  exact ⟨A, n, c, A2, n2, c2, A3, n3, c3, e, h1.on hb, h2.on hb, h3.on hb⟩
def shortT (T : Tb) : Prop := short T.o ∧ short T.nw
def MB (w : World) (b : Nat) (m : Mv) (ty : TypeId) : Prop := w.heap[b]? = some (.cells #[.int .i64 m.fr, .int .i64 m.k, .int .u64 m.n, .string m.t] ty (0, 0))
def TBx (w : World) (b : Nat) (v1 v2 v3 : Value) (ty : TypeId) : Prop := w.heap[b]? = some (.cells #[v1, v2, v3] ty (0, 0))
section
variable {w w' : World} {b B : Nat} {m : Mv} {v1 v2 v3 : Value} {ty : TypeId}
theorem mb_new (w : World) (m : Mv) (ty : TypeId) : MB (w.alloc (.cells #[.int .i64 m.fr, .int .i64 m.k, .int .u64 m.n, .string m.t] ty)) w.heap.size m ty := heap_alloc_new w _
theorem tb_new (w : World) (v1 v2 v3 : Value) (ty : TypeId) : TBx (w.alloc (.cells #[v1, v2, v3] ty)) w.heap.size v1 v2 v3 ty := heap_alloc_new w _
theorem MB.lt (h : MB w b m ty) : b < w.heap.size := row_lt h
theorem TBx.lt (h : TBx w b v1 v2 v3 ty) : b < w.heap.size := row_lt h
theorem MB.below (h : MB w b m ty) (hb : Below B w w') (hlt : b < B) : MB w' b m ty := (hb.block b hlt).trans h
theorem TBx.below (h : TBx w b v1 v2 v3 ty) (hb : Below B w w') (hlt : b < B) : TBx w' b v1 v2 v3 ty := (hb.block b hlt).trans h
theorem MB.on (h : MB w b m ty) (hb : Below w.heap.size w w') : MB w' b m ty := h.below hb h.lt
theorem TBx.on (h : TBx w b v1 v2 v3 ty) (hb : Below w.heap.size w w') : TBx w' b v1 v2 v3 ty := h.below hb h.lt
theorem MB.cells (h : MB w b m ty) : w.cell? ⟨b, 0, none⟩ = some (.int .i64 m.fr) ∧ w.cell? ⟨b, 1, none⟩ = some (.int .i64 m.k) ∧ w.cell? ⟨b, 2, none⟩ = some (.int .u64 m.n) ∧ w.cell? ⟨b, 3, none⟩ = some (.string m.t) := ⟨row_cell h 0, row_cell h 1, row_cell h 2, row_cell h 3⟩
theorem TBx.cells (h : TBx w b v1 v2 v3 ty) : w.cell? ⟨b, 0, none⟩ = some v1 ∧ w.cell? ⟨b, 1, none⟩ = some v2 ∧ w.cell? ⟨b, 2, none⟩ = some v3 := ⟨row_cell h 0, row_cell h 1, row_cell h 2⟩
end
theorem toList_nil {t : ByteArray} (h : t.toList = []) : t.size = 0 := by
  rw [ByteArray.toList_eq] at h
  show t.data.size = 0
  rw [← Array.length_toList, h]; rfl
theorem toList_ne {t : ByteArray} (h : ¬ t.toList = []) : ¬ t.size = 0 := fun e => h (by rw [size_nil t e, ByteArray.toList_eq])
set_option maxRecDepth 20000 in
set_option maxHeartbeats 8000000 in
theorem r7right_any {w : World} {v : Value} {T : Tb} (h : RdT w w.heap.size v T) (hs : shortT T) :
    Calls Tryz.prog 78 #[v] w fun e w' => e = .returned (.bool (rightT T)) ∧ Below w.heap.size w w' := by
  obtain ⟨A, n, c, A2, n2, c2, A3, n3, c3, rfl, h1, h2, h3⟩ := h
  obtain ⟨w0, hw0⟩ : ∃ w0, w0 = w.alloc (.cells #[.slice A n c, .slice A2 n2 c2, .slice A3 n3 c3] 110) := ⟨_, rfl⟩
  have HW0 := hid hw0
  have HB0 : Hid (Below w.heap.size w w0) := by rw [hw0]; exact B1 _ _
  obtain ⟨bx, hbx⟩ : ∃ bx, bx = w.heap.size := ⟨_, rfl⟩
  have HBX := hid hbx
  have HT0 : Hid (TBx w0 bx (.slice A n c) (.slice A2 n2 c2) (.slice A3 n3 c3) 110) := by rw [hw0, hbx]; exact tb_new w _ _ _ _
  have hnm : (n : Int) ≤ 9223372036854775807 := by have := Nat.le_trans h1.2.1 h1.2.2.1; unfold maxLen at this; omega
  have hnm2 : (n2 : Int) ≤ 9223372036854775807 := by have := Nat.le_trans h2.2.1 h2.2.2.1; unfold maxLen at this; omega
  have hnm3 : (n3 : Int) ≤ 9223372036854775807 := by have := Nat.le_trans h3.2.1 h3.2.2.1; unfold maxLen at this; omega
  have H1 := hid (h1.on HB0.out); have H2 := hid (h2.on HB0.out); have H3 := hid (h3.on HB0.out); have HS := hid hs.1; have HS2 := hid hs.2
  clear h1 h2 h3 hs hw0 hbx
  have L1 : Hid (T.o.length = n) := H1.out.1
  have L2 : Hid (T.nw.length = n2) := H2.out.1
  have L3 : Hid (T.mv.length = n3) := H3.out.1
  go_enter Tryz.func78, Tryz.ntmps78
  go_wp2_with fail
  rw [← HW0.out, ← HBX.out]
  refine (r6right_any H1.out HS.out).mono ?_
  rintro e w1 ⟨rfl, hb1⟩
  obtain ⟨r1, hr1⟩ : ∃ r1, r1 = rightL T.o := ⟨_, rfl⟩
  obtain ⟨r2, hr2⟩ : ∃ r2, r2 = rightL T.nw := ⟨_, rfl⟩
  rw [← hr1]
  have HR1 := hid hr1; have HR2 := hid hr2; have HB1 := hid hb1
  obtain ⟨c0, cc1, cc2⟩ := (HT0.out.on hb1).cells
  clear hr1 hr2 hb1
  cases r1 with
  | false =>
    have HE : Hid (rightT T = false) := by show _ = _; unfold rightT; rw [← HR1.out]; rfl
    go_wp2_with fail
    go_ret
    exact ⟨by rw [HE.out]; rfl, Bt HB0.out HB1.out⟩
  | true =>
    go_wp2_with fail
    refine (r6right_any (H2.out.on HB1.out) HS2.out).mono ?_
    rintro e w2 ⟨rfl, hb2⟩
    rw [← HR2.out]
    have HB2 := hid (Bt HB1.out hb2)
    obtain ⟨c0, cc1, cc2⟩ := (HT0.out.on HB2.out).cells
    clear hb2
    cases r2 with
    | false =>
      have HE : Hid (rightT T = false) := by show _ = _; unfold rightT; rw [← HR1.out, ← HR2.out]; rfl
      go_wp2_with fail
      go_ret
      exact ⟨by rw [HE.out]; rfl, Bt HB0.out HB2.out⟩
    | true =>
      by_cases hlen : n3 = n2
      · subst hlen
        go_wp2_with fail
        go_loopw [3] (fun i wr => ∃ j : Nat, j ≤ n3 ∧ i = .int .i64 j ∧ Hid (∀ (x : Nat) m f, x < j → T.mv[x]? = some m → T.nw[x]? = some f → mvB T.o m f = true) ∧ Hid (Below w0.heap.size w0 wr)) (fun i _ => n3 - (intOf i).toNat)
        case atStart => exact ⟨0, by omega, rfl, hid (fun x _ _ hm => absurd hm (by omega)), HB2⟩
        case round =>
          obtain ⟨j, hj, rfl, HA, HB⟩ := hrel
          obtain ⟨c0, cc1, cc2⟩ := (HT0.out.on HB.out).cells
          by_cases hlt : j < n3
          · obtain ⟨m, hm⟩ : ∃ m, T.mv[j]? = some m := ⟨_, List.getElem?_eq_getElem (by have := L3.out; omega)⟩
            obtain ⟨f, hf⟩ : ∃ f, T.nw[j]? = some f := ⟨_, List.getElem?_eq_getElem (by have := L2.out; omega)⟩
            obtain ⟨_, hf64, hk64, hnu, b, off, rfl, hc⟩ := H3.out.at hm
            obtain ⟨_, hfk, hfg, hfn, b2, off2, rfl, hc2⟩ := H2.out.at hf
            have HM := hid hm; have HF := hid hf; have HC := hid hc; have HC2 := hid hc2
            have HMB := hid (mb_new wr m 150)
            have HTB := hid (HT0.out.on (Ba HB.out (.cells #[.int .i64 m.fr, .int .i64 m.k, .int .u64 m.n, .string m.t] 150)))
            obtain ⟨d0, d1, d2, d3⟩ := hc wr HB.out
            have hji : (j : Int) < n3 := by omega
            have hj0 : (0 : Int) ≤ j := by omega
            clear hm hf hc hc2
            obtain ⟨e0, e1, e2⟩ := HTB.out.cells
            obtain ⟨f0, f1, f2, f3⟩ := HMB.out.cells
            have HNX : Hid (mvB T.o m f = true → ∀ (x : Nat) m f, x < j + 1 → T.mv[x]? = some m → T.nw[x]? = some f → mvB T.o m f = true) := hid (fun hh x m' f' hx hm' hf' => by
              by_cases e : x = j
              · subst e; rw [HM.out] at hm'; cases hm'; rw [HF.out] at hf'; cases hf'; exact hh
              · exact HA.out x m' f' (by omega) hm' hf')
            have HNO : Hid (mvB T.o m f = false → rightT T = false) := hid (fun hh => rightT_no HM.out HF.out hh)
            have HBA : Hid (Below w0.heap.size w0 (wr.alloc (.cells #[.int .i64 m.fr, .int .i64 m.k, .int .u64 m.n, .string m.t] 150))) := Ba HB.out _
            obtain ⟨V, hV⟩ : ∃ V, V = wr.alloc (.cells #[.int .i64 m.fr, .int .i64 m.k, .int .u64 m.n, .string m.t] 150) := ⟨_, rfl⟩
            obtain ⟨p, hp⟩ : ∃ p, p = wr.heap.size := ⟨_, rfl⟩
            have HV := hid hV; have HP := hid hp
            by_cases g1 : m.fr < -1 ∨ (n : Int) ≤ m.fr
            · have HE : Hid (rightT T = false) := hid (HNO.out (mvB_out (by have := L1.out; omega)))
              by_cases g2 : m.fr < -1
              · have t1 : decide (m.fr < -1) = true := decide_eq_true g2
                clear hV hp
                go_wp2_with fail
                go_ret
                exact ⟨by rw [HE.out]; rfl, Bt HB0.out HBA.out⟩
              · have t1 : decide (m.fr < -1) = false := decide_eq_false g2
                have t2 : decide ((n : Int) ≤ m.fr) = true := decide_eq_true (by omega)
                clear hV hp
                go_wp2_with fail
                go_ret
                exact ⟨by rw [HE.out]; rfl, Bt HB0.out HBA.out⟩
            · have t1 : decide (m.fr < -1) = false := decide_eq_false (by omega)
              have t2 : decide ((n : Int) ≤ m.fr) = false := decide_eq_false (by omega)
              clear hV hp
              go_wp2_with fail
              rw [← HV.out, ← HP.out]
              rw [← HV.out, ← HP.out] at HMB
              rw [← HV.out] at HTB HBA
              clear f0 f1 f2 f3 e0 e1 e2 c0 cc1 cc2 d0 d1 d2 d3
              by_cases g3 : m.fr = -1
              · have t3 : (m.fr == -1) = true := by simpa using g3
                have t4 : decide (0 ≤ m.fr) = false := decide_eq_false (by omega)
                have HW3 : Hid (mvB T.o m f = (rightF m.k m.n m.t.size f.k f.g && (decide (f.k ≠ 11) || decide (m.n = 0)))) := hid (mvB_new g3)
                obtain ⟨rb, hrb⟩ : ∃ rb, rb = rightF m.k m.n m.t.size f.k f.g := ⟨_, rfl⟩
                have HRB := hid hrb
                rw [← hrb] at HW3
                clear hrb
                cases rb
                · have HE : Hid (rightT T = false) := hid (HNO.out (by rw [HW3.out]; rfl))
                  refine reg_begin (by kernel_rfl) (fun w0a hx0a hHeld => ?_)
                  have q0 : ∀ w', Ext w0a w' → MB w' p m 150 := fun w' h => (HMB.out.on (Bt (B0 _) hx0a)).on h
                  have q1 := fun w' h => (q0 w' h).cells.1
                  have q2 := fun w' h => (q0 w' h).cells.2.1
                  have q3 := fun w' h => (q0 w' h).cells.2.2.1
                  have q4 := fun w' h => (q0 w' h).cells.2.2.2
                  have s0 : ∀ w', Ext w0a w' → TBx w' bx (.slice A n c) (.slice (some ⟨b2, off2, none⟩) n3 c2) (.slice (some ⟨b, off, none⟩) n3 c3) 110 := fun w' h => (HTB.out.on (Bt (B0 _) hx0a)).on h
                  have s1 := fun w' h => (s0 w' h).cells.2.1
                  have s2 := fun w' h => (s0 w' h).cells.1
                  have y0 : ∀ w', Ext w0a w' → FdC w' b2 (off2 + j * 3) f := fun w' h => HC2.out w' (Bt (Bt (Bt HBA.out (B0 _)) hx0a) h)
                  have y1 := fun w' h => (y0 w' h).1
                  have y2 := fun w' h => (y0 w' h).2.1
                  have y3 := fun w' h => (y0 w' h).2.2
                  clear q0 s0 y0
                  refine reg_take 0 (v := ?vb0) at0 (by kernel_rfl) (by kernel_rfl) (by kernel_rfl) (by rfl) ?hyb0 hHeld ?restb0
                  case hyb0 => (intro w' hSw; go_simp; try with_reducible rfl)
                  try simp only [Act.put, List.setIfInBounds_toArray, List.set_cons_zero, List.set_cons_succ]
                  refine reg_take 1 (v := ?vb1) (atS at0) (by kernel_rfl) (by kernel_rfl) (by kernel_rfl) (by rfl) ?hyb1 hHeld ?restb1
                  case hyb1 => (intro w' hSw; go_simp; try with_reducible rfl)
                  try simp only [Act.put, List.setIfInBounds_toArray, List.set_cons_zero, List.set_cons_succ]
                  refine reg_take 2 (v := ?vb2) (atS (atS at0)) (by kernel_rfl) (by kernel_rfl) (by kernel_rfl) (by rfl) ?hyb2 hHeld ?restb2
                  case hyb2 => (intro w' hSw; go_simp; try with_reducible rfl)
                  try simp only [Act.put, List.setIfInBounds_toArray, List.set_cons_zero, List.set_cons_succ]
                  refine reg_take 3 (v := ?vb3) (atS (atS (atS at0))) (by kernel_rfl) (by kernel_rfl) (by kernel_rfl) (by rfl) ?hyb3 hHeld ?restb3
                  case hyb3 => (intro w' hSw; go_simp; try with_reducible rfl)
                  try simp only [Act.put, List.setIfInBounds_toArray, List.set_cons_zero, List.set_cons_succ]
                  refine reg_take 4 (v := ?vb4) (atS (atS (atS (atS at0)))) (by kernel_rfl) (by kernel_rfl) (by kernel_rfl) (by rfl) ?hyb4 hHeld ?restb4
                  case hyb4 => (intro w' hSw; go_simp; try with_reducible rfl)
                  try simp only [Act.put, List.setIfInBounds_toArray, List.set_cons_zero, List.set_cons_succ]
                  refine reg_take 5 (v := ?vb5) (atS5 at0) (by kernel_rfl) (by kernel_rfl) (by kernel_rfl) (by rfl) ?hyb5 hHeld ?restb5
                  case hyb5 => (intro w' hSw; go_simp; try with_reducible rfl)
                  try simp only [Act.put, List.setIfInBounds_toArray, List.set_cons_zero, List.set_cons_succ]
                  refine reg_take 6 (v := ?vb6) (atS5 (atS at0)) (by kernel_rfl) (by kernel_rfl) (by kernel_rfl) (by rfl) ?hyb6 hHeld ?restb6
                  case hyb6 => (intro w' hSw; go_simp; try with_reducible rfl)
                  try simp only [Act.put, List.setIfInBounds_toArray, List.set_cons_zero, List.set_cons_succ]
                  refine reg_take 7 (v := ?vb7) (atS5 (atS (atS at0))) (by kernel_rfl) (by kernel_rfl) (by kernel_rfl) (by rfl) ?hyb7 hHeld ?restb7
                  case hyb7 => (intro w' hSw; go_simp; try with_reducible rfl)
                  try simp only [Act.put, List.setIfInBounds_toArray, List.set_cons_zero, List.set_cons_succ]
                  refine reg_take 8 (v := ?vb8) (atS5 (atS (atS (atS at0)))) (by kernel_rfl) (by kernel_rfl) (by kernel_rfl) (by rfl) ?hyb8 hHeld ?restb8
                  case hyb8 => (intro w' hSw; go_simp; try with_reducible rfl)
                  try simp only [Act.put, List.setIfInBounds_toArray, List.set_cons_zero, List.set_cons_succ]
                  refine reg_take 9 (v := ?vb9) (atS5 (atS (atS (atS (atS at0))))) (by kernel_rfl) (by kernel_rfl) (by kernel_rfl) (by rfl) ?hyb9 hHeld ?restb9
                  case hyb9 => (intro w' hSw; go_simp; try with_reducible rfl)
                  try simp only [Act.put, List.setIfInBounds_toArray, List.set_cons_zero, List.set_cons_succ]
                  refine reg_take 10 (v := ?vb10) (atS5 (atS5 at0)) (by kernel_rfl) (by kernel_rfl) (by kernel_rfl) (by rfl) ?hyb10 hHeld ?restb10
                  case hyb10 => (intro w' hSw; go_simp; try with_reducible rfl)
                  try simp only [Act.put, List.setIfInBounds_toArray, List.set_cons_zero, List.set_cons_succ]
                  refine wpAnyH_ready (rs := [11]) (by kernel_rfl) (by simp) ?_
                  refine AllReadyH.cons (atS5 (atS5 (atS at0))) (fun K hK => ?_) AllReadyH.nil
                  go_simp
                  refine (rright_any m.k m.n m.t (bs f.nm) f.k f.g _ hnu).mono ?_
                  rintro e w4 ⟨rfl, hb4⟩
                  rw [← HRB.out]
                  go_wp2_with fail
                  refine hK.out _ _ hb4 (fun hHeld => ?_)
                  clear hK K
                  try simp only [Act.put, List.setIfInBounds_toArray, List.set_cons_zero, List.set_cons_succ]
                  refine reg_on hb4 (fun hHeld => ?_)
                  refine reg_take 12 (v := ?vb12) (atS5 (atS5 (atS (atS at0)))) (by kernel_rfl) (by kernel_rfl) (by kernel_rfl) (by rfl) ?hyb12 hHeld ?restb12
                  case hyb12 => (intro w' hSw; go_simp; try with_reducible rfl)
                  try simp only [Act.put, List.setIfInBounds_toArray, List.set_cons_zero, List.set_cons_succ]
                  refine reg_take 13 (v := ?vb13) (atS5 (atS5 (atS (atS (atS at0))))) (by kernel_rfl) (by kernel_rfl) (by kernel_rfl) (by rfl) ?hyb13 hHeld ?restb13
                  case hyb13 => (intro w' hSw; go_simp; try with_reducible rfl)
                  try simp only [Act.put, List.setIfInBounds_toArray, List.set_cons_zero, List.set_cons_succ]
                  refine reg_skip 14 (atS5 (atS5 (atS (atS (atS (atS at0)))))) (by kernel_rfl) (by kernel_rfl) (by kernel_rfl) (by rfl) hHeld ?_
                  try simp only [Act.put, List.setIfInBounds_toArray, List.set_cons_zero, List.set_cons_succ]
                  refine reg_skip 15 (atS5 (atS5 (atS5 at0))) (by kernel_rfl) (by kernel_rfl) (by kernel_rfl) (by rfl) hHeld ?_
                  try simp only [Act.put, List.setIfInBounds_toArray, List.set_cons_zero, List.set_cons_succ]
                  refine reg_skip 16 (atS5 (atS5 (atS5 (atS at0)))) (by kernel_rfl) (by kernel_rfl) (by kernel_rfl) (by rfl) hHeld ?_
                  try simp only [Act.put, List.setIfInBounds_toArray, List.set_cons_zero, List.set_cons_succ]
                  refine reg_skip 17 (atS5 (atS5 (atS5 (atS (atS at0))))) (by kernel_rfl) (by kernel_rfl) (by kernel_rfl) (by rfl) hHeld ?_
                  try simp only [Act.put, List.setIfInBounds_toArray, List.set_cons_zero, List.set_cons_succ]
                  refine reg_skip 18 (atS5 (atS5 (atS5 (atS (atS (atS at0)))))) (by kernel_rfl) (by kernel_rfl) (by kernel_rfl) (by rfl) hHeld ?_
                  try simp only [Act.put, List.setIfInBounds_toArray, List.set_cons_zero, List.set_cons_succ]
                  refine reg_skip 19 (atS5 (atS5 (atS5 (atS (atS (atS (atS at0))))))) (by kernel_rfl) (by kernel_rfl) (by kernel_rfl) (by rfl) hHeld ?_
                  try simp only [Act.put, List.setIfInBounds_toArray, List.set_cons_zero, List.set_cons_succ]
                  refine reg_skip 20 (atS5 (atS5 (atS5 (atS5 at0)))) (by kernel_rfl) (by kernel_rfl) (by kernel_rfl) (by rfl) hHeld ?_
                  try simp only [Act.put, List.setIfInBounds_toArray, List.set_cons_zero, List.set_cons_succ]
                  refine reg_skip 21 (atS5 (atS5 (atS5 (atS5 (atS at0))))) (by kernel_rfl) (by kernel_rfl) (by kernel_rfl) (by rfl) hHeld ?_
                  try simp only [Act.put, List.setIfInBounds_toArray, List.set_cons_zero, List.set_cons_succ]
                  refine reg_skip 22 (atS5 (atS5 (atS5 (atS5 (atS (atS at0)))))) (by kernel_rfl) (by kernel_rfl) (by kernel_rfl) (by rfl) hHeld ?_
                  try simp only [Act.put, List.setIfInBounds_toArray, List.set_cons_zero, List.set_cons_succ]
                  refine reg_skip 23 (atS5 (atS5 (atS5 (atS5 (atS (atS (atS at0))))))) (by kernel_rfl) (by kernel_rfl) (by kernel_rfl) (by rfl) hHeld ?_
                  try simp only [Act.put, List.setIfInBounds_toArray, List.set_cons_zero, List.set_cons_succ]
                  refine reg_skip 24 (atS5 (atS5 (atS5 (atS5 (atS (atS (atS (atS at0)))))))) (by kernel_rfl) (by kernel_rfl) (by kernel_rfl) (by rfl) hHeld ?_
                  try simp only [Act.put, List.setIfInBounds_toArray, List.set_cons_zero, List.set_cons_succ]
                  refine reg_skip 25 (atS5 (atS5 (atS5 (atS5 (atS5 at0))))) (by kernel_rfl) (by kernel_rfl) (by kernel_rfl) (by rfl) hHeld ?_
                  try simp only [Act.put, List.setIfInBounds_toArray, List.set_cons_zero, List.set_cons_succ]
                  refine reg_skip 26 (atS5 (atS5 (atS5 (atS5 (atS5 (atS at0)))))) (by kernel_rfl) (by kernel_rfl) (by kernel_rfl) (by rfl) hHeld ?_
                  try simp only [Act.put, List.setIfInBounds_toArray, List.set_cons_zero, List.set_cons_succ]
                  refine reg_take 27 (v := ?vb27) (atS5 (atS5 (atS5 (atS5 (atS5 (atS (atS at0))))))) (by kernel_rfl) (by kernel_rfl) (by kernel_rfl) (by rfl) ?hyb27 hHeld ?restb27
                  case hyb27 => (intro w' hSw; go_simp; try with_reducible rfl)
                  try simp only [Act.put, List.setIfInBounds_toArray, List.set_cons_zero, List.set_cons_succ]
                  refine reg_take 28 (v := ?vb28) (atS5 (atS5 (atS5 (atS5 (atS5 (atS (atS (atS at0)))))))) (by kernel_rfl) (by kernel_rfl) (by kernel_rfl) (by rfl) ?hyb28 hHeld ?restb28
                  case hyb28 => (intro w' hSw; go_simp; try with_reducible rfl)
                  try simp only [Act.put, List.setIfInBounds_toArray, List.set_cons_zero, List.set_cons_succ]
                  refine wpAnyH_done (by kernel_rfl) ?_ _
                  refine NoPanic.normal ?_
                  clear q1 q2 q3 q4 s1 s2 y1 y2 y3
                  go_wp2_with fail
                  go_ret
                  exact ⟨by rw [HE.out]; rfl, Bt HB0.out (Bt HBA.out (Bt (Bt (B0 _) hx0a) hb4))⟩
                · by_cases g4 : f.k = 11
                  · have t5 : (f.k == 11) = true := by simpa using g4
                    have G4 := hid g4
                    clear g4
                    by_cases g5 : m.n = 0
                    · have t6 : (m.n != 0) = false := by simpa using g5
                      have G5 := hid g5
                      clear g5
                      refine reg_begin (by kernel_rfl) (fun w0b hx0b hHeld => ?_)
                      have q0 : ∀ w', Ext w0b w' → MB w' p m 150 := fun w' h => (HMB.out.on (Bt (B0 _) hx0b)).on h
                      have q1 := fun w' h => (q0 w' h).cells.1
                      have q2 := fun w' h => (q0 w' h).cells.2.1
                      have q3 := fun w' h => (q0 w' h).cells.2.2.1
                      have q4 := fun w' h => (q0 w' h).cells.2.2.2
                      have s0 : ∀ w', Ext w0b w' → TBx w' bx (.slice A n c) (.slice (some ⟨b2, off2, none⟩) n3 c2) (.slice (some ⟨b, off, none⟩) n3 c3) 110 := fun w' h => (HTB.out.on (Bt (B0 _) hx0b)).on h
                      have s1 := fun w' h => (s0 w' h).cells.2.1
                      have s2 := fun w' h => (s0 w' h).cells.1
                      have y0 : ∀ w', Ext w0b w' → FdC w' b2 (off2 + j * 3) f := fun w' h => HC2.out w' (Bt (Bt (Bt HBA.out (B0 _)) hx0b) h)
                      have y1 := fun w' h => (y0 w' h).1
                      have y2 := fun w' h => (y0 w' h).2.1
                      have y3 := fun w' h => (y0 w' h).2.2
                      clear q0 s0 y0
                      refine reg_take 0 (v := ?vc0) at0 (by kernel_rfl) (by kernel_rfl) (by kernel_rfl) (by rfl) ?hyc0 hHeld ?restc0
                      case hyc0 => (intro w' hSw; go_simp; try with_reducible rfl)
                      try simp only [Act.put, List.setIfInBounds_toArray, List.set_cons_zero, List.set_cons_succ]
                      refine reg_take 1 (v := ?vc1) (atS at0) (by kernel_rfl) (by kernel_rfl) (by kernel_rfl) (by rfl) ?hyc1 hHeld ?restc1
                      case hyc1 => (intro w' hSw; go_simp; try with_reducible rfl)
                      try simp only [Act.put, List.setIfInBounds_toArray, List.set_cons_zero, List.set_cons_succ]
                      refine reg_take 2 (v := ?vc2) (atS (atS at0)) (by kernel_rfl) (by kernel_rfl) (by kernel_rfl) (by rfl) ?hyc2 hHeld ?restc2
                      case hyc2 => (intro w' hSw; go_simp; try with_reducible rfl)
                      try simp only [Act.put, List.setIfInBounds_toArray, List.set_cons_zero, List.set_cons_succ]
                      refine reg_take 3 (v := ?vc3) (atS (atS (atS at0))) (by kernel_rfl) (by kernel_rfl) (by kernel_rfl) (by rfl) ?hyc3 hHeld ?restc3
                      case hyc3 => (intro w' hSw; go_simp; try with_reducible rfl)
                      try simp only [Act.put, List.setIfInBounds_toArray, List.set_cons_zero, List.set_cons_succ]
                      refine reg_take 4 (v := ?vc4) (atS (atS (atS (atS at0)))) (by kernel_rfl) (by kernel_rfl) (by kernel_rfl) (by rfl) ?hyc4 hHeld ?restc4
                      case hyc4 => (intro w' hSw; go_simp; try with_reducible rfl)
                      try simp only [Act.put, List.setIfInBounds_toArray, List.set_cons_zero, List.set_cons_succ]
                      refine reg_take 5 (v := ?vc5) (atS5 at0) (by kernel_rfl) (by kernel_rfl) (by kernel_rfl) (by rfl) ?hyc5 hHeld ?restc5
                      case hyc5 => (intro w' hSw; go_simp; try with_reducible rfl)
                      try simp only [Act.put, List.setIfInBounds_toArray, List.set_cons_zero, List.set_cons_succ]
                      refine reg_take 6 (v := ?vc6) (atS5 (atS at0)) (by kernel_rfl) (by kernel_rfl) (by kernel_rfl) (by rfl) ?hyc6 hHeld ?restc6
                      case hyc6 => (intro w' hSw; go_simp; try with_reducible rfl)
                      try simp only [Act.put, List.setIfInBounds_toArray, List.set_cons_zero, List.set_cons_succ]
                      refine reg_take 7 (v := ?vc7) (atS5 (atS (atS at0))) (by kernel_rfl) (by kernel_rfl) (by kernel_rfl) (by rfl) ?hyc7 hHeld ?restc7
                      case hyc7 => (intro w' hSw; go_simp; try with_reducible rfl)
                      try simp only [Act.put, List.setIfInBounds_toArray, List.set_cons_zero, List.set_cons_succ]
                      refine reg_take 8 (v := ?vc8) (atS5 (atS (atS (atS at0)))) (by kernel_rfl) (by kernel_rfl) (by kernel_rfl) (by rfl) ?hyc8 hHeld ?restc8
                      case hyc8 => (intro w' hSw; go_simp; try with_reducible rfl)
                      try simp only [Act.put, List.setIfInBounds_toArray, List.set_cons_zero, List.set_cons_succ]
                      refine reg_take 9 (v := ?vc9) (atS5 (atS (atS (atS (atS at0))))) (by kernel_rfl) (by kernel_rfl) (by kernel_rfl) (by rfl) ?hyc9 hHeld ?restc9
                      case hyc9 => (intro w' hSw; go_simp; try with_reducible rfl)
                      try simp only [Act.put, List.setIfInBounds_toArray, List.set_cons_zero, List.set_cons_succ]
                      refine reg_take 10 (v := ?vc10) (atS5 (atS5 at0)) (by kernel_rfl) (by kernel_rfl) (by kernel_rfl) (by rfl) ?hyc10 hHeld ?restc10
                      case hyc10 => (intro w' hSw; go_simp; try with_reducible rfl)
                      try simp only [Act.put, List.setIfInBounds_toArray, List.set_cons_zero, List.set_cons_succ]
                      refine wpAnyH_ready (rs := [11]) (by kernel_rfl) (by simp) ?_
                      refine AllReadyH.cons (atS5 (atS5 (atS at0))) (fun K hK => ?_) AllReadyH.nil
                      go_simp
                      refine (rright_any m.k m.n m.t (bs f.nm) f.k f.g _ hnu).mono ?_
                      rintro e w4 ⟨rfl, hb4⟩
                      rw [← HRB.out]
                      go_wp2_with fail
                      refine hK.out _ _ hb4 (fun hHeld => ?_)
                      clear hK K
                      try simp only [Act.put, List.setIfInBounds_toArray, List.set_cons_zero, List.set_cons_succ]
                      refine reg_on hb4 (fun hHeld => ?_)
                      have s1' := fun w' h => s1 w' (Ext.trans hb4 h)
                      have q3' := fun w' h => q3 w' (Ext.trans hb4 h)
                      have y2' := fun w' h => y2 w' (Ext.trans hb4 h)
                      refine reg_take 12 (v := ?vc12) (atS5 (atS5 (atS (atS at0)))) (by kernel_rfl) (by kernel_rfl) (by kernel_rfl) (by rfl) ?hyc12 hHeld ?restc12
                      case hyc12 => (intro w' hSw; go_simp; try with_reducible rfl)
                      try simp only [Act.put, List.setIfInBounds_toArray, List.set_cons_zero, List.set_cons_succ]
                      refine reg_take 13 (v := ?vc13) (atS5 (atS5 (atS (atS (atS at0))))) (by kernel_rfl) (by kernel_rfl) (by kernel_rfl) (by rfl) ?hyc13 hHeld ?restc13
                      case hyc13 => (intro w' hSw; go_simp; try with_reducible rfl)
                      try simp only [Act.put, List.setIfInBounds_toArray, List.set_cons_zero, List.set_cons_succ]
                      refine reg_take 14 (v := ?vc14) (atS5 (atS5 (atS (atS (atS (atS at0)))))) (by kernel_rfl) (by kernel_rfl) (by kernel_rfl) (by rfl) ?hyc14 hHeld ?restc14
                      case hyc14 => (intro w' hSw; go_simp; try with_reducible rfl)
                      try simp only [Act.put, List.setIfInBounds_toArray, List.set_cons_zero, List.set_cons_succ]
                      refine reg_take 15 (v := ?vc15) (atS5 (atS5 (atS5 at0))) (by kernel_rfl) (by kernel_rfl) (by kernel_rfl) (by rfl) ?hyc15 hHeld ?restc15
                      case hyc15 => (intro w' hSw; go_simp; try with_reducible rfl)
                      try simp only [Act.put, List.setIfInBounds_toArray, List.set_cons_zero, List.set_cons_succ]
                      refine reg_take 16 (v := ?vc16) (atS5 (atS5 (atS5 (atS at0)))) (by kernel_rfl) (by kernel_rfl) (by kernel_rfl) (by rfl) ?hyc16 hHeld ?restc16
                      case hyc16 => (intro w' hSw; go_simp; try with_reducible rfl)
                      try simp only [Act.put, List.setIfInBounds_toArray, List.set_cons_zero, List.set_cons_succ]
                      refine reg_take 17 (v := ?vc17) (atS5 (atS5 (atS5 (atS (atS at0))))) (by kernel_rfl) (by kernel_rfl) (by kernel_rfl) (by rfl) ?hyc17 hHeld ?restc17
                      case hyc17 => (intro w' hSw; go_simp; try with_reducible rfl)
                      try simp only [Act.put, List.setIfInBounds_toArray, List.set_cons_zero, List.set_cons_succ]
                      refine reg_take 18 (v := ?vc18) (atS5 (atS5 (atS5 (atS (atS (atS at0)))))) (by kernel_rfl) (by kernel_rfl) (by kernel_rfl) (by rfl) ?hyc18 hHeld ?restc18
                      case hyc18 => (intro w' hSw; go_simp; try with_reducible rfl)
                      try simp only [Act.put, List.setIfInBounds_toArray, List.set_cons_zero, List.set_cons_succ]
                      refine reg_take 19 (v := ?vc19) (atS5 (atS5 (atS5 (atS (atS (atS (atS at0))))))) (by kernel_rfl) (by kernel_rfl) (by kernel_rfl) (by rfl) ?hyc19 hHeld ?restc19
                      case hyc19 => (intro w' hSw; go_simp; try with_reducible rfl)
                      try simp only [Act.put, List.setIfInBounds_toArray, List.set_cons_zero, List.set_cons_succ]
                      refine reg_take 20 (v := ?vc20) (atS5 (atS5 (atS5 (atS5 at0)))) (by kernel_rfl) (by kernel_rfl) (by kernel_rfl) (by rfl) ?hyc20 hHeld ?restc20
                      case hyc20 => (intro w' hSw; go_simp; try with_reducible rfl)
                      try simp only [Act.put, List.setIfInBounds_toArray, List.set_cons_zero, List.set_cons_succ]
                      refine reg_take 21 (v := ?vc21) (atS5 (atS5 (atS5 (atS5 (atS at0))))) (by kernel_rfl) (by kernel_rfl) (by kernel_rfl) (by rfl) ?hyc21 hHeld ?restc21
                      case hyc21 => (intro w' hSw; go_simp; try with_reducible rfl)
                      try simp only [Act.put, List.setIfInBounds_toArray, List.set_cons_zero, List.set_cons_succ]
                      refine reg_take 22 (v := ?vc22) (atS5 (atS5 (atS5 (atS5 (atS (atS at0)))))) (by kernel_rfl) (by kernel_rfl) (by kernel_rfl) (by rfl) ?hyc22 hHeld ?restc22
                      case hyc22 => (intro w' hSw; go_simp; try with_reducible rfl)
                      try simp only [Act.put, List.setIfInBounds_toArray, List.set_cons_zero, List.set_cons_succ]
                      refine reg_take 23 (v := ?vc23) (atS5 (atS5 (atS5 (atS5 (atS (atS (atS at0))))))) (by kernel_rfl) (by kernel_rfl) (by kernel_rfl) (by rfl) ?hyc23 hHeld ?restc23
                      case hyc23 => (intro w' hSw; go_simp; try with_reducible rfl)
                      try simp only [Act.put, List.setIfInBounds_toArray, List.set_cons_zero, List.set_cons_succ]
                      refine reg_take 24 (v := ?vc24) (atS5 (atS5 (atS5 (atS5 (atS (atS (atS (atS at0)))))))) (by kernel_rfl) (by kernel_rfl) (by kernel_rfl) (by rfl) ?hyc24 hHeld ?restc24
                      case hyc24 => (intro w' hSw; go_simp; try with_reducible rfl)
                      try simp only [Act.put, List.setIfInBounds_toArray, List.set_cons_zero, List.set_cons_succ]
                      refine reg_take 25 (v := ?vc25) (atS5 (atS5 (atS5 (atS5 (atS5 at0))))) (by kernel_rfl) (by kernel_rfl) (by kernel_rfl) (by rfl) ?hyc25 hHeld ?restc25
                      case hyc25 => (intro w' hSw; go_simp; try with_reducible rfl)
                      try simp only [Act.put, List.setIfInBounds_toArray, List.set_cons_zero, List.set_cons_succ]
                      refine reg_take 26 (v := ?vc26) (atS5 (atS5 (atS5 (atS5 (atS5 (atS at0)))))) (by kernel_rfl) (by kernel_rfl) (by kernel_rfl) (by rfl) ?hyc26 hHeld ?restc26
                      case hyc26 => (intro w' hSw; go_simp; try with_reducible rfl)
                      try simp only [Act.put, List.setIfInBounds_toArray, List.set_cons_zero, List.set_cons_succ]
                      refine reg_take 27 (v := ?vc27) (atS5 (atS5 (atS5 (atS5 (atS5 (atS (atS at0))))))) (by kernel_rfl) (by kernel_rfl) (by kernel_rfl) (by rfl) ?hyc27 hHeld ?restc27
                      case hyc27 => (intro w' hSw; go_simp; try with_reducible rfl)
                      try simp only [Act.put, List.setIfInBounds_toArray, List.set_cons_zero, List.set_cons_succ]
                      refine reg_take 28 (v := ?vc28) (atS5 (atS5 (atS5 (atS5 (atS5 (atS (atS (atS at0)))))))) (by kernel_rfl) (by kernel_rfl) (by kernel_rfl) (by rfl) ?hyc28 hHeld ?restc28
                      case hyc28 => (intro w' hSw; go_simp; try with_reducible rfl)
                      try simp only [Act.put, List.setIfInBounds_toArray, List.set_cons_zero, List.set_cons_succ]
                      refine wpAnyH_done (by kernel_rfl) ?_ _
                      refine NoPanic.normal ?_
                      clear q1 q2 q3 q4 s1 s2 y1 y2 y3
                      go_wp2_with fail
                      have HB5 : Hid (Below V.heap.size V w4) := hid (Bt (Bt (B0 _) hx0b) hb4)
                      refine reg_begin (by kernel_rfl) (fun w0d hx0d hHeld => ?_)
                      have q0 : ∀ w', Ext w0d w' → MB w' p m 150 := fun w' h => (HMB.out.on (Bt HB5.out hx0d)).on h
                      have q1 := fun w' h => (q0 w' h).cells.1
                      have q2 := fun w' h => (q0 w' h).cells.2.1
                      have q3 := fun w' h => (q0 w' h).cells.2.2.1
                      have q4 := fun w' h => (q0 w' h).cells.2.2.2
                      have s0 : ∀ w', Ext w0d w' → TBx w' bx (.slice A n c) (.slice (some ⟨b2, off2, none⟩) n3 c2) (.slice (some ⟨b, off, none⟩) n3 c3) 110 := fun w' h => (HTB.out.on (Bt HB5.out hx0d)).on h
                      have s1 := fun w' h => (s0 w' h).cells.2.1
                      have s2 := fun w' h => (s0 w' h).cells.1
                      have y0 : ∀ w', Ext w0d w' → FdC w' b2 (off2 + j * 3) f := fun w' h => HC2.out w' (Bt (Bt (Bt HBA.out HB5.out) hx0d) h)
                      have y1 := fun w' h => (y0 w' h).1
                      have y2 := fun w' h => (y0 w' h).2.1
                      have y3 := fun w' h => (y0 w' h).2.2
                      clear q0 s0 y0
                      refine reg_take 0 (v := ?vd0) at0 (by kernel_rfl) (by kernel_rfl) (by kernel_rfl) (by rfl) ?hyd0 hHeld ?restd0
                      case hyd0 => (intro w' hSw; go_simp; try with_reducible rfl)
                      try simp only [Act.put, List.setIfInBounds_toArray, List.set_cons_zero, List.set_cons_succ]
                      refine reg_take 1 (v := ?vd1) (atS at0) (by kernel_rfl) (by kernel_rfl) (by kernel_rfl) (by rfl) ?hyd1 hHeld ?restd1
                      case hyd1 => (intro w' hSw; go_simp; try with_reducible rfl)
                      try simp only [Act.put, List.setIfInBounds_toArray, List.set_cons_zero, List.set_cons_succ]
                      refine reg_take 2 (v := ?vd2) (atS (atS at0)) (by kernel_rfl) (by kernel_rfl) (by kernel_rfl) (by rfl) ?hyd2 hHeld ?restd2
                      case hyd2 => (intro w' hSw; go_simp; try with_reducible rfl)
                      try simp only [Act.put, List.setIfInBounds_toArray, List.set_cons_zero, List.set_cons_succ]
                      refine reg_take 3 (v := ?vd3) (atS (atS (atS at0))) (by kernel_rfl) (by kernel_rfl) (by kernel_rfl) (by rfl) ?hyd3 hHeld ?restd3
                      case hyd3 => (intro w' hSw; go_simp; try with_reducible rfl)
                      try simp only [Act.put, List.setIfInBounds_toArray, List.set_cons_zero, List.set_cons_succ]
                      refine reg_skip 4 (atS (atS (atS (atS at0)))) (by kernel_rfl) (by kernel_rfl) (by kernel_rfl) (by rfl) hHeld ?_
                      try simp only [Act.put, List.setIfInBounds_toArray, List.set_cons_zero, List.set_cons_succ]
                      refine reg_skip 5 (atS5 at0) (by kernel_rfl) (by kernel_rfl) (by kernel_rfl) (by rfl) hHeld ?_
                      try simp only [Act.put, List.setIfInBounds_toArray, List.set_cons_zero, List.set_cons_succ]
                      refine reg_skip 6 (atS5 (atS at0)) (by kernel_rfl) (by kernel_rfl) (by kernel_rfl) (by rfl) hHeld ?_
                      try simp only [Act.put, List.setIfInBounds_toArray, List.set_cons_zero, List.set_cons_succ]
                      refine reg_skip 7 (atS5 (atS (atS at0))) (by kernel_rfl) (by kernel_rfl) (by kernel_rfl) (by rfl) hHeld ?_
                      try simp only [Act.put, List.setIfInBounds_toArray, List.set_cons_zero, List.set_cons_succ]
                      refine reg_skip 8 (atS5 (atS (atS (atS at0)))) (by kernel_rfl) (by kernel_rfl) (by kernel_rfl) (by rfl) hHeld ?_
                      try simp only [Act.put, List.setIfInBounds_toArray, List.set_cons_zero, List.set_cons_succ]
                      refine reg_skip 9 (atS5 (atS (atS (atS (atS at0))))) (by kernel_rfl) (by kernel_rfl) (by kernel_rfl) (by rfl) hHeld ?_
                      try simp only [Act.put, List.setIfInBounds_toArray, List.set_cons_zero, List.set_cons_succ]
                      refine reg_skip 10 (atS5 (atS5 at0)) (by kernel_rfl) (by kernel_rfl) (by kernel_rfl) (by rfl) hHeld ?_
                      try simp only [Act.put, List.setIfInBounds_toArray, List.set_cons_zero, List.set_cons_succ]
                      refine reg_skip 11 (atS5 (atS5 (atS at0))) (by kernel_rfl) (by kernel_rfl) (by kernel_rfl) (by rfl) hHeld ?_
                      try simp only [Act.put, List.setIfInBounds_toArray, List.set_cons_zero, List.set_cons_succ]
                      refine reg_skip 12 (atS5 (atS5 (atS (atS at0)))) (by kernel_rfl) (by kernel_rfl) (by kernel_rfl) (by rfl) hHeld ?_
                      try simp only [Act.put, List.setIfInBounds_toArray, List.set_cons_zero, List.set_cons_succ]
                      refine reg_skip 13 (atS5 (atS5 (atS (atS (atS at0))))) (by kernel_rfl) (by kernel_rfl) (by kernel_rfl) (by rfl) hHeld ?_
                      try simp only [Act.put, List.setIfInBounds_toArray, List.set_cons_zero, List.set_cons_succ]
                      refine reg_skip 14 (atS5 (atS5 (atS (atS (atS (atS at0)))))) (by kernel_rfl) (by kernel_rfl) (by kernel_rfl) (by rfl) hHeld ?_
                      try simp only [Act.put, List.setIfInBounds_toArray, List.set_cons_zero, List.set_cons_succ]
                      refine reg_skip 15 (atS5 (atS5 (atS5 at0))) (by kernel_rfl) (by kernel_rfl) (by kernel_rfl) (by rfl) hHeld ?_
                      try simp only [Act.put, List.setIfInBounds_toArray, List.set_cons_zero, List.set_cons_succ]
                      refine reg_skip 16 (atS5 (atS5 (atS5 (atS at0)))) (by kernel_rfl) (by kernel_rfl) (by kernel_rfl) (by rfl) hHeld ?_
                      try simp only [Act.put, List.setIfInBounds_toArray, List.set_cons_zero, List.set_cons_succ]
                      refine reg_skip 17 (atS5 (atS5 (atS5 (atS (atS at0))))) (by kernel_rfl) (by kernel_rfl) (by kernel_rfl) (by rfl) hHeld ?_
                      try simp only [Act.put, List.setIfInBounds_toArray, List.set_cons_zero, List.set_cons_succ]
                      refine reg_skip 18 (atS5 (atS5 (atS5 (atS (atS (atS at0)))))) (by kernel_rfl) (by kernel_rfl) (by kernel_rfl) (by rfl) hHeld ?_
                      try simp only [Act.put, List.setIfInBounds_toArray, List.set_cons_zero, List.set_cons_succ]
                      refine reg_skip 19 (atS5 (atS5 (atS5 (atS (atS (atS (atS at0))))))) (by kernel_rfl) (by kernel_rfl) (by kernel_rfl) (by rfl) hHeld ?_
                      try simp only [Act.put, List.setIfInBounds_toArray, List.set_cons_zero, List.set_cons_succ]
                      refine reg_skip 20 (atS5 (atS5 (atS5 (atS5 at0)))) (by kernel_rfl) (by kernel_rfl) (by kernel_rfl) (by rfl) hHeld ?_
                      try simp only [Act.put, List.setIfInBounds_toArray, List.set_cons_zero, List.set_cons_succ]
                      refine reg_skip 21 (atS5 (atS5 (atS5 (atS5 (atS at0))))) (by kernel_rfl) (by kernel_rfl) (by kernel_rfl) (by rfl) hHeld ?_
                      try simp only [Act.put, List.setIfInBounds_toArray, List.set_cons_zero, List.set_cons_succ]
                      refine reg_skip 22 (atS5 (atS5 (atS5 (atS5 (atS (atS at0)))))) (by kernel_rfl) (by kernel_rfl) (by kernel_rfl) (by rfl) hHeld ?_
                      try simp only [Act.put, List.setIfInBounds_toArray, List.set_cons_zero, List.set_cons_succ]
                      refine reg_take 23 (v := ?vd23) (atS5 (atS5 (atS5 (atS5 (atS (atS (atS at0))))))) (by kernel_rfl) (by kernel_rfl) (by kernel_rfl) (by rfl) ?hyd23 hHeld ?restd23
                      case hyd23 => (intro w' hSw; go_simp; try with_reducible rfl)
                      try simp only [Act.put, List.setIfInBounds_toArray, List.set_cons_zero, List.set_cons_succ]
                      refine wpAnyH_done (by kernel_rfl) ?_ _
                      refine NoPanic.normal ?_
                      clear q1 q2 q3 q4 s1 s2 y1 y2 y3
                      go_wp2_with fail
                      exact ⟨⟨j + 1, by omega, by go_num, hid (HNX.out (by rw [HW3.out]; simp [G5.out])), hid (Bt HBA.out (Bt HB5.out hx0d))⟩, by simp [intOf]; omega⟩
                    · have t6 : (m.n != 0) = true := by simpa using g5
                      have G5 := hid g5
                      clear g5
                      have HE : Hid (rightT T = false) := hid (HNO.out (by rw [HW3.out]; simp [G4.out, G5.out]))
                      refine reg_begin (by kernel_rfl) (fun w0c hx0c hHeld => ?_)
                      have q0 : ∀ w', Ext w0c w' → MB w' p m 150 := fun w' h => (HMB.out.on (Bt (B0 _) hx0c)).on h
                      have q1 := fun w' h => (q0 w' h).cells.1
                      have q2 := fun w' h => (q0 w' h).cells.2.1
                      have q3 := fun w' h => (q0 w' h).cells.2.2.1
                      have q4 := fun w' h => (q0 w' h).cells.2.2.2
                      have s0 : ∀ w', Ext w0c w' → TBx w' bx (.slice A n c) (.slice (some ⟨b2, off2, none⟩) n3 c2) (.slice (some ⟨b, off, none⟩) n3 c3) 110 := fun w' h => (HTB.out.on (Bt (B0 _) hx0c)).on h
                      have s1 := fun w' h => (s0 w' h).cells.2.1
                      have s2 := fun w' h => (s0 w' h).cells.1
                      have y0 : ∀ w', Ext w0c w' → FdC w' b2 (off2 + j * 3) f := fun w' h => HC2.out w' (Bt (Bt (Bt HBA.out (B0 _)) hx0c) h)
                      have y1 := fun w' h => (y0 w' h).1
                      have y2 := fun w' h => (y0 w' h).2.1
                      have y3 := fun w' h => (y0 w' h).2.2
                      clear q0 s0 y0
                      refine reg_take 0 (v := ?ve0) at0 (by kernel_rfl) (by kernel_rfl) (by kernel_rfl) (by rfl) ?hye0 hHeld ?reste0
                      case hye0 => (intro w' hSw; go_simp; try with_reducible rfl)
                      try simp only [Act.put, List.setIfInBounds_toArray, List.set_cons_zero, List.set_cons_succ]
                      refine reg_take 1 (v := ?ve1) (atS at0) (by kernel_rfl) (by kernel_rfl) (by kernel_rfl) (by rfl) ?hye1 hHeld ?reste1
                      case hye1 => (intro w' hSw; go_simp; try with_reducible rfl)
                      try simp only [Act.put, List.setIfInBounds_toArray, List.set_cons_zero, List.set_cons_succ]
                      refine reg_take 2 (v := ?ve2) (atS (atS at0)) (by kernel_rfl) (by kernel_rfl) (by kernel_rfl) (by rfl) ?hye2 hHeld ?reste2
                      case hye2 => (intro w' hSw; go_simp; try with_reducible rfl)
                      try simp only [Act.put, List.setIfInBounds_toArray, List.set_cons_zero, List.set_cons_succ]
                      refine reg_take 3 (v := ?ve3) (atS (atS (atS at0))) (by kernel_rfl) (by kernel_rfl) (by kernel_rfl) (by rfl) ?hye3 hHeld ?reste3
                      case hye3 => (intro w' hSw; go_simp; try with_reducible rfl)
                      try simp only [Act.put, List.setIfInBounds_toArray, List.set_cons_zero, List.set_cons_succ]
                      refine reg_take 4 (v := ?ve4) (atS (atS (atS (atS at0)))) (by kernel_rfl) (by kernel_rfl) (by kernel_rfl) (by rfl) ?hye4 hHeld ?reste4
                      case hye4 => (intro w' hSw; go_simp; try with_reducible rfl)
                      try simp only [Act.put, List.setIfInBounds_toArray, List.set_cons_zero, List.set_cons_succ]
                      refine reg_take 5 (v := ?ve5) (atS5 at0) (by kernel_rfl) (by kernel_rfl) (by kernel_rfl) (by rfl) ?hye5 hHeld ?reste5
                      case hye5 => (intro w' hSw; go_simp; try with_reducible rfl)
                      try simp only [Act.put, List.setIfInBounds_toArray, List.set_cons_zero, List.set_cons_succ]
                      refine reg_take 6 (v := ?ve6) (atS5 (atS at0)) (by kernel_rfl) (by kernel_rfl) (by kernel_rfl) (by rfl) ?hye6 hHeld ?reste6
                      case hye6 => (intro w' hSw; go_simp; try with_reducible rfl)
                      try simp only [Act.put, List.setIfInBounds_toArray, List.set_cons_zero, List.set_cons_succ]
                      refine reg_take 7 (v := ?ve7) (atS5 (atS (atS at0))) (by kernel_rfl) (by kernel_rfl) (by kernel_rfl) (by rfl) ?hye7 hHeld ?reste7
                      case hye7 => (intro w' hSw; go_simp; try with_reducible rfl)
                      try simp only [Act.put, List.setIfInBounds_toArray, List.set_cons_zero, List.set_cons_succ]
                      refine reg_take 8 (v := ?ve8) (atS5 (atS (atS (atS at0)))) (by kernel_rfl) (by kernel_rfl) (by kernel_rfl) (by rfl) ?hye8 hHeld ?reste8
                      case hye8 => (intro w' hSw; go_simp; try with_reducible rfl)
                      try simp only [Act.put, List.setIfInBounds_toArray, List.set_cons_zero, List.set_cons_succ]
                      refine reg_take 9 (v := ?ve9) (atS5 (atS (atS (atS (atS at0))))) (by kernel_rfl) (by kernel_rfl) (by kernel_rfl) (by rfl) ?hye9 hHeld ?reste9
                      case hye9 => (intro w' hSw; go_simp; try with_reducible rfl)
                      try simp only [Act.put, List.setIfInBounds_toArray, List.set_cons_zero, List.set_cons_succ]
                      refine reg_take 10 (v := ?ve10) (atS5 (atS5 at0)) (by kernel_rfl) (by kernel_rfl) (by kernel_rfl) (by rfl) ?hye10 hHeld ?reste10
                      case hye10 => (intro w' hSw; go_simp; try with_reducible rfl)
                      try simp only [Act.put, List.setIfInBounds_toArray, List.set_cons_zero, List.set_cons_succ]
                      refine wpAnyH_ready (rs := [11]) (by kernel_rfl) (by simp) ?_
                      refine AllReadyH.cons (atS5 (atS5 (atS at0))) (fun K hK => ?_) AllReadyH.nil
                      go_simp
                      refine (rright_any m.k m.n m.t (bs f.nm) f.k f.g _ hnu).mono ?_
                      rintro e w4 ⟨rfl, hb4⟩
                      rw [← HRB.out]
                      go_wp2_with fail
                      refine hK.out _ _ hb4 (fun hHeld => ?_)
                      clear hK K
                      try simp only [Act.put, List.setIfInBounds_toArray, List.set_cons_zero, List.set_cons_succ]
                      refine reg_on hb4 (fun hHeld => ?_)
                      have s1' := fun w' h => s1 w' (Ext.trans hb4 h)
                      have q3' := fun w' h => q3 w' (Ext.trans hb4 h)
                      have y2' := fun w' h => y2 w' (Ext.trans hb4 h)
                      refine reg_take 12 (v := ?ve12) (atS5 (atS5 (atS (atS at0)))) (by kernel_rfl) (by kernel_rfl) (by kernel_rfl) (by rfl) ?hye12 hHeld ?reste12
                      case hye12 => (intro w' hSw; go_simp; try with_reducible rfl)
                      try simp only [Act.put, List.setIfInBounds_toArray, List.set_cons_zero, List.set_cons_succ]
                      refine reg_take 13 (v := ?ve13) (atS5 (atS5 (atS (atS (atS at0))))) (by kernel_rfl) (by kernel_rfl) (by kernel_rfl) (by rfl) ?hye13 hHeld ?reste13
                      case hye13 => (intro w' hSw; go_simp; try with_reducible rfl)
                      try simp only [Act.put, List.setIfInBounds_toArray, List.set_cons_zero, List.set_cons_succ]
                      refine reg_take 14 (v := ?ve14) (atS5 (atS5 (atS (atS (atS (atS at0)))))) (by kernel_rfl) (by kernel_rfl) (by kernel_rfl) (by rfl) ?hye14 hHeld ?reste14
                      case hye14 => (intro w' hSw; go_simp; try with_reducible rfl)
                      try simp only [Act.put, List.setIfInBounds_toArray, List.set_cons_zero, List.set_cons_succ]
                      refine reg_take 15 (v := ?ve15) (atS5 (atS5 (atS5 at0))) (by kernel_rfl) (by kernel_rfl) (by kernel_rfl) (by rfl) ?hye15 hHeld ?reste15
                      case hye15 => (intro w' hSw; go_simp; try with_reducible rfl)
                      try simp only [Act.put, List.setIfInBounds_toArray, List.set_cons_zero, List.set_cons_succ]
                      refine reg_take 16 (v := ?ve16) (atS5 (atS5 (atS5 (atS at0)))) (by kernel_rfl) (by kernel_rfl) (by kernel_rfl) (by rfl) ?hye16 hHeld ?reste16
                      case hye16 => (intro w' hSw; go_simp; try with_reducible rfl)
                      try simp only [Act.put, List.setIfInBounds_toArray, List.set_cons_zero, List.set_cons_succ]
                      refine reg_take 17 (v := ?ve17) (atS5 (atS5 (atS5 (atS (atS at0))))) (by kernel_rfl) (by kernel_rfl) (by kernel_rfl) (by rfl) ?hye17 hHeld ?reste17
                      case hye17 => (intro w' hSw; go_simp; try with_reducible rfl)
                      try simp only [Act.put, List.setIfInBounds_toArray, List.set_cons_zero, List.set_cons_succ]
                      refine reg_take 18 (v := ?ve18) (atS5 (atS5 (atS5 (atS (atS (atS at0)))))) (by kernel_rfl) (by kernel_rfl) (by kernel_rfl) (by rfl) ?hye18 hHeld ?reste18
                      case hye18 => (intro w' hSw; go_simp; try with_reducible rfl)
                      try simp only [Act.put, List.setIfInBounds_toArray, List.set_cons_zero, List.set_cons_succ]
                      refine reg_take 19 (v := ?ve19) (atS5 (atS5 (atS5 (atS (atS (atS (atS at0))))))) (by kernel_rfl) (by kernel_rfl) (by kernel_rfl) (by rfl) ?hye19 hHeld ?reste19
                      case hye19 => (intro w' hSw; go_simp; try with_reducible rfl)
                      try simp only [Act.put, List.setIfInBounds_toArray, List.set_cons_zero, List.set_cons_succ]
                      refine reg_take 20 (v := ?ve20) (atS5 (atS5 (atS5 (atS5 at0)))) (by kernel_rfl) (by kernel_rfl) (by kernel_rfl) (by rfl) ?hye20 hHeld ?reste20
                      case hye20 => (intro w' hSw; go_simp; try with_reducible rfl)
                      try simp only [Act.put, List.setIfInBounds_toArray, List.set_cons_zero, List.set_cons_succ]
                      refine reg_take 21 (v := ?ve21) (atS5 (atS5 (atS5 (atS5 (atS at0))))) (by kernel_rfl) (by kernel_rfl) (by kernel_rfl) (by rfl) ?hye21 hHeld ?reste21
                      case hye21 => (intro w' hSw; go_simp; try with_reducible rfl)
                      try simp only [Act.put, List.setIfInBounds_toArray, List.set_cons_zero, List.set_cons_succ]
                      refine reg_take 22 (v := ?ve22) (atS5 (atS5 (atS5 (atS5 (atS (atS at0)))))) (by kernel_rfl) (by kernel_rfl) (by kernel_rfl) (by rfl) ?hye22 hHeld ?reste22
                      case hye22 => (intro w' hSw; go_simp; try with_reducible rfl)
                      try simp only [Act.put, List.setIfInBounds_toArray, List.set_cons_zero, List.set_cons_succ]
                      refine reg_take 23 (v := ?ve23) (atS5 (atS5 (atS5 (atS5 (atS (atS (atS at0))))))) (by kernel_rfl) (by kernel_rfl) (by kernel_rfl) (by rfl) ?hye23 hHeld ?reste23
                      case hye23 => (intro w' hSw; go_simp; try with_reducible rfl)
                      try simp only [Act.put, List.setIfInBounds_toArray, List.set_cons_zero, List.set_cons_succ]
                      refine reg_take 24 (v := ?ve24) (atS5 (atS5 (atS5 (atS5 (atS (atS (atS (atS at0)))))))) (by kernel_rfl) (by kernel_rfl) (by kernel_rfl) (by rfl) ?hye24 hHeld ?reste24
                      case hye24 => (intro w' hSw; go_simp; try with_reducible rfl)
                      try simp only [Act.put, List.setIfInBounds_toArray, List.set_cons_zero, List.set_cons_succ]
                      refine reg_take 25 (v := ?ve25) (atS5 (atS5 (atS5 (atS5 (atS5 at0))))) (by kernel_rfl) (by kernel_rfl) (by kernel_rfl) (by rfl) ?hye25 hHeld ?reste25
                      case hye25 => (intro w' hSw; go_simp; try with_reducible rfl)
                      try simp only [Act.put, List.setIfInBounds_toArray, List.set_cons_zero, List.set_cons_succ]
                      refine reg_take 26 (v := ?ve26) (atS5 (atS5 (atS5 (atS5 (atS5 (atS at0)))))) (by kernel_rfl) (by kernel_rfl) (by kernel_rfl) (by rfl) ?hye26 hHeld ?reste26
                      case hye26 => (intro w' hSw; go_simp; try with_reducible rfl)
                      try simp only [Act.put, List.setIfInBounds_toArray, List.set_cons_zero, List.set_cons_succ]
                      refine reg_take 27 (v := ?ve27) (atS5 (atS5 (atS5 (atS5 (atS5 (atS (atS at0))))))) (by kernel_rfl) (by kernel_rfl) (by kernel_rfl) (by rfl) ?hye27 hHeld ?reste27
                      case hye27 => (intro w' hSw; go_simp; try with_reducible rfl)
                      try simp only [Act.put, List.setIfInBounds_toArray, List.set_cons_zero, List.set_cons_succ]
                      refine reg_take 28 (v := ?ve28) (atS5 (atS5 (atS5 (atS5 (atS5 (atS (atS (atS at0)))))))) (by kernel_rfl) (by kernel_rfl) (by kernel_rfl) (by rfl) ?hye28 hHeld ?reste28
                      case hye28 => (intro w' hSw; go_simp; try with_reducible rfl)
                      try simp only [Act.put, List.setIfInBounds_toArray, List.set_cons_zero, List.set_cons_succ]
                      refine wpAnyH_done (by kernel_rfl) ?_ _
                      refine NoPanic.normal ?_
                      clear q1 q2 q3 q4 s1 s2 y1 y2 y3
                      go_wp2_with fail
                      go_ret
                      exact ⟨by rw [HE.out]; rfl, Bt HB0.out (Bt HBA.out (Bt (Bt (B0 _) hx0c) hb4))⟩
                  · have t5 : (f.k == 11) = false := by simpa using g4
                    have G4 := hid g4
                    clear g4
                    refine reg_begin (by kernel_rfl) (fun w0e hx0e hHeld => ?_)
                    have q0 : ∀ w', Ext w0e w' → MB w' p m 150 := fun w' h => (HMB.out.on (Bt (B0 _) hx0e)).on h
                    have q1 := fun w' h => (q0 w' h).cells.1
                    have q2 := fun w' h => (q0 w' h).cells.2.1
                    have q3 := fun w' h => (q0 w' h).cells.2.2.1
                    have q4 := fun w' h => (q0 w' h).cells.2.2.2
                    have s0 : ∀ w', Ext w0e w' → TBx w' bx (.slice A n c) (.slice (some ⟨b2, off2, none⟩) n3 c2) (.slice (some ⟨b, off, none⟩) n3 c3) 110 := fun w' h => (HTB.out.on (Bt (B0 _) hx0e)).on h
                    have s1 := fun w' h => (s0 w' h).cells.2.1
                    have s2 := fun w' h => (s0 w' h).cells.1
                    have y0 : ∀ w', Ext w0e w' → FdC w' b2 (off2 + j * 3) f := fun w' h => HC2.out w' (Bt (Bt (Bt HBA.out (B0 _)) hx0e) h)
                    have y1 := fun w' h => (y0 w' h).1
                    have y2 := fun w' h => (y0 w' h).2.1
                    have y3 := fun w' h => (y0 w' h).2.2
                    clear q0 s0 y0
                    refine reg_take 0 (v := ?vf0) at0 (by kernel_rfl) (by kernel_rfl) (by kernel_rfl) (by rfl) ?hyf0 hHeld ?restf0
                    case hyf0 => (intro w' hSw; go_simp; try with_reducible rfl)
                    try simp only [Act.put, List.setIfInBounds_toArray, List.set_cons_zero, List.set_cons_succ]
                    refine reg_take 1 (v := ?vf1) (atS at0) (by kernel_rfl) (by kernel_rfl) (by kernel_rfl) (by rfl) ?hyf1 hHeld ?restf1
                    case hyf1 => (intro w' hSw; go_simp; try with_reducible rfl)
                    try simp only [Act.put, List.setIfInBounds_toArray, List.set_cons_zero, List.set_cons_succ]
                    refine reg_take 2 (v := ?vf2) (atS (atS at0)) (by kernel_rfl) (by kernel_rfl) (by kernel_rfl) (by rfl) ?hyf2 hHeld ?restf2
                    case hyf2 => (intro w' hSw; go_simp; try with_reducible rfl)
                    try simp only [Act.put, List.setIfInBounds_toArray, List.set_cons_zero, List.set_cons_succ]
                    refine reg_take 3 (v := ?vf3) (atS (atS (atS at0))) (by kernel_rfl) (by kernel_rfl) (by kernel_rfl) (by rfl) ?hyf3 hHeld ?restf3
                    case hyf3 => (intro w' hSw; go_simp; try with_reducible rfl)
                    try simp only [Act.put, List.setIfInBounds_toArray, List.set_cons_zero, List.set_cons_succ]
                    refine reg_take 4 (v := ?vf4) (atS (atS (atS (atS at0)))) (by kernel_rfl) (by kernel_rfl) (by kernel_rfl) (by rfl) ?hyf4 hHeld ?restf4
                    case hyf4 => (intro w' hSw; go_simp; try with_reducible rfl)
                    try simp only [Act.put, List.setIfInBounds_toArray, List.set_cons_zero, List.set_cons_succ]
                    refine reg_take 5 (v := ?vf5) (atS5 at0) (by kernel_rfl) (by kernel_rfl) (by kernel_rfl) (by rfl) ?hyf5 hHeld ?restf5
                    case hyf5 => (intro w' hSw; go_simp; try with_reducible rfl)
                    try simp only [Act.put, List.setIfInBounds_toArray, List.set_cons_zero, List.set_cons_succ]
                    refine reg_take 6 (v := ?vf6) (atS5 (atS at0)) (by kernel_rfl) (by kernel_rfl) (by kernel_rfl) (by rfl) ?hyf6 hHeld ?restf6
                    case hyf6 => (intro w' hSw; go_simp; try with_reducible rfl)
                    try simp only [Act.put, List.setIfInBounds_toArray, List.set_cons_zero, List.set_cons_succ]
                    refine reg_take 7 (v := ?vf7) (atS5 (atS (atS at0))) (by kernel_rfl) (by kernel_rfl) (by kernel_rfl) (by rfl) ?hyf7 hHeld ?restf7
                    case hyf7 => (intro w' hSw; go_simp; try with_reducible rfl)
                    try simp only [Act.put, List.setIfInBounds_toArray, List.set_cons_zero, List.set_cons_succ]
                    refine reg_take 8 (v := ?vf8) (atS5 (atS (atS (atS at0)))) (by kernel_rfl) (by kernel_rfl) (by kernel_rfl) (by rfl) ?hyf8 hHeld ?restf8
                    case hyf8 => (intro w' hSw; go_simp; try with_reducible rfl)
                    try simp only [Act.put, List.setIfInBounds_toArray, List.set_cons_zero, List.set_cons_succ]
                    refine reg_take 9 (v := ?vf9) (atS5 (atS (atS (atS (atS at0))))) (by kernel_rfl) (by kernel_rfl) (by kernel_rfl) (by rfl) ?hyf9 hHeld ?restf9
                    case hyf9 => (intro w' hSw; go_simp; try with_reducible rfl)
                    try simp only [Act.put, List.setIfInBounds_toArray, List.set_cons_zero, List.set_cons_succ]
                    refine reg_take 10 (v := ?vf10) (atS5 (atS5 at0)) (by kernel_rfl) (by kernel_rfl) (by kernel_rfl) (by rfl) ?hyf10 hHeld ?restf10
                    case hyf10 => (intro w' hSw; go_simp; try with_reducible rfl)
                    try simp only [Act.put, List.setIfInBounds_toArray, List.set_cons_zero, List.set_cons_succ]
                    refine wpAnyH_ready (rs := [11]) (by kernel_rfl) (by simp) ?_
                    refine AllReadyH.cons (atS5 (atS5 (atS at0))) (fun K hK => ?_) AllReadyH.nil
                    go_simp
                    refine (rright_any m.k m.n m.t (bs f.nm) f.k f.g _ hnu).mono ?_
                    rintro e w4 ⟨rfl, hb4⟩
                    rw [← HRB.out]
                    go_wp2_with fail
                    refine hK.out _ _ hb4 (fun hHeld => ?_)
                    clear hK K
                    try simp only [Act.put, List.setIfInBounds_toArray, List.set_cons_zero, List.set_cons_succ]
                    refine reg_on hb4 (fun hHeld => ?_)
                    have s1' := fun w' h => s1 w' (Ext.trans hb4 h)
                    have q3' := fun w' h => q3 w' (Ext.trans hb4 h)
                    have y2' := fun w' h => y2 w' (Ext.trans hb4 h)
                    refine reg_take 12 (v := ?vf12) (atS5 (atS5 (atS (atS at0)))) (by kernel_rfl) (by kernel_rfl) (by kernel_rfl) (by rfl) ?hyf12 hHeld ?restf12
                    case hyf12 => (intro w' hSw; go_simp; try with_reducible rfl)
                    try simp only [Act.put, List.setIfInBounds_toArray, List.set_cons_zero, List.set_cons_succ]
                    refine reg_take 13 (v := ?vf13) (atS5 (atS5 (atS (atS (atS at0))))) (by kernel_rfl) (by kernel_rfl) (by kernel_rfl) (by rfl) ?hyf13 hHeld ?restf13
                    case hyf13 => (intro w' hSw; go_simp; try with_reducible rfl)
                    try simp only [Act.put, List.setIfInBounds_toArray, List.set_cons_zero, List.set_cons_succ]
                    refine reg_take 14 (v := ?vf14) (atS5 (atS5 (atS (atS (atS (atS at0)))))) (by kernel_rfl) (by kernel_rfl) (by kernel_rfl) (by rfl) ?hyf14 hHeld ?restf14
                    case hyf14 => (intro w' hSw; go_simp; try with_reducible rfl)
                    try simp only [Act.put, List.setIfInBounds_toArray, List.set_cons_zero, List.set_cons_succ]
                    refine reg_take 15 (v := ?vf15) (atS5 (atS5 (atS5 at0))) (by kernel_rfl) (by kernel_rfl) (by kernel_rfl) (by rfl) ?hyf15 hHeld ?restf15
                    case hyf15 => (intro w' hSw; go_simp; try with_reducible rfl)
                    try simp only [Act.put, List.setIfInBounds_toArray, List.set_cons_zero, List.set_cons_succ]
                    refine reg_take 16 (v := ?vf16) (atS5 (atS5 (atS5 (atS at0)))) (by kernel_rfl) (by kernel_rfl) (by kernel_rfl) (by rfl) ?hyf16 hHeld ?restf16
                    case hyf16 => (intro w' hSw; go_simp; try with_reducible rfl)
                    try simp only [Act.put, List.setIfInBounds_toArray, List.set_cons_zero, List.set_cons_succ]
                    refine reg_take 17 (v := ?vf17) (atS5 (atS5 (atS5 (atS (atS at0))))) (by kernel_rfl) (by kernel_rfl) (by kernel_rfl) (by rfl) ?hyf17 hHeld ?restf17
                    case hyf17 => (intro w' hSw; go_simp; try with_reducible rfl)
                    try simp only [Act.put, List.setIfInBounds_toArray, List.set_cons_zero, List.set_cons_succ]
                    refine reg_take 18 (v := ?vf18) (atS5 (atS5 (atS5 (atS (atS (atS at0)))))) (by kernel_rfl) (by kernel_rfl) (by kernel_rfl) (by rfl) ?hyf18 hHeld ?restf18
                    case hyf18 => (intro w' hSw; go_simp; try with_reducible rfl)
                    try simp only [Act.put, List.setIfInBounds_toArray, List.set_cons_zero, List.set_cons_succ]
                    refine reg_take 19 (v := ?vf19) (atS5 (atS5 (atS5 (atS (atS (atS (atS at0))))))) (by kernel_rfl) (by kernel_rfl) (by kernel_rfl) (by rfl) ?hyf19 hHeld ?restf19
                    case hyf19 => (intro w' hSw; go_simp; try with_reducible rfl)
                    try simp only [Act.put, List.setIfInBounds_toArray, List.set_cons_zero, List.set_cons_succ]
                    refine reg_take 20 (v := ?vf20) (atS5 (atS5 (atS5 (atS5 at0)))) (by kernel_rfl) (by kernel_rfl) (by kernel_rfl) (by rfl) ?hyf20 hHeld ?restf20
                    case hyf20 => (intro w' hSw; go_simp; try with_reducible rfl)
                    try simp only [Act.put, List.setIfInBounds_toArray, List.set_cons_zero, List.set_cons_succ]
                    refine reg_take 21 (v := ?vf21) (atS5 (atS5 (atS5 (atS5 (atS at0))))) (by kernel_rfl) (by kernel_rfl) (by kernel_rfl) (by rfl) ?hyf21 hHeld ?restf21
                    case hyf21 => (intro w' hSw; go_simp; try with_reducible rfl)
                    try simp only [Act.put, List.setIfInBounds_toArray, List.set_cons_zero, List.set_cons_succ]
                    refine reg_skip 22 (atS5 (atS5 (atS5 (atS5 (atS (atS at0)))))) (by kernel_rfl) (by kernel_rfl) (by kernel_rfl) (by rfl) hHeld ?_
                    try simp only [Act.put, List.setIfInBounds_toArray, List.set_cons_zero, List.set_cons_succ]
                    refine reg_skip 23 (atS5 (atS5 (atS5 (atS5 (atS (atS (atS at0))))))) (by kernel_rfl) (by kernel_rfl) (by kernel_rfl) (by rfl) hHeld ?_
                    try simp only [Act.put, List.setIfInBounds_toArray, List.set_cons_zero, List.set_cons_succ]
                    refine reg_skip 24 (atS5 (atS5 (atS5 (atS5 (atS (atS (atS (atS at0)))))))) (by kernel_rfl) (by kernel_rfl) (by kernel_rfl) (by rfl) hHeld ?_
                    try simp only [Act.put, List.setIfInBounds_toArray, List.set_cons_zero, List.set_cons_succ]
                    refine reg_skip 25 (atS5 (atS5 (atS5 (atS5 (atS5 at0))))) (by kernel_rfl) (by kernel_rfl) (by kernel_rfl) (by rfl) hHeld ?_
                    try simp only [Act.put, List.setIfInBounds_toArray, List.set_cons_zero, List.set_cons_succ]
                    refine reg_take 26 (v := ?vf26) (atS5 (atS5 (atS5 (atS5 (atS5 (atS at0)))))) (by kernel_rfl) (by kernel_rfl) (by kernel_rfl) (by rfl) ?hyf26 hHeld ?restf26
                    case hyf26 => (intro w' hSw; go_simp; try with_reducible rfl)
                    try simp only [Act.put, List.setIfInBounds_toArray, List.set_cons_zero, List.set_cons_succ]
                    refine reg_take 27 (v := ?vf27) (atS5 (atS5 (atS5 (atS5 (atS5 (atS (atS at0))))))) (by kernel_rfl) (by kernel_rfl) (by kernel_rfl) (by rfl) ?hyf27 hHeld ?restf27
                    case hyf27 => (intro w' hSw; go_simp; try with_reducible rfl)
                    try simp only [Act.put, List.setIfInBounds_toArray, List.set_cons_zero, List.set_cons_succ]
                    refine reg_take 28 (v := ?vf28) (atS5 (atS5 (atS5 (atS5 (atS5 (atS (atS (atS at0)))))))) (by kernel_rfl) (by kernel_rfl) (by kernel_rfl) (by rfl) ?hyf28 hHeld ?restf28
                    case hyf28 => (intro w' hSw; go_simp; try with_reducible rfl)
                    try simp only [Act.put, List.setIfInBounds_toArray, List.set_cons_zero, List.set_cons_succ]
                    refine wpAnyH_done (by kernel_rfl) ?_ _
                    refine NoPanic.normal ?_
                    clear q1 q2 q3 q4 s1 s2 y1 y2 y3
                    go_wp2_with fail
                    have HB5 : Hid (Below V.heap.size V w4) := hid (Bt (Bt (B0 _) hx0e) hb4)
                    refine reg_begin (by kernel_rfl) (fun w0f hx0f hHeld => ?_)
                    have q0 : ∀ w', Ext w0f w' → MB w' p m 150 := fun w' h => (HMB.out.on (Bt HB5.out hx0f)).on h
                    have q1 := fun w' h => (q0 w' h).cells.1
                    have q2 := fun w' h => (q0 w' h).cells.2.1
                    have q3 := fun w' h => (q0 w' h).cells.2.2.1
                    have q4 := fun w' h => (q0 w' h).cells.2.2.2
                    have s0 : ∀ w', Ext w0f w' → TBx w' bx (.slice A n c) (.slice (some ⟨b2, off2, none⟩) n3 c2) (.slice (some ⟨b, off, none⟩) n3 c3) 110 := fun w' h => (HTB.out.on (Bt HB5.out hx0f)).on h
                    have s1 := fun w' h => (s0 w' h).cells.2.1
                    have s2 := fun w' h => (s0 w' h).cells.1
                    have y0 : ∀ w', Ext w0f w' → FdC w' b2 (off2 + j * 3) f := fun w' h => HC2.out w' (Bt (Bt (Bt HBA.out HB5.out) hx0f) h)
                    have y1 := fun w' h => (y0 w' h).1
                    have y2 := fun w' h => (y0 w' h).2.1
                    have y3 := fun w' h => (y0 w' h).2.2
                    clear q0 s0 y0
                    refine reg_take 0 (v := ?vg0) at0 (by kernel_rfl) (by kernel_rfl) (by kernel_rfl) (by rfl) ?hyg0 hHeld ?restg0
                    case hyg0 => (intro w' hSw; go_simp; try with_reducible rfl)
                    try simp only [Act.put, List.setIfInBounds_toArray, List.set_cons_zero, List.set_cons_succ]
                    refine reg_take 1 (v := ?vg1) (atS at0) (by kernel_rfl) (by kernel_rfl) (by kernel_rfl) (by rfl) ?hyg1 hHeld ?restg1
                    case hyg1 => (intro w' hSw; go_simp; try with_reducible rfl)
                    try simp only [Act.put, List.setIfInBounds_toArray, List.set_cons_zero, List.set_cons_succ]
                    refine reg_take 2 (v := ?vg2) (atS (atS at0)) (by kernel_rfl) (by kernel_rfl) (by kernel_rfl) (by rfl) ?hyg2 hHeld ?restg2
                    case hyg2 => (intro w' hSw; go_simp; try with_reducible rfl)
                    try simp only [Act.put, List.setIfInBounds_toArray, List.set_cons_zero, List.set_cons_succ]
                    refine reg_take 3 (v := ?vg3) (atS (atS (atS at0))) (by kernel_rfl) (by kernel_rfl) (by kernel_rfl) (by rfl) ?hyg3 hHeld ?restg3
                    case hyg3 => (intro w' hSw; go_simp; try with_reducible rfl)
                    try simp only [Act.put, List.setIfInBounds_toArray, List.set_cons_zero, List.set_cons_succ]
                    refine reg_skip 4 (atS (atS (atS (atS at0)))) (by kernel_rfl) (by kernel_rfl) (by kernel_rfl) (by rfl) hHeld ?_
                    try simp only [Act.put, List.setIfInBounds_toArray, List.set_cons_zero, List.set_cons_succ]
                    refine reg_skip 5 (atS5 at0) (by kernel_rfl) (by kernel_rfl) (by kernel_rfl) (by rfl) hHeld ?_
                    try simp only [Act.put, List.setIfInBounds_toArray, List.set_cons_zero, List.set_cons_succ]
                    refine reg_skip 6 (atS5 (atS at0)) (by kernel_rfl) (by kernel_rfl) (by kernel_rfl) (by rfl) hHeld ?_
                    try simp only [Act.put, List.setIfInBounds_toArray, List.set_cons_zero, List.set_cons_succ]
                    refine reg_skip 7 (atS5 (atS (atS at0))) (by kernel_rfl) (by kernel_rfl) (by kernel_rfl) (by rfl) hHeld ?_
                    try simp only [Act.put, List.setIfInBounds_toArray, List.set_cons_zero, List.set_cons_succ]
                    refine reg_skip 8 (atS5 (atS (atS (atS at0)))) (by kernel_rfl) (by kernel_rfl) (by kernel_rfl) (by rfl) hHeld ?_
                    try simp only [Act.put, List.setIfInBounds_toArray, List.set_cons_zero, List.set_cons_succ]
                    refine reg_skip 9 (atS5 (atS (atS (atS (atS at0))))) (by kernel_rfl) (by kernel_rfl) (by kernel_rfl) (by rfl) hHeld ?_
                    try simp only [Act.put, List.setIfInBounds_toArray, List.set_cons_zero, List.set_cons_succ]
                    refine reg_skip 10 (atS5 (atS5 at0)) (by kernel_rfl) (by kernel_rfl) (by kernel_rfl) (by rfl) hHeld ?_
                    try simp only [Act.put, List.setIfInBounds_toArray, List.set_cons_zero, List.set_cons_succ]
                    refine reg_skip 11 (atS5 (atS5 (atS at0))) (by kernel_rfl) (by kernel_rfl) (by kernel_rfl) (by rfl) hHeld ?_
                    try simp only [Act.put, List.setIfInBounds_toArray, List.set_cons_zero, List.set_cons_succ]
                    refine reg_skip 12 (atS5 (atS5 (atS (atS at0)))) (by kernel_rfl) (by kernel_rfl) (by kernel_rfl) (by rfl) hHeld ?_
                    try simp only [Act.put, List.setIfInBounds_toArray, List.set_cons_zero, List.set_cons_succ]
                    refine reg_skip 13 (atS5 (atS5 (atS (atS (atS at0))))) (by kernel_rfl) (by kernel_rfl) (by kernel_rfl) (by rfl) hHeld ?_
                    try simp only [Act.put, List.setIfInBounds_toArray, List.set_cons_zero, List.set_cons_succ]
                    refine reg_skip 14 (atS5 (atS5 (atS (atS (atS (atS at0)))))) (by kernel_rfl) (by kernel_rfl) (by kernel_rfl) (by rfl) hHeld ?_
                    try simp only [Act.put, List.setIfInBounds_toArray, List.set_cons_zero, List.set_cons_succ]
                    refine reg_skip 15 (atS5 (atS5 (atS5 at0))) (by kernel_rfl) (by kernel_rfl) (by kernel_rfl) (by rfl) hHeld ?_
                    try simp only [Act.put, List.setIfInBounds_toArray, List.set_cons_zero, List.set_cons_succ]
                    refine reg_skip 16 (atS5 (atS5 (atS5 (atS at0)))) (by kernel_rfl) (by kernel_rfl) (by kernel_rfl) (by rfl) hHeld ?_
                    try simp only [Act.put, List.setIfInBounds_toArray, List.set_cons_zero, List.set_cons_succ]
                    refine reg_skip 17 (atS5 (atS5 (atS5 (atS (atS at0))))) (by kernel_rfl) (by kernel_rfl) (by kernel_rfl) (by rfl) hHeld ?_
                    try simp only [Act.put, List.setIfInBounds_toArray, List.set_cons_zero, List.set_cons_succ]
                    refine reg_skip 18 (atS5 (atS5 (atS5 (atS (atS (atS at0)))))) (by kernel_rfl) (by kernel_rfl) (by kernel_rfl) (by rfl) hHeld ?_
                    try simp only [Act.put, List.setIfInBounds_toArray, List.set_cons_zero, List.set_cons_succ]
                    refine reg_skip 19 (atS5 (atS5 (atS5 (atS (atS (atS (atS at0))))))) (by kernel_rfl) (by kernel_rfl) (by kernel_rfl) (by rfl) hHeld ?_
                    try simp only [Act.put, List.setIfInBounds_toArray, List.set_cons_zero, List.set_cons_succ]
                    refine reg_skip 20 (atS5 (atS5 (atS5 (atS5 at0)))) (by kernel_rfl) (by kernel_rfl) (by kernel_rfl) (by rfl) hHeld ?_
                    try simp only [Act.put, List.setIfInBounds_toArray, List.set_cons_zero, List.set_cons_succ]
                    refine reg_skip 21 (atS5 (atS5 (atS5 (atS5 (atS at0))))) (by kernel_rfl) (by kernel_rfl) (by kernel_rfl) (by rfl) hHeld ?_
                    try simp only [Act.put, List.setIfInBounds_toArray, List.set_cons_zero, List.set_cons_succ]
                    refine reg_skip 22 (atS5 (atS5 (atS5 (atS5 (atS (atS at0)))))) (by kernel_rfl) (by kernel_rfl) (by kernel_rfl) (by rfl) hHeld ?_
                    try simp only [Act.put, List.setIfInBounds_toArray, List.set_cons_zero, List.set_cons_succ]
                    refine reg_take 23 (v := ?vg23) (atS5 (atS5 (atS5 (atS5 (atS (atS (atS at0))))))) (by kernel_rfl) (by kernel_rfl) (by kernel_rfl) (by rfl) ?hyg23 hHeld ?restg23
                    case hyg23 => (intro w' hSw; go_simp; try with_reducible rfl)
                    try simp only [Act.put, List.setIfInBounds_toArray, List.set_cons_zero, List.set_cons_succ]
                    refine wpAnyH_done (by kernel_rfl) ?_ _
                    refine NoPanic.normal ?_
                    clear q1 q2 q3 q4 s1 s2 y1 y2 y3
                    go_wp2_with fail
                    exact ⟨⟨j + 1, by omega, by go_num, hid (HNX.out (by rw [HW3.out]; simp [G4.out])), hid (Bt HBA.out (Bt HB5.out hx0f))⟩, by simp [intOf]; omega⟩
              · have t3 : (m.fr == -1) = false := by simpa using g3
                have g4 : 0 ≤ m.fr := by omega
                have t4 : decide (0 ≤ m.fr) = true := decide_eq_true g4
                obtain ⟨g, hg⟩ : ∃ g, T.o[m.fr.toNat]? = some g := ⟨_, List.getElem?_eq_getElem (by have := L1.out; omega)⟩
                obtain ⟨_, _, _, _, b3, off3, rfl, hc3⟩ := H1.out.at hg
                have HC3 := hid hc3
                have HW3 : Hid (mvB T.o m f = (m.zero && castsF g.k g.g f.k f.g)) := hid (mvB_old g4 hg)
                have hfn : (m.fr.toNat : Int) = m.fr := Int.toNat_of_nonneg g4
                have hfl : m.fr < (n : Int) := by omega
                clear hc3 hg
                refine reg_begin (by kernel_rfl) (fun w0g hx0g hHeld => ?_)
                have q0 : ∀ w', Ext w0g w' → MB w' p m 150 := fun w' h => (HMB.out.on (Bt (B0 _) hx0g)).on h
                have q1 := fun w' h => (q0 w' h).cells.1
                have q2 := fun w' h => (q0 w' h).cells.2.1
                have q3 := fun w' h => (q0 w' h).cells.2.2.1
                have q4 := fun w' h => (q0 w' h).cells.2.2.2
                have s0 : ∀ w', Ext w0g w' → TBx w' bx (.slice (some ⟨b3, off3, none⟩) n c) (.slice (some ⟨b2, off2, none⟩) n3 c2) (.slice (some ⟨b, off, none⟩) n3 c3) 110 := fun w' h => (HTB.out.on (Bt (B0 _) hx0g)).on h
                have s1 := fun w' h => (s0 w' h).cells.2.1
                have s2 := fun w' h => (s0 w' h).cells.1
                have y0 : ∀ w', Ext w0g w' → FdC w' b2 (off2 + j * 3) f := fun w' h => HC2.out w' (Bt (Bt (Bt HBA.out (B0 _)) hx0g) h)
                have y1 := fun w' h => (y0 w' h).1
                have y2 := fun w' h => (y0 w' h).2.1
                have y3 := fun w' h => (y0 w' h).2.2
                clear q0 s0 y0
                refine reg_take 0 (v := ?vh0) at0 (by kernel_rfl) (by kernel_rfl) (by kernel_rfl) (by rfl) ?hyh0 hHeld ?resth0
                case hyh0 => (intro w' hSw; go_simp; try with_reducible rfl)
                try simp only [Act.put, List.setIfInBounds_toArray, List.set_cons_zero, List.set_cons_succ]
                refine reg_take 1 (v := ?vh1) (atS at0) (by kernel_rfl) (by kernel_rfl) (by kernel_rfl) (by rfl) ?hyh1 hHeld ?resth1
                case hyh1 => (intro w' hSw; go_simp; try with_reducible rfl)
                try simp only [Act.put, List.setIfInBounds_toArray, List.set_cons_zero, List.set_cons_succ]
                refine reg_take 2 (v := ?vh2) (atS (atS at0)) (by kernel_rfl) (by kernel_rfl) (by kernel_rfl) (by rfl) ?hyh2 hHeld ?resth2
                case hyh2 => (intro w' hSw; go_simp; try with_reducible rfl)
                try simp only [Act.put, List.setIfInBounds_toArray, List.set_cons_zero, List.set_cons_succ]
                refine reg_take 3 (v := ?vh3) (atS (atS (atS at0))) (by kernel_rfl) (by kernel_rfl) (by kernel_rfl) (by rfl) ?hyh3 hHeld ?resth3
                case hyh3 => (intro w' hSw; go_simp; try with_reducible rfl)
                try simp only [Act.put, List.setIfInBounds_toArray, List.set_cons_zero, List.set_cons_succ]
                refine reg_skip 4 (atS (atS (atS (atS at0)))) (by kernel_rfl) (by kernel_rfl) (by kernel_rfl) (by rfl) hHeld ?_
                try simp only [Act.put, List.setIfInBounds_toArray, List.set_cons_zero, List.set_cons_succ]
                refine reg_skip 5 (atS5 at0) (by kernel_rfl) (by kernel_rfl) (by kernel_rfl) (by rfl) hHeld ?_
                try simp only [Act.put, List.setIfInBounds_toArray, List.set_cons_zero, List.set_cons_succ]
                refine reg_skip 6 (atS5 (atS at0)) (by kernel_rfl) (by kernel_rfl) (by kernel_rfl) (by rfl) hHeld ?_
                try simp only [Act.put, List.setIfInBounds_toArray, List.set_cons_zero, List.set_cons_succ]
                refine reg_skip 7 (atS5 (atS (atS at0))) (by kernel_rfl) (by kernel_rfl) (by kernel_rfl) (by rfl) hHeld ?_
                try simp only [Act.put, List.setIfInBounds_toArray, List.set_cons_zero, List.set_cons_succ]
                refine reg_skip 8 (atS5 (atS (atS (atS at0)))) (by kernel_rfl) (by kernel_rfl) (by kernel_rfl) (by rfl) hHeld ?_
                try simp only [Act.put, List.setIfInBounds_toArray, List.set_cons_zero, List.set_cons_succ]
                refine reg_skip 9 (atS5 (atS (atS (atS (atS at0))))) (by kernel_rfl) (by kernel_rfl) (by kernel_rfl) (by rfl) hHeld ?_
                try simp only [Act.put, List.setIfInBounds_toArray, List.set_cons_zero, List.set_cons_succ]
                refine reg_skip 10 (atS5 (atS5 at0)) (by kernel_rfl) (by kernel_rfl) (by kernel_rfl) (by rfl) hHeld ?_
                try simp only [Act.put, List.setIfInBounds_toArray, List.set_cons_zero, List.set_cons_succ]
                refine reg_skip 11 (atS5 (atS5 (atS at0))) (by kernel_rfl) (by kernel_rfl) (by kernel_rfl) (by rfl) hHeld ?_
                try simp only [Act.put, List.setIfInBounds_toArray, List.set_cons_zero, List.set_cons_succ]
                refine reg_skip 12 (atS5 (atS5 (atS (atS at0)))) (by kernel_rfl) (by kernel_rfl) (by kernel_rfl) (by rfl) hHeld ?_
                try simp only [Act.put, List.setIfInBounds_toArray, List.set_cons_zero, List.set_cons_succ]
                refine reg_skip 13 (atS5 (atS5 (atS (atS (atS at0))))) (by kernel_rfl) (by kernel_rfl) (by kernel_rfl) (by rfl) hHeld ?_
                try simp only [Act.put, List.setIfInBounds_toArray, List.set_cons_zero, List.set_cons_succ]
                refine reg_skip 14 (atS5 (atS5 (atS (atS (atS (atS at0)))))) (by kernel_rfl) (by kernel_rfl) (by kernel_rfl) (by rfl) hHeld ?_
                try simp only [Act.put, List.setIfInBounds_toArray, List.set_cons_zero, List.set_cons_succ]
                refine reg_skip 15 (atS5 (atS5 (atS5 at0))) (by kernel_rfl) (by kernel_rfl) (by kernel_rfl) (by rfl) hHeld ?_
                try simp only [Act.put, List.setIfInBounds_toArray, List.set_cons_zero, List.set_cons_succ]
                refine reg_skip 16 (atS5 (atS5 (atS5 (atS at0)))) (by kernel_rfl) (by kernel_rfl) (by kernel_rfl) (by rfl) hHeld ?_
                try simp only [Act.put, List.setIfInBounds_toArray, List.set_cons_zero, List.set_cons_succ]
                refine reg_skip 17 (atS5 (atS5 (atS5 (atS (atS at0))))) (by kernel_rfl) (by kernel_rfl) (by kernel_rfl) (by rfl) hHeld ?_
                try simp only [Act.put, List.setIfInBounds_toArray, List.set_cons_zero, List.set_cons_succ]
                refine reg_skip 18 (atS5 (atS5 (atS5 (atS (atS (atS at0)))))) (by kernel_rfl) (by kernel_rfl) (by kernel_rfl) (by rfl) hHeld ?_
                try simp only [Act.put, List.setIfInBounds_toArray, List.set_cons_zero, List.set_cons_succ]
                refine reg_skip 19 (atS5 (atS5 (atS5 (atS (atS (atS (atS at0))))))) (by kernel_rfl) (by kernel_rfl) (by kernel_rfl) (by rfl) hHeld ?_
                try simp only [Act.put, List.setIfInBounds_toArray, List.set_cons_zero, List.set_cons_succ]
                refine reg_skip 20 (atS5 (atS5 (atS5 (atS5 at0)))) (by kernel_rfl) (by kernel_rfl) (by kernel_rfl) (by rfl) hHeld ?_
                try simp only [Act.put, List.setIfInBounds_toArray, List.set_cons_zero, List.set_cons_succ]
                refine reg_skip 21 (atS5 (atS5 (atS5 (atS5 (atS at0))))) (by kernel_rfl) (by kernel_rfl) (by kernel_rfl) (by rfl) hHeld ?_
                try simp only [Act.put, List.setIfInBounds_toArray, List.set_cons_zero, List.set_cons_succ]
                refine reg_skip 22 (atS5 (atS5 (atS5 (atS5 (atS (atS at0)))))) (by kernel_rfl) (by kernel_rfl) (by kernel_rfl) (by rfl) hHeld ?_
                try simp only [Act.put, List.setIfInBounds_toArray, List.set_cons_zero, List.set_cons_succ]
                refine reg_skip 23 (atS5 (atS5 (atS5 (atS5 (atS (atS (atS at0))))))) (by kernel_rfl) (by kernel_rfl) (by kernel_rfl) (by rfl) hHeld ?_
                try simp only [Act.put, List.setIfInBounds_toArray, List.set_cons_zero, List.set_cons_succ]
                refine reg_skip 24 (atS5 (atS5 (atS5 (atS5 (atS (atS (atS (atS at0)))))))) (by kernel_rfl) (by kernel_rfl) (by kernel_rfl) (by rfl) hHeld ?_
                try simp only [Act.put, List.setIfInBounds_toArray, List.set_cons_zero, List.set_cons_succ]
                refine reg_skip 25 (atS5 (atS5 (atS5 (atS5 (atS5 at0))))) (by kernel_rfl) (by kernel_rfl) (by kernel_rfl) (by rfl) hHeld ?_
                try simp only [Act.put, List.setIfInBounds_toArray, List.set_cons_zero, List.set_cons_succ]
                refine reg_skip 26 (atS5 (atS5 (atS5 (atS5 (atS5 (atS at0)))))) (by kernel_rfl) (by kernel_rfl) (by kernel_rfl) (by rfl) hHeld ?_
                try simp only [Act.put, List.setIfInBounds_toArray, List.set_cons_zero, List.set_cons_succ]
                refine reg_skip 27 (atS5 (atS5 (atS5 (atS5 (atS5 (atS (atS at0))))))) (by kernel_rfl) (by kernel_rfl) (by kernel_rfl) (by rfl) hHeld ?_
                try simp only [Act.put, List.setIfInBounds_toArray, List.set_cons_zero, List.set_cons_succ]
                refine reg_take 28 (v := ?vh28) (atS5 (atS5 (atS5 (atS5 (atS5 (atS (atS (atS at0)))))))) (by kernel_rfl) (by kernel_rfl) (by kernel_rfl) (by rfl) ?hyh28 hHeld ?resth28
                case hyh28 => (intro w' hSw; go_simp; try with_reducible rfl)
                try simp only [Act.put, List.setIfInBounds_toArray, List.set_cons_zero, List.set_cons_succ]
                refine wpAnyH_done (by kernel_rfl) ?_ _
                refine NoPanic.normal ?_
                clear q1 q2 q3 q4 s1 s2 y1 y2 y3
                go_wp2_with fail
                have HB5 : Hid (Below V.heap.size V w0g) := hid (Bt (B0 _) hx0g)
                by_cases g5 : m.k = 0
                · have t5 : (m.k == 0) = true := by simpa using g5
                  by_cases g6 : m.n = 0
                  · have t6 : (m.n == 0) = true := by simpa using g6
                    by_cases g7 : m.t.toList = []
                    · have HZ : Hid (m.zero = true) := hid (by simp [Mv.zero, g5, g6, toList_nil g7])
                      have G5 := hid g5; have G6 := hid g6
                      clear g5 g6
                      obtain ⟨cb, hcb⟩ : ∃ cb, cb = castsF g.k g.g f.k f.g := ⟨_, rfl⟩
                      have HCB := hid hcb
                      rw [HZ.out, ← hcb] at HW3
                      clear hcb
                      refine reg_begin (by kernel_rfl) (fun w0h hx0h hHeld => ?_)
                      have q0 : ∀ w', Ext w0h w' → MB w' p m 150 := fun w' h => (HMB.out.on (Bt HB5.out hx0h)).on h
                      have q1 := fun w' h => (q0 w' h).cells.1
                      have q2 := fun w' h => (q0 w' h).cells.2.1
                      have q3 := fun w' h => (q0 w' h).cells.2.2.1
                      have q4 := fun w' h => (q0 w' h).cells.2.2.2
                      have s0 : ∀ w', Ext w0h w' → TBx w' bx (.slice (some ⟨b3, off3, none⟩) n c) (.slice (some ⟨b2, off2, none⟩) n3 c2) (.slice (some ⟨b, off, none⟩) n3 c3) 110 := fun w' h => (HTB.out.on (Bt HB5.out hx0h)).on h
                      have s1 := fun w' h => (s0 w' h).cells.2.1
                      have s2 := fun w' h => (s0 w' h).cells.1
                      have y0 : ∀ w', Ext w0h w' → FdC w' b2 (off2 + j * 3) f := fun w' h => HC2.out w' (Bt (Bt (Bt HBA.out HB5.out) hx0h) h)
                      have y1 := fun w' h => (y0 w' h).1
                      have y2 := fun w' h => (y0 w' h).2.1
                      have y3 := fun w' h => (y0 w' h).2.2
                      have z0 : ∀ w', Ext w0h w' → FdC w' b3 (off3 + m.fr.toNat * 3) g := fun w' h => HC3.out w' (Bt (Bt (Bt HBA.out HB5.out) hx0h) h)
                      have z1 := fun w' h => (z0 w' h).1
                      have z2 := fun w' h => (z0 w' h).2.1
                      have z3 := fun w' h => (z0 w' h).2.2
                      clear q0 s0 y0 z0
                      refine reg_take 0 (v := ?vi0) at0 (by kernel_rfl) (by kernel_rfl) (by kernel_rfl) (by rfl) ?hyi0 hHeld ?resti0
                      case hyi0 => (intro w' hSw; go_simp; try with_reducible rfl)
                      try simp only [Act.put, List.setIfInBounds_toArray, List.set_cons_zero, List.set_cons_succ]
                      refine reg_take 1 (v := ?vi1) (atS at0) (by kernel_rfl) (by kernel_rfl) (by kernel_rfl) (by rfl) ?hyi1 hHeld ?resti1
                      case hyi1 => (intro w' hSw; go_simp; try with_reducible rfl)
                      try simp only [Act.put, List.setIfInBounds_toArray, List.set_cons_zero, List.set_cons_succ]
                      refine reg_take 2 (v := ?vi2) (atS (atS at0)) (by kernel_rfl) (by kernel_rfl) (by kernel_rfl) (by rfl) ?hyi2 hHeld ?resti2
                      case hyi2 => (intro w' hSw; go_simp; try with_reducible rfl)
                      try simp only [Act.put, List.setIfInBounds_toArray, List.set_cons_zero, List.set_cons_succ]
                      refine reg_take 3 (v := ?vi3) (atS (atS (atS at0))) (by kernel_rfl) (by kernel_rfl) (by kernel_rfl) (by rfl) ?hyi3 hHeld ?resti3
                      case hyi3 => (intro w' hSw; go_simp; try with_reducible rfl)
                      try simp only [Act.put, List.setIfInBounds_toArray, List.set_cons_zero, List.set_cons_succ]
                      refine reg_take 4 (v := ?vi4) (atS (atS (atS (atS at0)))) (by kernel_rfl) (by kernel_rfl) (by kernel_rfl) (by rfl) ?hyi4 hHeld ?resti4
                      case hyi4 => (intro w' hSw; go_simp; try with_reducible rfl)
                      try simp only [Act.put, List.setIfInBounds_toArray, List.set_cons_zero, List.set_cons_succ]
                      refine reg_take 5 (v := ?vi5) (atS5 at0) (by kernel_rfl) (by kernel_rfl) (by kernel_rfl) (by rfl) ?hyi5 hHeld ?resti5
                      case hyi5 => (intro w' hSw; go_simp; try with_reducible rfl)
                      try simp only [Act.put, List.setIfInBounds_toArray, List.set_cons_zero, List.set_cons_succ]
                      refine reg_take 6 (v := ?vi6) (atS5 (atS at0)) (by kernel_rfl) (by kernel_rfl) (by kernel_rfl) (by rfl) ?hyi6 hHeld ?resti6
                      case hyi6 => (intro w' hSw; go_simp; try with_reducible rfl)
                      try simp only [Act.put, List.setIfInBounds_toArray, List.set_cons_zero, List.set_cons_succ]
                      refine reg_take 7 (v := ?vi7) (atS5 (atS (atS at0))) (by kernel_rfl) (by kernel_rfl) (by kernel_rfl) (by rfl) ?hyi7 hHeld ?resti7
                      case hyi7 => (intro w' hSw; go_simp; try with_reducible rfl)
                      try simp only [Act.put, List.setIfInBounds_toArray, List.set_cons_zero, List.set_cons_succ]
                      refine reg_take 8 (v := ?vi8) (atS5 (atS (atS (atS at0)))) (by kernel_rfl) (by kernel_rfl) (by kernel_rfl) (by rfl) ?hyi8 hHeld ?resti8
                      case hyi8 => (intro w' hSw; go_simp; try with_reducible rfl)
                      try simp only [Act.put, List.setIfInBounds_toArray, List.set_cons_zero, List.set_cons_succ]
                      refine reg_take 9 (v := ?vi9) (atS5 (atS (atS (atS (atS at0))))) (by kernel_rfl) (by kernel_rfl) (by kernel_rfl) (by rfl) ?hyi9 hHeld ?resti9
                      case hyi9 => (intro w' hSw; go_simp; try with_reducible rfl)
                      try simp only [Act.put, List.setIfInBounds_toArray, List.set_cons_zero, List.set_cons_succ]
                      refine reg_take 10 (v := ?vi10) (atS5 (atS5 at0)) (by kernel_rfl) (by kernel_rfl) (by kernel_rfl) (by rfl) ?hyi10 hHeld ?resti10
                      case hyi10 => (intro w' hSw; go_simp; try with_reducible rfl)
                      try simp only [Act.put, List.setIfInBounds_toArray, List.set_cons_zero, List.set_cons_succ]
                      refine reg_take 11 (v := ?vi11) (atS5 (atS5 (atS at0))) (by kernel_rfl) (by kernel_rfl) (by kernel_rfl) (by rfl) ?hyi11 hHeld ?resti11
                      case hyi11 => (intro w' hSw; go_simp; try with_reducible rfl)
                      try simp only [Act.put, List.setIfInBounds_toArray, List.set_cons_zero, List.set_cons_succ]
                      refine reg_take 12 (v := ?vi12) (atS5 (atS5 (atS (atS at0)))) (by kernel_rfl) (by kernel_rfl) (by kernel_rfl) (by rfl) ?hyi12 hHeld ?resti12
                      case hyi12 => (intro w' hSw; go_simp; try with_reducible rfl)
                      try simp only [Act.put, List.setIfInBounds_toArray, List.set_cons_zero, List.set_cons_succ]
                      refine reg_take 13 (v := ?vi13) (atS5 (atS5 (atS (atS (atS at0))))) (by kernel_rfl) (by kernel_rfl) (by kernel_rfl) (by rfl) ?hyi13 hHeld ?resti13
                      case hyi13 => (intro w' hSw; go_simp; try with_reducible rfl)
                      try simp only [Act.put, List.setIfInBounds_toArray, List.set_cons_zero, List.set_cons_succ]
                      refine reg_take 14 (v := ?vi14) (atS5 (atS5 (atS (atS (atS (atS at0)))))) (by kernel_rfl) (by kernel_rfl) (by kernel_rfl) (by rfl) ?hyi14 hHeld ?resti14
                      case hyi14 => (intro w' hSw; go_simp; try with_reducible rfl)
                      try simp only [Act.put, List.setIfInBounds_toArray, List.set_cons_zero, List.set_cons_succ]
                      refine reg_take 15 (v := ?vi15) (atS5 (atS5 (atS5 at0))) (by kernel_rfl) (by kernel_rfl) (by kernel_rfl) (by rfl) ?hyi15 hHeld ?resti15
                      case hyi15 => (intro w' hSw; go_simp; try with_reducible rfl)
                      try simp only [Act.put, List.setIfInBounds_toArray, List.set_cons_zero, List.set_cons_succ]
                      refine reg_take 16 (v := ?vi16) (atS5 (atS5 (atS5 (atS at0)))) (by kernel_rfl) (by kernel_rfl) (by kernel_rfl) (by rfl) ?hyi16 hHeld ?resti16
                      case hyi16 => (intro w' hSw; go_simp; try with_reducible rfl)
                      try simp only [Act.put, List.setIfInBounds_toArray, List.set_cons_zero, List.set_cons_succ]
                      refine reg_take 17 (v := ?vi17) (atS5 (atS5 (atS5 (atS (atS at0))))) (by kernel_rfl) (by kernel_rfl) (by kernel_rfl) (by rfl) ?hyi17 hHeld ?resti17
                      case hyi17 => (intro w' hSw; go_simp; try with_reducible rfl)
                      try simp only [Act.put, List.setIfInBounds_toArray, List.set_cons_zero, List.set_cons_succ]
                      refine reg_take 18 (v := ?vi18) (atS5 (atS5 (atS5 (atS (atS (atS at0)))))) (by kernel_rfl) (by kernel_rfl) (by kernel_rfl) (by rfl) ?hyi18 hHeld ?resti18
                      case hyi18 => (intro w' hSw; go_simp; try with_reducible rfl)
                      try simp only [Act.put, List.setIfInBounds_toArray, List.set_cons_zero, List.set_cons_succ]
                      refine reg_take 19 (v := ?vi19) (atS5 (atS5 (atS5 (atS (atS (atS (atS at0))))))) (by kernel_rfl) (by kernel_rfl) (by kernel_rfl) (by rfl) ?hyi19 hHeld ?resti19
                      case hyi19 => (intro w' hSw; go_simp; try with_reducible rfl)
                      try simp only [Act.put, List.setIfInBounds_toArray, List.set_cons_zero, List.set_cons_succ]
                      refine wpAnyH_ready (rs := [20]) (by kernel_rfl) (by simp) ?_
                      refine AllReadyH.cons (atS5 (atS5 (atS5 (atS5 at0)))) (fun K hK => ?_) AllReadyH.nil
                      go_simp
                      refine (rcasts_any (bs g.nm) (bs f.nm) g.k g.g f.k f.g _).mono ?_
                      rintro e w4 ⟨rfl, hb4⟩
                      rw [← HCB.out]
                      go_wp2_with fail
                      refine hK.out _ _ hb4 (fun hHeld => ?_)
                      clear hK K
                      try simp only [Act.put, List.setIfInBounds_toArray, List.set_cons_zero, List.set_cons_succ]
                      refine reg_on hb4 (fun hHeld => ?_)
                      refine reg_take 21 (v := ?vi21) (atS5 (atS5 (atS5 (atS5 (atS at0))))) (by kernel_rfl) (by kernel_rfl) (by kernel_rfl) (by rfl) ?hyi21 hHeld ?resti21
                      case hyi21 => (intro w' hSw; go_simp; try with_reducible rfl)
                      try simp only [Act.put, List.setIfInBounds_toArray, List.set_cons_zero, List.set_cons_succ]
                      refine reg_take 22 (v := ?vi22) (atS5 (atS5 (atS5 (atS5 (atS (atS at0)))))) (by kernel_rfl) (by kernel_rfl) (by kernel_rfl) (by rfl) ?hyi22 hHeld ?resti22
                      case hyi22 => (intro w' hSw; go_simp; try with_reducible rfl)
                      try simp only [Act.put, List.setIfInBounds_toArray, List.set_cons_zero, List.set_cons_succ]
                      refine reg_take 23 (v := ?vi23) (atS5 (atS5 (atS5 (atS5 (atS (atS (atS at0))))))) (by kernel_rfl) (by kernel_rfl) (by kernel_rfl) (by rfl) ?hyi23 hHeld ?resti23
                      case hyi23 => (intro w' hSw; go_simp; try with_reducible rfl)
                      try simp only [Act.put, List.setIfInBounds_toArray, List.set_cons_zero, List.set_cons_succ]
                      refine wpAnyH_done (by kernel_rfl) ?_ _
                      refine NoPanic.normal ?_
                      clear q1 q2 q3 q4 s1 s2 y1 y2 y3 z1 z2 z3
                      cases cb
                      · have HE : Hid (rightT T = false) := hid (HNO.out (by rw [HW3.out]; rfl))
                        go_wp2_with fail
                        go_ret
                        exact ⟨by rw [HE.out]; rfl, Bt HB0.out (Bt HBA.out (Bt HB5.out (Bt hx0h hb4)))⟩
                      · skip
                        go_wp2_with fail
                        exact ⟨⟨j + 1, by omega, by go_num, hid (HNX.out (by rw [HW3.out]; rfl)), hid (Bt HBA.out (Bt HB5.out (Bt hx0h hb4)))⟩, by simp [intOf]; omega⟩
                    · skip
                      have HE : Hid (rightT T = false) := hid (HNO.out (by rw [HW3.out]; simp [Mv.zero, g5, g6, toList_ne g7]))
                      clear g5 g6
                      refine reg_begin (by kernel_rfl) (fun w0i hx0i hHeld => ?_)
                      have q0 : ∀ w', Ext w0i w' → MB w' p m 150 := fun w' h => (HMB.out.on (Bt HB5.out hx0i)).on h
                      have q1 := fun w' h => (q0 w' h).cells.1
                      have q2 := fun w' h => (q0 w' h).cells.2.1
                      have q3 := fun w' h => (q0 w' h).cells.2.2.1
                      have q4 := fun w' h => (q0 w' h).cells.2.2.2
                      have s0 : ∀ w', Ext w0i w' → TBx w' bx (.slice (some ⟨b3, off3, none⟩) n c) (.slice (some ⟨b2, off2, none⟩) n3 c2) (.slice (some ⟨b, off, none⟩) n3 c3) 110 := fun w' h => (HTB.out.on (Bt HB5.out hx0i)).on h
                      have s1 := fun w' h => (s0 w' h).cells.2.1
                      have s2 := fun w' h => (s0 w' h).cells.1
                      have y0 : ∀ w', Ext w0i w' → FdC w' b2 (off2 + j * 3) f := fun w' h => HC2.out w' (Bt (Bt (Bt HBA.out HB5.out) hx0i) h)
                      have y1 := fun w' h => (y0 w' h).1
                      have y2 := fun w' h => (y0 w' h).2.1
                      have y3 := fun w' h => (y0 w' h).2.2
                      have z0 : ∀ w', Ext w0i w' → FdC w' b3 (off3 + m.fr.toNat * 3) g := fun w' h => HC3.out w' (Bt (Bt (Bt HBA.out HB5.out) hx0i) h)
                      have z1 := fun w' h => (z0 w' h).1
                      have z2 := fun w' h => (z0 w' h).2.1
                      have z3 := fun w' h => (z0 w' h).2.2
                      clear q0 s0 y0 z0
                      refine reg_take 0 (v := ?vj0) at0 (by kernel_rfl) (by kernel_rfl) (by kernel_rfl) (by rfl) ?hyj0 hHeld ?restj0
                      case hyj0 => (intro w' hSw; go_simp; try with_reducible rfl)
                      try simp only [Act.put, List.setIfInBounds_toArray, List.set_cons_zero, List.set_cons_succ]
                      refine reg_take 1 (v := ?vj1) (atS at0) (by kernel_rfl) (by kernel_rfl) (by kernel_rfl) (by rfl) ?hyj1 hHeld ?restj1
                      case hyj1 => (intro w' hSw; go_simp; try with_reducible rfl)
                      try simp only [Act.put, List.setIfInBounds_toArray, List.set_cons_zero, List.set_cons_succ]
                      refine reg_take 2 (v := ?vj2) (atS (atS at0)) (by kernel_rfl) (by kernel_rfl) (by kernel_rfl) (by rfl) ?hyj2 hHeld ?restj2
                      case hyj2 => (intro w' hSw; go_simp; try with_reducible rfl)
                      try simp only [Act.put, List.setIfInBounds_toArray, List.set_cons_zero, List.set_cons_succ]
                      refine reg_take 3 (v := ?vj3) (atS (atS (atS at0))) (by kernel_rfl) (by kernel_rfl) (by kernel_rfl) (by rfl) ?hyj3 hHeld ?restj3
                      case hyj3 => (intro w' hSw; go_simp; try with_reducible rfl)
                      try simp only [Act.put, List.setIfInBounds_toArray, List.set_cons_zero, List.set_cons_succ]
                      refine reg_take 4 (v := ?vj4) (atS (atS (atS (atS at0)))) (by kernel_rfl) (by kernel_rfl) (by kernel_rfl) (by rfl) ?hyj4 hHeld ?restj4
                      case hyj4 => (intro w' hSw; go_simp; try with_reducible rfl)
                      try simp only [Act.put, List.setIfInBounds_toArray, List.set_cons_zero, List.set_cons_succ]
                      refine reg_take 5 (v := ?vj5) (atS5 at0) (by kernel_rfl) (by kernel_rfl) (by kernel_rfl) (by rfl) ?hyj5 hHeld ?restj5
                      case hyj5 => (intro w' hSw; go_simp; try with_reducible rfl)
                      try simp only [Act.put, List.setIfInBounds_toArray, List.set_cons_zero, List.set_cons_succ]
                      refine reg_take 6 (v := ?vj6) (atS5 (atS at0)) (by kernel_rfl) (by kernel_rfl) (by kernel_rfl) (by rfl) ?hyj6 hHeld ?restj6
                      case hyj6 => (intro w' hSw; go_simp; try with_reducible rfl)
                      try simp only [Act.put, List.setIfInBounds_toArray, List.set_cons_zero, List.set_cons_succ]
                      refine reg_take 7 (v := ?vj7) (atS5 (atS (atS at0))) (by kernel_rfl) (by kernel_rfl) (by kernel_rfl) (by rfl) ?hyj7 hHeld ?restj7
                      case hyj7 => (intro w' hSw; go_simp; try with_reducible rfl)
                      try simp only [Act.put, List.setIfInBounds_toArray, List.set_cons_zero, List.set_cons_succ]
                      refine reg_take 8 (v := ?vj8) (atS5 (atS (atS (atS at0)))) (by kernel_rfl) (by kernel_rfl) (by kernel_rfl) (by rfl) ?hyj8 hHeld ?restj8
                      case hyj8 => (intro w' hSw; go_simp; try with_reducible rfl)
                      try simp only [Act.put, List.setIfInBounds_toArray, List.set_cons_zero, List.set_cons_succ]
                      refine reg_skip 9 (atS5 (atS (atS (atS (atS at0))))) (by kernel_rfl) (by kernel_rfl) (by kernel_rfl) (by rfl) hHeld ?_
                      try simp only [Act.put, List.setIfInBounds_toArray, List.set_cons_zero, List.set_cons_succ]
                      refine reg_skip 10 (atS5 (atS5 at0)) (by kernel_rfl) (by kernel_rfl) (by kernel_rfl) (by rfl) hHeld ?_
                      try simp only [Act.put, List.setIfInBounds_toArray, List.set_cons_zero, List.set_cons_succ]
                      refine reg_skip 11 (atS5 (atS5 (atS at0))) (by kernel_rfl) (by kernel_rfl) (by kernel_rfl) (by rfl) hHeld ?_
                      try simp only [Act.put, List.setIfInBounds_toArray, List.set_cons_zero, List.set_cons_succ]
                      refine reg_skip 12 (atS5 (atS5 (atS (atS at0)))) (by kernel_rfl) (by kernel_rfl) (by kernel_rfl) (by rfl) hHeld ?_
                      try simp only [Act.put, List.setIfInBounds_toArray, List.set_cons_zero, List.set_cons_succ]
                      refine reg_skip 13 (atS5 (atS5 (atS (atS (atS at0))))) (by kernel_rfl) (by kernel_rfl) (by kernel_rfl) (by rfl) hHeld ?_
                      try simp only [Act.put, List.setIfInBounds_toArray, List.set_cons_zero, List.set_cons_succ]
                      refine reg_skip 14 (atS5 (atS5 (atS (atS (atS (atS at0)))))) (by kernel_rfl) (by kernel_rfl) (by kernel_rfl) (by rfl) hHeld ?_
                      try simp only [Act.put, List.setIfInBounds_toArray, List.set_cons_zero, List.set_cons_succ]
                      refine reg_skip 15 (atS5 (atS5 (atS5 at0))) (by kernel_rfl) (by kernel_rfl) (by kernel_rfl) (by rfl) hHeld ?_
                      try simp only [Act.put, List.setIfInBounds_toArray, List.set_cons_zero, List.set_cons_succ]
                      refine reg_skip 16 (atS5 (atS5 (atS5 (atS at0)))) (by kernel_rfl) (by kernel_rfl) (by kernel_rfl) (by rfl) hHeld ?_
                      try simp only [Act.put, List.setIfInBounds_toArray, List.set_cons_zero, List.set_cons_succ]
                      refine reg_skip 17 (atS5 (atS5 (atS5 (atS (atS at0))))) (by kernel_rfl) (by kernel_rfl) (by kernel_rfl) (by rfl) hHeld ?_
                      try simp only [Act.put, List.setIfInBounds_toArray, List.set_cons_zero, List.set_cons_succ]
                      refine reg_skip 18 (atS5 (atS5 (atS5 (atS (atS (atS at0)))))) (by kernel_rfl) (by kernel_rfl) (by kernel_rfl) (by rfl) hHeld ?_
                      try simp only [Act.put, List.setIfInBounds_toArray, List.set_cons_zero, List.set_cons_succ]
                      refine reg_skip 19 (atS5 (atS5 (atS5 (atS (atS (atS (atS at0))))))) (by kernel_rfl) (by kernel_rfl) (by kernel_rfl) (by rfl) hHeld ?_
                      try simp only [Act.put, List.setIfInBounds_toArray, List.set_cons_zero, List.set_cons_succ]
                      refine reg_skip 20 (atS5 (atS5 (atS5 (atS5 at0)))) (by kernel_rfl) (by kernel_rfl) (by kernel_rfl) (by rfl) hHeld ?_
                      try simp only [Act.put, List.setIfInBounds_toArray, List.set_cons_zero, List.set_cons_succ]
                      refine reg_skip 21 (atS5 (atS5 (atS5 (atS5 (atS at0))))) (by kernel_rfl) (by kernel_rfl) (by kernel_rfl) (by rfl) hHeld ?_
                      try simp only [Act.put, List.setIfInBounds_toArray, List.set_cons_zero, List.set_cons_succ]
                      refine reg_take 22 (v := ?vj22) (atS5 (atS5 (atS5 (atS5 (atS (atS at0)))))) (by kernel_rfl) (by kernel_rfl) (by kernel_rfl) (by rfl) ?hyj22 hHeld ?restj22
                      case hyj22 => (intro w' hSw; go_simp; try with_reducible rfl)
                      try simp only [Act.put, List.setIfInBounds_toArray, List.set_cons_zero, List.set_cons_succ]
                      refine reg_take 23 (v := ?vj23) (atS5 (atS5 (atS5 (atS5 (atS (atS (atS at0))))))) (by kernel_rfl) (by kernel_rfl) (by kernel_rfl) (by rfl) ?hyj23 hHeld ?restj23
                      case hyj23 => (intro w' hSw; go_simp; try with_reducible rfl)
                      try simp only [Act.put, List.setIfInBounds_toArray, List.set_cons_zero, List.set_cons_succ]
                      refine wpAnyH_done (by kernel_rfl) ?_ _
                      refine NoPanic.normal ?_
                      clear q1 q2 q3 q4 s1 s2 y1 y2 y3 z1 z2 z3
                      go_wp2_with fail
                      go_ret
                      exact ⟨by rw [HE.out]; rfl, Bt HB0.out (Bt HBA.out (Bt HB5.out hx0i))⟩
                  · have t6 : (m.n == 0) = false := by simpa using g6
                    have HE : Hid (rightT T = false) := hid (HNO.out (by rw [HW3.out]; simp [Mv.zero, g5, g6]))
                    clear g5 g6
                    refine reg_begin (by kernel_rfl) (fun w0j hx0j hHeld => ?_)
                    have q0 : ∀ w', Ext w0j w' → MB w' p m 150 := fun w' h => (HMB.out.on (Bt HB5.out hx0j)).on h
                    have q1 := fun w' h => (q0 w' h).cells.1
                    have q2 := fun w' h => (q0 w' h).cells.2.1
                    have q3 := fun w' h => (q0 w' h).cells.2.2.1
                    have q4 := fun w' h => (q0 w' h).cells.2.2.2
                    have s0 : ∀ w', Ext w0j w' → TBx w' bx (.slice (some ⟨b3, off3, none⟩) n c) (.slice (some ⟨b2, off2, none⟩) n3 c2) (.slice (some ⟨b, off, none⟩) n3 c3) 110 := fun w' h => (HTB.out.on (Bt HB5.out hx0j)).on h
                    have s1 := fun w' h => (s0 w' h).cells.2.1
                    have s2 := fun w' h => (s0 w' h).cells.1
                    have y0 : ∀ w', Ext w0j w' → FdC w' b2 (off2 + j * 3) f := fun w' h => HC2.out w' (Bt (Bt (Bt HBA.out HB5.out) hx0j) h)
                    have y1 := fun w' h => (y0 w' h).1
                    have y2 := fun w' h => (y0 w' h).2.1
                    have y3 := fun w' h => (y0 w' h).2.2
                    have z0 : ∀ w', Ext w0j w' → FdC w' b3 (off3 + m.fr.toNat * 3) g := fun w' h => HC3.out w' (Bt (Bt (Bt HBA.out HB5.out) hx0j) h)
                    have z1 := fun w' h => (z0 w' h).1
                    have z2 := fun w' h => (z0 w' h).2.1
                    have z3 := fun w' h => (z0 w' h).2.2
                    clear q0 s0 y0 z0
                    refine reg_take 0 (v := ?vk0) at0 (by kernel_rfl) (by kernel_rfl) (by kernel_rfl) (by rfl) ?hyk0 hHeld ?restk0
                    case hyk0 => (intro w' hSw; go_simp; try with_reducible rfl)
                    try simp only [Act.put, List.setIfInBounds_toArray, List.set_cons_zero, List.set_cons_succ]
                    refine reg_take 1 (v := ?vk1) (atS at0) (by kernel_rfl) (by kernel_rfl) (by kernel_rfl) (by rfl) ?hyk1 hHeld ?restk1
                    case hyk1 => (intro w' hSw; go_simp; try with_reducible rfl)
                    try simp only [Act.put, List.setIfInBounds_toArray, List.set_cons_zero, List.set_cons_succ]
                    refine reg_take 2 (v := ?vk2) (atS (atS at0)) (by kernel_rfl) (by kernel_rfl) (by kernel_rfl) (by rfl) ?hyk2 hHeld ?restk2
                    case hyk2 => (intro w' hSw; go_simp; try with_reducible rfl)
                    try simp only [Act.put, List.setIfInBounds_toArray, List.set_cons_zero, List.set_cons_succ]
                    refine reg_take 3 (v := ?vk3) (atS (atS (atS at0))) (by kernel_rfl) (by kernel_rfl) (by kernel_rfl) (by rfl) ?hyk3 hHeld ?restk3
                    case hyk3 => (intro w' hSw; go_simp; try with_reducible rfl)
                    try simp only [Act.put, List.setIfInBounds_toArray, List.set_cons_zero, List.set_cons_succ]
                    refine reg_take 4 (v := ?vk4) (atS (atS (atS (atS at0)))) (by kernel_rfl) (by kernel_rfl) (by kernel_rfl) (by rfl) ?hyk4 hHeld ?restk4
                    case hyk4 => (intro w' hSw; go_simp; try with_reducible rfl)
                    try simp only [Act.put, List.setIfInBounds_toArray, List.set_cons_zero, List.set_cons_succ]
                    refine reg_take 5 (v := ?vk5) (atS5 at0) (by kernel_rfl) (by kernel_rfl) (by kernel_rfl) (by rfl) ?hyk5 hHeld ?restk5
                    case hyk5 => (intro w' hSw; go_simp; try with_reducible rfl)
                    try simp only [Act.put, List.setIfInBounds_toArray, List.set_cons_zero, List.set_cons_succ]
                    refine reg_take 6 (v := ?vk6) (atS5 (atS at0)) (by kernel_rfl) (by kernel_rfl) (by kernel_rfl) (by rfl) ?hyk6 hHeld ?restk6
                    case hyk6 => (intro w' hSw; go_simp; try with_reducible rfl)
                    try simp only [Act.put, List.setIfInBounds_toArray, List.set_cons_zero, List.set_cons_succ]
                    refine reg_take 7 (v := ?vk7) (atS5 (atS (atS at0))) (by kernel_rfl) (by kernel_rfl) (by kernel_rfl) (by rfl) ?hyk7 hHeld ?restk7
                    case hyk7 => (intro w' hSw; go_simp; try with_reducible rfl)
                    try simp only [Act.put, List.setIfInBounds_toArray, List.set_cons_zero, List.set_cons_succ]
                    refine reg_take 8 (v := ?vk8) (atS5 (atS (atS (atS at0)))) (by kernel_rfl) (by kernel_rfl) (by kernel_rfl) (by rfl) ?hyk8 hHeld ?restk8
                    case hyk8 => (intro w' hSw; go_simp; try with_reducible rfl)
                    try simp only [Act.put, List.setIfInBounds_toArray, List.set_cons_zero, List.set_cons_succ]
                    refine reg_skip 9 (atS5 (atS (atS (atS (atS at0))))) (by kernel_rfl) (by kernel_rfl) (by kernel_rfl) (by rfl) hHeld ?_
                    try simp only [Act.put, List.setIfInBounds_toArray, List.set_cons_zero, List.set_cons_succ]
                    refine reg_skip 10 (atS5 (atS5 at0)) (by kernel_rfl) (by kernel_rfl) (by kernel_rfl) (by rfl) hHeld ?_
                    try simp only [Act.put, List.setIfInBounds_toArray, List.set_cons_zero, List.set_cons_succ]
                    refine reg_skip 11 (atS5 (atS5 (atS at0))) (by kernel_rfl) (by kernel_rfl) (by kernel_rfl) (by rfl) hHeld ?_
                    try simp only [Act.put, List.setIfInBounds_toArray, List.set_cons_zero, List.set_cons_succ]
                    refine reg_skip 12 (atS5 (atS5 (atS (atS at0)))) (by kernel_rfl) (by kernel_rfl) (by kernel_rfl) (by rfl) hHeld ?_
                    try simp only [Act.put, List.setIfInBounds_toArray, List.set_cons_zero, List.set_cons_succ]
                    refine reg_skip 13 (atS5 (atS5 (atS (atS (atS at0))))) (by kernel_rfl) (by kernel_rfl) (by kernel_rfl) (by rfl) hHeld ?_
                    try simp only [Act.put, List.setIfInBounds_toArray, List.set_cons_zero, List.set_cons_succ]
                    refine reg_skip 14 (atS5 (atS5 (atS (atS (atS (atS at0)))))) (by kernel_rfl) (by kernel_rfl) (by kernel_rfl) (by rfl) hHeld ?_
                    try simp only [Act.put, List.setIfInBounds_toArray, List.set_cons_zero, List.set_cons_succ]
                    refine reg_skip 15 (atS5 (atS5 (atS5 at0))) (by kernel_rfl) (by kernel_rfl) (by kernel_rfl) (by rfl) hHeld ?_
                    try simp only [Act.put, List.setIfInBounds_toArray, List.set_cons_zero, List.set_cons_succ]
                    refine reg_skip 16 (atS5 (atS5 (atS5 (atS at0)))) (by kernel_rfl) (by kernel_rfl) (by kernel_rfl) (by rfl) hHeld ?_
                    try simp only [Act.put, List.setIfInBounds_toArray, List.set_cons_zero, List.set_cons_succ]
                    refine reg_skip 17 (atS5 (atS5 (atS5 (atS (atS at0))))) (by kernel_rfl) (by kernel_rfl) (by kernel_rfl) (by rfl) hHeld ?_
                    try simp only [Act.put, List.setIfInBounds_toArray, List.set_cons_zero, List.set_cons_succ]
                    refine reg_skip 18 (atS5 (atS5 (atS5 (atS (atS (atS at0)))))) (by kernel_rfl) (by kernel_rfl) (by kernel_rfl) (by rfl) hHeld ?_
                    try simp only [Act.put, List.setIfInBounds_toArray, List.set_cons_zero, List.set_cons_succ]
                    refine reg_skip 19 (atS5 (atS5 (atS5 (atS (atS (atS (atS at0))))))) (by kernel_rfl) (by kernel_rfl) (by kernel_rfl) (by rfl) hHeld ?_
                    try simp only [Act.put, List.setIfInBounds_toArray, List.set_cons_zero, List.set_cons_succ]
                    refine reg_skip 20 (atS5 (atS5 (atS5 (atS5 at0)))) (by kernel_rfl) (by kernel_rfl) (by kernel_rfl) (by rfl) hHeld ?_
                    try simp only [Act.put, List.setIfInBounds_toArray, List.set_cons_zero, List.set_cons_succ]
                    refine reg_skip 21 (atS5 (atS5 (atS5 (atS5 (atS at0))))) (by kernel_rfl) (by kernel_rfl) (by kernel_rfl) (by rfl) hHeld ?_
                    try simp only [Act.put, List.setIfInBounds_toArray, List.set_cons_zero, List.set_cons_succ]
                    refine reg_take 22 (v := ?vk22) (atS5 (atS5 (atS5 (atS5 (atS (atS at0)))))) (by kernel_rfl) (by kernel_rfl) (by kernel_rfl) (by rfl) ?hyk22 hHeld ?restk22
                    case hyk22 => (intro w' hSw; go_simp; try with_reducible rfl)
                    try simp only [Act.put, List.setIfInBounds_toArray, List.set_cons_zero, List.set_cons_succ]
                    refine reg_take 23 (v := ?vk23) (atS5 (atS5 (atS5 (atS5 (atS (atS (atS at0))))))) (by kernel_rfl) (by kernel_rfl) (by kernel_rfl) (by rfl) ?hyk23 hHeld ?restk23
                    case hyk23 => (intro w' hSw; go_simp; try with_reducible rfl)
                    try simp only [Act.put, List.setIfInBounds_toArray, List.set_cons_zero, List.set_cons_succ]
                    refine wpAnyH_done (by kernel_rfl) ?_ _
                    refine NoPanic.normal ?_
                    clear q1 q2 q3 q4 s1 s2 y1 y2 y3 z1 z2 z3
                    go_wp2_with fail
                    go_ret
                    exact ⟨by rw [HE.out]; rfl, Bt HB0.out (Bt HBA.out (Bt HB5.out hx0j))⟩
                · have t5 : (m.k == 0) = false := by simpa using g5
                  have HE : Hid (rightT T = false) := hid (HNO.out (by rw [HW3.out]; simp [Mv.zero, g5]))
                  clear g5
                  refine reg_begin (by kernel_rfl) (fun w0k hx0k hHeld => ?_)
                  have q0 : ∀ w', Ext w0k w' → MB w' p m 150 := fun w' h => (HMB.out.on (Bt HB5.out hx0k)).on h
                  have q1 := fun w' h => (q0 w' h).cells.1
                  have q2 := fun w' h => (q0 w' h).cells.2.1
                  have q3 := fun w' h => (q0 w' h).cells.2.2.1
                  have q4 := fun w' h => (q0 w' h).cells.2.2.2
                  have s0 : ∀ w', Ext w0k w' → TBx w' bx (.slice (some ⟨b3, off3, none⟩) n c) (.slice (some ⟨b2, off2, none⟩) n3 c2) (.slice (some ⟨b, off, none⟩) n3 c3) 110 := fun w' h => (HTB.out.on (Bt HB5.out hx0k)).on h
                  have s1 := fun w' h => (s0 w' h).cells.2.1
                  have s2 := fun w' h => (s0 w' h).cells.1
                  have y0 : ∀ w', Ext w0k w' → FdC w' b2 (off2 + j * 3) f := fun w' h => HC2.out w' (Bt (Bt (Bt HBA.out HB5.out) hx0k) h)
                  have y1 := fun w' h => (y0 w' h).1
                  have y2 := fun w' h => (y0 w' h).2.1
                  have y3 := fun w' h => (y0 w' h).2.2
                  have z0 : ∀ w', Ext w0k w' → FdC w' b3 (off3 + m.fr.toNat * 3) g := fun w' h => HC3.out w' (Bt (Bt (Bt HBA.out HB5.out) hx0k) h)
                  have z1 := fun w' h => (z0 w' h).1
                  have z2 := fun w' h => (z0 w' h).2.1
                  have z3 := fun w' h => (z0 w' h).2.2
                  clear q0 s0 y0 z0
                  refine reg_take 0 (v := ?vl0) at0 (by kernel_rfl) (by kernel_rfl) (by kernel_rfl) (by rfl) ?hyl0 hHeld ?restl0
                  case hyl0 => (intro w' hSw; go_simp; try with_reducible rfl)
                  try simp only [Act.put, List.setIfInBounds_toArray, List.set_cons_zero, List.set_cons_succ]
                  refine reg_take 1 (v := ?vl1) (atS at0) (by kernel_rfl) (by kernel_rfl) (by kernel_rfl) (by rfl) ?hyl1 hHeld ?restl1
                  case hyl1 => (intro w' hSw; go_simp; try with_reducible rfl)
                  try simp only [Act.put, List.setIfInBounds_toArray, List.set_cons_zero, List.set_cons_succ]
                  refine reg_take 2 (v := ?vl2) (atS (atS at0)) (by kernel_rfl) (by kernel_rfl) (by kernel_rfl) (by rfl) ?hyl2 hHeld ?restl2
                  case hyl2 => (intro w' hSw; go_simp; try with_reducible rfl)
                  try simp only [Act.put, List.setIfInBounds_toArray, List.set_cons_zero, List.set_cons_succ]
                  refine reg_take 3 (v := ?vl3) (atS (atS (atS at0))) (by kernel_rfl) (by kernel_rfl) (by kernel_rfl) (by rfl) ?hyl3 hHeld ?restl3
                  case hyl3 => (intro w' hSw; go_simp; try with_reducible rfl)
                  try simp only [Act.put, List.setIfInBounds_toArray, List.set_cons_zero, List.set_cons_succ]
                  refine reg_take 4 (v := ?vl4) (atS (atS (atS (atS at0)))) (by kernel_rfl) (by kernel_rfl) (by kernel_rfl) (by rfl) ?hyl4 hHeld ?restl4
                  case hyl4 => (intro w' hSw; go_simp; try with_reducible rfl)
                  try simp only [Act.put, List.setIfInBounds_toArray, List.set_cons_zero, List.set_cons_succ]
                  refine reg_take 5 (v := ?vl5) (atS5 at0) (by kernel_rfl) (by kernel_rfl) (by kernel_rfl) (by rfl) ?hyl5 hHeld ?restl5
                  case hyl5 => (intro w' hSw; go_simp; try with_reducible rfl)
                  try simp only [Act.put, List.setIfInBounds_toArray, List.set_cons_zero, List.set_cons_succ]
                  refine reg_take 6 (v := ?vl6) (atS5 (atS at0)) (by kernel_rfl) (by kernel_rfl) (by kernel_rfl) (by rfl) ?hyl6 hHeld ?restl6
                  case hyl6 => (intro w' hSw; go_simp; try with_reducible rfl)
                  try simp only [Act.put, List.setIfInBounds_toArray, List.set_cons_zero, List.set_cons_succ]
                  refine reg_take 7 (v := ?vl7) (atS5 (atS (atS at0))) (by kernel_rfl) (by kernel_rfl) (by kernel_rfl) (by rfl) ?hyl7 hHeld ?restl7
                  case hyl7 => (intro w' hSw; go_simp; try with_reducible rfl)
                  try simp only [Act.put, List.setIfInBounds_toArray, List.set_cons_zero, List.set_cons_succ]
                  refine reg_take 8 (v := ?vl8) (atS5 (atS (atS (atS at0)))) (by kernel_rfl) (by kernel_rfl) (by kernel_rfl) (by rfl) ?hyl8 hHeld ?restl8
                  case hyl8 => (intro w' hSw; go_simp; try with_reducible rfl)
                  try simp only [Act.put, List.setIfInBounds_toArray, List.set_cons_zero, List.set_cons_succ]
                  refine reg_skip 9 (atS5 (atS (atS (atS (atS at0))))) (by kernel_rfl) (by kernel_rfl) (by kernel_rfl) (by rfl) hHeld ?_
                  try simp only [Act.put, List.setIfInBounds_toArray, List.set_cons_zero, List.set_cons_succ]
                  refine reg_skip 10 (atS5 (atS5 at0)) (by kernel_rfl) (by kernel_rfl) (by kernel_rfl) (by rfl) hHeld ?_
                  try simp only [Act.put, List.setIfInBounds_toArray, List.set_cons_zero, List.set_cons_succ]
                  refine reg_skip 11 (atS5 (atS5 (atS at0))) (by kernel_rfl) (by kernel_rfl) (by kernel_rfl) (by rfl) hHeld ?_
                  try simp only [Act.put, List.setIfInBounds_toArray, List.set_cons_zero, List.set_cons_succ]
                  refine reg_skip 12 (atS5 (atS5 (atS (atS at0)))) (by kernel_rfl) (by kernel_rfl) (by kernel_rfl) (by rfl) hHeld ?_
                  try simp only [Act.put, List.setIfInBounds_toArray, List.set_cons_zero, List.set_cons_succ]
                  refine reg_skip 13 (atS5 (atS5 (atS (atS (atS at0))))) (by kernel_rfl) (by kernel_rfl) (by kernel_rfl) (by rfl) hHeld ?_
                  try simp only [Act.put, List.setIfInBounds_toArray, List.set_cons_zero, List.set_cons_succ]
                  refine reg_skip 14 (atS5 (atS5 (atS (atS (atS (atS at0)))))) (by kernel_rfl) (by kernel_rfl) (by kernel_rfl) (by rfl) hHeld ?_
                  try simp only [Act.put, List.setIfInBounds_toArray, List.set_cons_zero, List.set_cons_succ]
                  refine reg_skip 15 (atS5 (atS5 (atS5 at0))) (by kernel_rfl) (by kernel_rfl) (by kernel_rfl) (by rfl) hHeld ?_
                  try simp only [Act.put, List.setIfInBounds_toArray, List.set_cons_zero, List.set_cons_succ]
                  refine reg_skip 16 (atS5 (atS5 (atS5 (atS at0)))) (by kernel_rfl) (by kernel_rfl) (by kernel_rfl) (by rfl) hHeld ?_
                  try simp only [Act.put, List.setIfInBounds_toArray, List.set_cons_zero, List.set_cons_succ]
                  refine reg_skip 17 (atS5 (atS5 (atS5 (atS (atS at0))))) (by kernel_rfl) (by kernel_rfl) (by kernel_rfl) (by rfl) hHeld ?_
                  try simp only [Act.put, List.setIfInBounds_toArray, List.set_cons_zero, List.set_cons_succ]
                  refine reg_skip 18 (atS5 (atS5 (atS5 (atS (atS (atS at0)))))) (by kernel_rfl) (by kernel_rfl) (by kernel_rfl) (by rfl) hHeld ?_
                  try simp only [Act.put, List.setIfInBounds_toArray, List.set_cons_zero, List.set_cons_succ]
                  refine reg_skip 19 (atS5 (atS5 (atS5 (atS (atS (atS (atS at0))))))) (by kernel_rfl) (by kernel_rfl) (by kernel_rfl) (by rfl) hHeld ?_
                  try simp only [Act.put, List.setIfInBounds_toArray, List.set_cons_zero, List.set_cons_succ]
                  refine reg_skip 20 (atS5 (atS5 (atS5 (atS5 at0)))) (by kernel_rfl) (by kernel_rfl) (by kernel_rfl) (by rfl) hHeld ?_
                  try simp only [Act.put, List.setIfInBounds_toArray, List.set_cons_zero, List.set_cons_succ]
                  refine reg_skip 21 (atS5 (atS5 (atS5 (atS5 (atS at0))))) (by kernel_rfl) (by kernel_rfl) (by kernel_rfl) (by rfl) hHeld ?_
                  try simp only [Act.put, List.setIfInBounds_toArray, List.set_cons_zero, List.set_cons_succ]
                  refine reg_take 22 (v := ?vl22) (atS5 (atS5 (atS5 (atS5 (atS (atS at0)))))) (by kernel_rfl) (by kernel_rfl) (by kernel_rfl) (by rfl) ?hyl22 hHeld ?restl22
                  case hyl22 => (intro w' hSw; go_simp; try with_reducible rfl)
                  try simp only [Act.put, List.setIfInBounds_toArray, List.set_cons_zero, List.set_cons_succ]
                  refine reg_take 23 (v := ?vl23) (atS5 (atS5 (atS5 (atS5 (atS (atS (atS at0))))))) (by kernel_rfl) (by kernel_rfl) (by kernel_rfl) (by rfl) ?hyl23 hHeld ?restl23
                  case hyl23 => (intro w' hSw; go_simp; try with_reducible rfl)
                  try simp only [Act.put, List.setIfInBounds_toArray, List.set_cons_zero, List.set_cons_succ]
                  refine wpAnyH_done (by kernel_rfl) ?_ _
                  refine NoPanic.normal ?_
                  clear q1 q2 q3 q4 s1 s2 y1 y2 y3 z1 z2 z3
                  go_wp2_with fail
                  go_ret
                  exact ⟨by rw [HE.out]; rfl, Bt HB0.out (Bt HBA.out (Bt HB5.out hx0k))⟩
          · obtain rfl : j = n3 := by omega
            have HE : Hid (rightT T = true) := hid (rightT_iff.2 ⟨HR1.out.symm, HR2.out.symm, by rw [L2.out, L3.out], fun x m f hm hf => HA.out x m f (by have := (List.getElem?_eq_some_iff.1 hm).1; have := L3.out; omega) hm hf⟩)
            go_wp2_with fail
            go_ret
            exact ⟨by rw [HE.out]; rfl, Bt HB0.out HB.out⟩
      · have hn23 : ¬ (n3 : Int) = n2 := by omega
        have HE : Hid (rightT T = false) := by
          cases hr : rightT T with
          | false => exact hid rfl
          | true => have := (rightT_iff.1 hr).2.2.1; rw [L2.out, L3.out] at this; exact absurd this hlen
        go_wp2_with fail
        go_ret
        exact ⟨by rw [HE.out]; rfl, Bt HB0.out HB2.out⟩
end Go.Proofs.YtaegencmnmjgbaaGreat
