/-
  The document's Make of layer 8.
  Many changes: mathematics; slices of changes; tables stand where another one's box turns.
  What a change makes is a right table: mathematics.
  A field that no change names stays: mathematics.
-/
import Derived.Test.YtaegencmnmjgbaaGreatM29
import Derived.Test.YtaegencmnmjgbaaGreatM30
import Derived.Test.YtaegencmnmjgbaaGreatM31
import Derived.Test.YtaegencmnmjgbaaGreatM32
import Derived.Test.YtaegencmnmjgbaaGreatM33

namespace Go.Proofs.YtaegencmnmjgbaaGreat
open Go.RowKit
set_option linter.unusedVariables false
set_option linter.unusedSimpArgs false
set_option maxRecDepth 20000 in
set_option maxHeartbeats 12000000 in
theorem r8make_any {w : World} {A : Option Addr} {n cp : Nat} {l : List Fd} (h : RdF w w.heap.size A n cp l) (hs : short l) {c : Ch} (hc : chOk c) {A2 : Option Addr} {n2 c2 : Nat} (ho : RdI w w.heap.size A2 n2 c2 c.od) (hno : n2 ≤ 140737488351232) :
    Calls Tryz.prog 142 #[.slice A n cp, chV c A2 n2 c2] w (MkQ w l c) := by
  cases hr : rightL l with
  | true =>
    by_cases hin : 1 ≤ c.op ∧ c.op ≤ 5
    · have h5 : c.op = 1 ∨ c.op = 2 ∨ c.op = 3 ∨ c.op = 4 ∨ c.op = 5 := by omega
      rcases h5 with e | e | e | e | e
      · exact r8mk1 h hs e hc ho hno hr
      · exact r8mk2 h hs e hc ho hno hr
      · exact r8mk3 h hs e hc ho hno hr
      · exact r8mk4 h hs e hc ho hno hr
      · exact r8mk5 h hs e hc ho hno hr
    · have HE : Hid (mkE l c = 80) := hid (by unfold mkE; rw [hr, if_neg (by simp), if_pos (by omega)])
      have HIN := hid hin
      clear hin
      have HR := hid hr
      obtain ⟨w0, hw0⟩ : ∃ w0, w0 = ((w.alloc (.cells #[.int .i64 c.op, .string (bs c.nm), .string (bs c.to.nm), .int .i64 c.to.k, .int .i64 c.to.g, .int .i64 c.dk, .int .u64 c.dn, .string c.dt, .slice A2 n2 c2] 73)).alloc (.cells #[.slice none 0 0, .slice none 0 0, .slice none 0 0] 110)).alloc (.cells #[.slice none 0 0, .slice none 0 0, .slice none 0 0] 110) := ⟨_, rfl⟩
      have HW0 := hid hw0
      have HB0 : Hid (Below w.heap.size w w0) := by rw [hw0]; exact Ba (Ba (B1 _ _) _) _
      obtain ⟨rc, hrc⟩ : ∃ rc, rc = w.heap.size := ⟨_, rfl⟩
      obtain ⟨rz, hrz⟩ : ∃ rz, rz = w.heap.size + 1 := ⟨_, rfl⟩
      obtain ⟨rn, hrn⟩ : ∃ rn, rn = w.heap.size + 1 + 1 := ⟨_, rfl⟩
      have HRC := hid hrc; have HRZE := hid hrz; have HRN := hid hrn
      have HCB : Hid (CB w0 rc c A2 n2 c2 73) := by rw [hw0, hrc]; exact ((CB.new w c A2 n2 c2 _).on (B1 _ _)).on (B1 _ _)
      have HTZ : Hid (TBx w0 rz (.slice none 0 0) (.slice none 0 0) (.slice none 0 0) 110) := by
        rw [hw0, hrz, ← World.size_alloc w (.cells #[.int .i64 c.op, .string (bs c.nm), .string (bs c.to.nm), .int .i64 c.to.k, .int .i64 c.to.g, .int .i64 c.dk, .int .u64 c.dn, .string c.dt, .slice A2 n2 c2] 73)]; exact (tb_new _ _ _ _ _).on (B1 _ _)
      have HTN : Hid (TBx w0 rn (.slice none 0 0) (.slice none 0 0) (.slice none 0 0) 110) := by
        have e : rn = ((w.alloc (.cells #[.int .i64 c.op, .string (bs c.nm), .string (bs c.to.nm), .int .i64 c.to.k, .int .i64 c.to.g, .int .i64 c.dk, .int .u64 c.dn, .string c.dt, .slice A2 n2 c2] 73)).alloc (.cells #[.slice none 0 0, .slice none 0 0, .slice none 0 0] 110)).heap.size := by rw [hrn]; simp
        rw [hw0, e]; exact tb_new _ _ _ _ _
      have HRZ : Hid (w.heap.size ≤ rz) := hid (by omega)
      have H := hid (h.on HB0.out); have HS := hid hs
      clear h hs ho hr hw0 hrc hrz hrn
      obtain ⟨k0, k1, k2, k3, k4, k5, k6, k7, k8⟩ := (HCB.out.on (B0 w0)).cells
      obtain ⟨z0, z1, z2⟩ := (HTZ.out.on (B0 w0)).cells
      obtain ⟨n0, n1, n2'⟩ := (HTN.out.on (B0 w0)).cells
      have fz0 := (HTZ.out.on (B0 w0)).frozen 0; have fz1 := (HTZ.out.on (B0 w0)).frozen 1; have fz2 := (HTZ.out.on (B0 w0)).frozen 2
      unfold chV
      go_enter Tryz.func142, Tryz.ntmps142
      go_wp2_with fail
      rw [← HW0.out, ← HRN.out, ← HRZE.out, ← HRC.out]
      refine (r6find_any H.out c.nm).mono ?_
      rintro e w1 ⟨rfl, hb1⟩
      have HB1 := hid hb1
      clear hb1
      clear k0 k1 k2 k3 k4 k5 k6 k7 k8 z0 z1 z2 n0 n1 n2' fz0 fz1 fz2
      obtain ⟨k0, k1, k2, k3, k4, k5, k6, k7, k8⟩ := (HCB.out.on HB1.out).cells
      obtain ⟨z0, z1, z2⟩ := (HTZ.out.on HB1.out).cells
      obtain ⟨n0, n1, n2'⟩ := (HTN.out.on HB1.out).cells
      have fz0 := (HTZ.out.on HB1.out).frozen 0; have fz1 := (HTZ.out.on HB1.out).frozen 1; have fz2 := (HTZ.out.on HB1.out).frozen 2
      go_wp2_with fail
      refine (r6right_any (H.out.on HB1.out) HS.out).mono ?_
      rintro e w2 ⟨rfl, hb2⟩
      rw [HR.out]
      have HB2 := hid (Bt HB1.out hb2)
      clear hb2
      clear k0 k1 k2 k3 k4 k5 k6 k7 k8 z0 z1 z2 n0 n1 n2' fz0 fz1 fz2
      obtain ⟨k0, k1, k2, k3, k4, k5, k6, k7, k8⟩ := (HCB.out.on HB2.out).cells
      obtain ⟨z0, z1, z2⟩ := (HTZ.out.on HB2.out).cells
      obtain ⟨n0, n1, n2'⟩ := (HTN.out.on HB2.out).cells
      have fz0 := (HTZ.out.on HB2.out).frozen 0; have fz1 := (HTZ.out.on HB2.out).frozen 1; have fz2 := (HTZ.out.on HB2.out).frozen 2
      by_cases o1 : c.op < 1
      · have t1 : decide (c.op < 1) = true := decide_eq_true o1
        go_wp2_with fail
        exact ret_TB7e (by rfl) (by rfl) ((HTZ.out.on HB2.out).set3 _ _ _) (by rfl) (by rfl) ⟨_, by rw [HE.out]; rfl, by rw [mkT_no (by rw [HE.out]; decide)]; exact RdT.nil _ _, B3 (Bt HB0.out HB2.out) HRZ.out _ _ _⟩
      · have t1 : decide (c.op < 1) = false := decide_eq_false o1
        have t2 : decide (5 < c.op) = true := decide_eq_true (by have := HIN.out; omega)
        go_wp2_with fail
        exact ret_TB7e (by rfl) (by rfl) ((HTZ.out.on HB2.out).set3 _ _ _) (by rfl) (by rfl) ⟨_, by rw [HE.out]; rfl, by rw [mkT_no (by rw [HE.out]; decide)]; exact RdT.nil _ _, B3 (Bt HB0.out HB2.out) HRZ.out _ _ _⟩
  | false =>
    have HE : Hid (mkE l c = 60) := hid (by unfold mkE; rw [hr]; simp)
    have HR := hid hr
    obtain ⟨w0, hw0⟩ : ∃ w0, w0 = ((w.alloc (.cells #[.int .i64 c.op, .string (bs c.nm), .string (bs c.to.nm), .int .i64 c.to.k, .int .i64 c.to.g, .int .i64 c.dk, .int .u64 c.dn, .string c.dt, .slice A2 n2 c2] 73)).alloc (.cells #[.slice none 0 0, .slice none 0 0, .slice none 0 0] 110)).alloc (.cells #[.slice none 0 0, .slice none 0 0, .slice none 0 0] 110) := ⟨_, rfl⟩
    have HW0 := hid hw0
    have HB0 : Hid (Below w.heap.size w w0) := by rw [hw0]; exact Ba (Ba (B1 _ _) _) _
    obtain ⟨rc, hrc⟩ : ∃ rc, rc = w.heap.size := ⟨_, rfl⟩
    obtain ⟨rz, hrz⟩ : ∃ rz, rz = w.heap.size + 1 := ⟨_, rfl⟩
    obtain ⟨rn, hrn⟩ : ∃ rn, rn = w.heap.size + 1 + 1 := ⟨_, rfl⟩
    have HRC := hid hrc; have HRZE := hid hrz; have HRN := hid hrn
    have HCB : Hid (CB w0 rc c A2 n2 c2 73) := by rw [hw0, hrc]; exact ((CB.new w c A2 n2 c2 _).on (B1 _ _)).on (B1 _ _)
    have HTZ : Hid (TBx w0 rz (.slice none 0 0) (.slice none 0 0) (.slice none 0 0) 110) := by
      rw [hw0, hrz, ← World.size_alloc w (.cells #[.int .i64 c.op, .string (bs c.nm), .string (bs c.to.nm), .int .i64 c.to.k, .int .i64 c.to.g, .int .i64 c.dk, .int .u64 c.dn, .string c.dt, .slice A2 n2 c2] 73)]; exact (tb_new _ _ _ _ _).on (B1 _ _)
    have HTN : Hid (TBx w0 rn (.slice none 0 0) (.slice none 0 0) (.slice none 0 0) 110) := by
      have e : rn = ((w.alloc (.cells #[.int .i64 c.op, .string (bs c.nm), .string (bs c.to.nm), .int .i64 c.to.k, .int .i64 c.to.g, .int .i64 c.dk, .int .u64 c.dn, .string c.dt, .slice A2 n2 c2] 73)).alloc (.cells #[.slice none 0 0, .slice none 0 0, .slice none 0 0] 110)).heap.size := by rw [hrn]; simp
      rw [hw0, e]; exact tb_new _ _ _ _ _
    have HRZ : Hid (w.heap.size ≤ rz) := hid (by omega)
    have H := hid (h.on HB0.out); have HS := hid hs
    clear h hs ho hr hw0 hrc hrz hrn
    obtain ⟨k0, k1, k2, k3, k4, k5, k6, k7, k8⟩ := (HCB.out.on (B0 w0)).cells
    obtain ⟨z0, z1, z2⟩ := (HTZ.out.on (B0 w0)).cells
    obtain ⟨n0, n1, n2'⟩ := (HTN.out.on (B0 w0)).cells
    have fz0 := (HTZ.out.on (B0 w0)).frozen 0; have fz1 := (HTZ.out.on (B0 w0)).frozen 1; have fz2 := (HTZ.out.on (B0 w0)).frozen 2
    unfold chV
    go_enter Tryz.func142, Tryz.ntmps142
    go_wp2_with fail
    rw [← HW0.out, ← HRN.out, ← HRZE.out, ← HRC.out]
    refine (r6find_any H.out c.nm).mono ?_
    rintro e w1 ⟨rfl, hb1⟩
    have HB1 := hid hb1
    clear hb1
    clear k0 k1 k2 k3 k4 k5 k6 k7 k8 z0 z1 z2 n0 n1 n2' fz0 fz1 fz2
    obtain ⟨k0, k1, k2, k3, k4, k5, k6, k7, k8⟩ := (HCB.out.on HB1.out).cells
    obtain ⟨z0, z1, z2⟩ := (HTZ.out.on HB1.out).cells
    obtain ⟨n0, n1, n2'⟩ := (HTN.out.on HB1.out).cells
    have fz0 := (HTZ.out.on HB1.out).frozen 0; have fz1 := (HTZ.out.on HB1.out).frozen 1; have fz2 := (HTZ.out.on HB1.out).frozen 2
    go_wp2_with fail
    refine (r6right_any (H.out.on HB1.out) HS.out).mono ?_
    rintro e w2 ⟨rfl, hb2⟩
    rw [HR.out]
    have HB2 := hid (Bt HB1.out hb2)
    clear hb2
    clear k0 k1 k2 k3 k4 k5 k6 k7 k8 z0 z1 z2 n0 n1 n2' fz0 fz1 fz2
    obtain ⟨k0, k1, k2, k3, k4, k5, k6, k7, k8⟩ := (HCB.out.on HB2.out).cells
    obtain ⟨z0, z1, z2⟩ := (HTZ.out.on HB2.out).cells
    obtain ⟨n0, n1, n2'⟩ := (HTN.out.on HB2.out).cells
    have fz0 := (HTZ.out.on HB2.out).frozen 0; have fz1 := (HTZ.out.on HB2.out).frozen 1; have fz2 := (HTZ.out.on HB2.out).frozen 2
    go_wp2_with fail
    exact ret_TB7e (by rfl) (by rfl) ((HTZ.out.on HB2.out).set3 _ _ _) (by rfl) (by rfl) ⟨_, by rw [HE.out]; rfl, by rw [mkT_no (by rw [HE.out]; decide)]; exact RdT.nil _ _, B3 (Bt HB0.out HB2.out) HRZ.out _ _ _⟩
end Go.Proofs.YtaegencmnmjgbaaGreat

namespace Go.Proofs.YtaegencmnmjgbaaGreat
open Go.RowKit
set_option linter.unusedVariables false
set_option linter.unusedSimpArgs false
def allF : Tb → List Ch → Tb × Int
  | T, [] => (T, 0)
  | T, c :: cs => if mkE T.nw c ≠ 0 then (Tb.none, mkE T.nw c) else if compB T (mkT T.nw c) then allF (compT T (mkT T.nw c)) cs else (Tb.none, 70)
def all8 (l : List Fd) (cs : List Ch) : Tb × Int := if rightL l then allF (sameT l) cs else (Tb.none, 60)
theorem allF_at {T : Tb} {cs : List Ch} {j : Nat} {c : Ch} (h : cs[j]? = some c) : allF T (cs.drop j) = if mkE T.nw c ≠ 0 then (Tb.none, mkE T.nw c) else if compB T (mkT T.nw c) then allF (compT T (mkT T.nw c)) (cs.drop (j + 1)) else (Tb.none, 70) := by
  have hl := (List.getElem?_eq_some_iff.1 h).1
  have e : cs[j] = c := (List.getElem?_eq_some_iff.1 h).2
  rw [List.drop_eq_getElem_cons hl, e]; rfl
theorem name_short {s : List UInt8} (h : nameB s = true) : s.length ≤ 15 := by
  unfold nameB at h
  simp only [Bool.and_eq_true, decide_eq_true_eq] at h
  exact h.1.1.2
theorem right_short {l : List Fd} (h : rightL l = true) : short l := fun f hf => by
  obtain ⟨i, hi⟩ := List.getElem?_of_mem hf
  have := name_short ((rightL_iff.1 h).2 i f hi).1
  omega
theorem rightT_short {T : Tb} (h : rightT T = true) : shortT T := ⟨right_short (rightT_iff.1 h).1, right_short (rightT_iff.1 h).2.1⟩
theorem newC_right {l : List Fd} {c : Ch} (h : mkE l c = 0) : rightL l = true ∧ rightL (newC l c) = true := by
  unfold mkE at h
  split at h
  · omega
  · rename_i h1
    refine ⟨by simpa using h1, ?_⟩
    split at h
    · omega
    · split at h
      · omega
      · split at h
        · omega
        · split at h
          · omega
          · split at h
            · omega
            · split at h
              · assumption
              · omega
theorem mkT_short {l : List Fd} {c : Ch} (h : mkE l c = 0) : shortT (mkT l c) := by
  rw [mkT_ok h]; exact ⟨right_short (newC_right h).1, right_short (newC_right h).2⟩
def ChC (w : World) (b off : Nat) (c : Ch) (s : Value) : Prop := w.cell? ⟨b, off, none⟩ = some (.int .i64 c.op) ∧ w.cell? ⟨b, off + 1, none⟩ = some (.string (bs c.nm)) ∧ w.cell? ⟨b, off + 2, none⟩ = some (.string (bs c.to.nm)) ∧ w.cell? ⟨b, off + 3, none⟩ = some (.int .i64 c.to.k) ∧ w.cell? ⟨b, off + 4, none⟩ = some (.int .i64 c.to.g) ∧ w.cell? ⟨b, off + 5, none⟩ = some (.int .i64 c.dk) ∧ w.cell? ⟨b, off + 6, none⟩ = some (.int .u64 c.dn) ∧ w.cell? ⟨b, off + 7, none⟩ = some (.string c.dt) ∧ w.cell? ⟨b, off + 8, none⟩ = some s
def RdC (w : World) (B : Nat) (A : Option Addr) (n cap : Nat) (l : List Ch) : Prop :=
  l.length = n ∧ n ≤ cap ∧ cap ≤ maxLen ∧ (∀ c ∈ l, I64 c.op ∧ I64 c.to.k ∧ I64 c.to.g ∧ I64 c.dk ∧ U64 c.dn) ∧ (0 < n → ∃ b off, A = some ⟨b, off, none⟩ ∧ b < B ∧ ∀ i (h : i < l.length), ∃ A2 n2 c2, ChC w b (off + i * 9) l[i] (.slice A2 n2 c2) ∧ RdI w B A2 n2 c2 l[i].od)
theorem ChC.below {w w' : World} {b off B : Nat} {c : Ch} {s : Value} (h : ChC w b off c s) (hb : Below B w w') (hlt : b < B) : ChC w' b off c s :=
  ⟨(hb.cell (p := ⟨b, off, none⟩) hlt).trans h.1, (hb.cell (p := ⟨b, off + 1, none⟩) hlt).trans h.2.1, (hb.cell (p := ⟨b, off + 2, none⟩) hlt).trans h.2.2.1, (hb.cell (p := ⟨b, off + 3, none⟩) hlt).trans h.2.2.2.1, (hb.cell (p := ⟨b, off + 4, none⟩) hlt).trans h.2.2.2.2.1, (hb.cell (p := ⟨b, off + 5, none⟩) hlt).trans h.2.2.2.2.2.1, (hb.cell (p := ⟨b, off + 6, none⟩) hlt).trans h.2.2.2.2.2.2.1, (hb.cell (p := ⟨b, off + 7, none⟩) hlt).trans h.2.2.2.2.2.2.2.1, (hb.cell (p := ⟨b, off + 8, none⟩) hlt).trans h.2.2.2.2.2.2.2.2⟩
theorem RdC.on {w w' : World} {A : Option Addr} {n cap : Nat} {l : List Ch} (h : RdC w w.heap.size A n cap l) (hb : Below w.heap.size w w') : RdC w' w'.heap.size A n cap l :=
  ⟨h.1, h.2.1, h.2.2.1, h.2.2.2.1, fun hn => by
    obtain ⟨b, off, e, hlt, hc⟩ := h.2.2.2.2 hn
    refine ⟨b, off, e, Nat.lt_of_lt_of_le hlt hb.size, fun i hi => ?_⟩
    obtain ⟨A2, n2, c2, h1, h2⟩ := hc i hi
    exact ⟨A2, n2, c2, h1.below hb hlt, h2.on hb⟩⟩
theorem RdC.at {w : World} {A : Option Addr} {n cap : Nat} {l : List Ch} (h : RdC w w.heap.size A n cap l) {i : Nat} {c : Ch} (hi : l[i]? = some c) : i < n ∧ (I64 c.op ∧ I64 c.to.k ∧ I64 c.to.g ∧ I64 c.dk ∧ U64 c.dn) ∧ ∃ b off A2 n2 c2, A = some ⟨b, off, none⟩ ∧ (∀ w', Below w.heap.size w w' → ChC w' b (off + i * 9) c (.slice A2 n2 c2)) ∧ RdI w w.heap.size A2 n2 c2 c.od := by
  have hl : i < l.length := (List.getElem?_eq_some_iff.1 hi).1
  have e : l[i] = c := (List.getElem?_eq_some_iff.1 hi).2
  obtain ⟨b, off, e2, hlt, hc⟩ := h.2.2.2.2 (by have := h.1; omega)
  obtain ⟨A2, n2, c2, h1, h2⟩ := hc i hl
  rw [e] at h1 h2
  exact ⟨by have := h.1; omega, h.2.2.2.1 _ (List.mem_of_getElem? hi), b, off, A2, n2, c2, e2, fun w' hb => h1.below hb hlt, h2⟩
def Sl (v : Value) : Prop := ∃ A n c, v = .slice A n c
theorem tbx_cell {W : World} {q i : Nat} {s1 s2 s3 u : Value} {ty : TypeId} (h : TBx W q s1 s2 s3 ty) (h1 : Sl s1) (h2 : Sl s2) (h3 : Sl s3) (hu : W.cell? ⟨q, i, none⟩ = some u) : Sl u := by
  rw [row_cell h] at hu
  match i, hu with
  | 0, e => simp at e; rw [← e]; exact h1
  | 1, e => simp at e; rw [← e]; exact h2
  | 2, e => simp at e; rw [← e]; exact h3
  | n + 3, e => simp at e
theorem cell_set_ne {W : World} {q b i k : Nat} {u : Value} (h : b ≠ q) : (W.setCell ⟨q, k, none⟩ u).cell? ⟨b, i, none⟩ = W.cell? ⟨b, i, none⟩ := by
  unfold World.cell?; rw [Below.heap_setCell W ⟨q, k, none⟩ u b h]
theorem RdF.box {W : World} {B q : Nat} {A : Option Addr} {n c : Nat} {l : List Fd} {s1 s2 s3 : Value} {ty : TypeId} (h : RdF W B A n c l) (ht : TBx W q s1 s2 s3 ty) (h1 : Sl s1) (h2 : Sl s2) (h3 : Sl s3) (k : Nat) (u : Value) : RdF (W.setCell ⟨q, k, none⟩ u) B A n c l :=
  ⟨h.1, h.2.1, h.2.2.1, h.2.2.2.1, fun hn => by
    obtain ⟨b, off, e, hlt, hc⟩ := h.2.2.2.2 hn
    have hne : b ≠ q := fun hq => by
      subst hq
      obtain ⟨_, _, _, h⟩ := tbx_cell ht h1 h2 h3 (hc 0 (by have := h.1; omega)).1
      cases h
    refine ⟨b, off, e, hlt, fun i hi => ?_⟩
    obtain ⟨c0, c1, c2⟩ := hc i hi
    exact ⟨(cell_set_ne hne).trans c0, (cell_set_ne hne).trans c1, (cell_set_ne hne).trans c2⟩⟩
theorem RdM.box {W : World} {B q : Nat} {A : Option Addr} {n c : Nat} {l : List Mv} {s1 s2 s3 : Value} {ty : TypeId} (h : RdM W B A n c l) (ht : TBx W q s1 s2 s3 ty) (h1 : Sl s1) (h2 : Sl s2) (h3 : Sl s3) (k : Nat) (u : Value) : RdM (W.setCell ⟨q, k, none⟩ u) B A n c l :=
  ⟨h.1, h.2.1, h.2.2.1, h.2.2.2.1, fun hn => by
    obtain ⟨b, off, e, hlt, hc⟩ := h.2.2.2.2 hn
    have hne : b ≠ q := fun hq => by
      subst hq
      obtain ⟨_, _, _, h⟩ := tbx_cell ht h1 h2 h3 (hc 0 (by have := h.1; omega)).1
      cases h
    refine ⟨b, off, e, hlt, fun i hi => ?_⟩
    obtain ⟨c0, c1, c2, c3⟩ := hc i hi
    exact ⟨(cell_set_ne hne).trans c0, (cell_set_ne hne).trans c1, (cell_set_ne hne).trans c2, (cell_set_ne hne).trans c3⟩⟩
theorem RdT.box3 {W : World} {q : Nat} {v : Value} {T : Tb} {s1 s2 s3 u1 u2 u3 : Value} {ty : TypeId} (h : RdT W W.heap.size v T) (ht : TBx W q s1 s2 s3 ty) (h1 : Sl s1) (h2 : Sl s2) (h3 : Sl s3) (k1 : Sl u1) (k2 : Sl u2) (k3 : Sl u3) :
    RdT (((W.setCell ⟨q, 0, none⟩ u1).setCell ⟨q, 1, none⟩ u2).setCell ⟨q, 2, none⟩ u3) (((W.setCell ⟨q, 0, none⟩ u1).setCell ⟨q, 1, none⟩ u2).setCell ⟨q, 2, none⟩ u3).heap.size v T := by
  obtain ⟨A, n, c, A2, n2, c2, A3, n3, c3, e, a1, a2, a3⟩ := h
  have t1 := ht.set0 u1
  have t2 := t1.set1 u2
  simp only [size_set]
  exact ⟨A, n, c, A2, n2, c2, A3, n3, c3, e, ((a1.box ht h1 h2 h3 0 u1).box t1 k1 h2 h3 1 u2).box t2 k1 k2 h3 2 u3, ((a2.box ht h1 h2 h3 0 u1).box t1 k1 h2 h3 1 u2).box t2 k1 k2 h3 2 u3, ((a3.box ht h1 h2 h3 0 u1).box t1 k1 h2 h3 1 u2).box t2 k1 k2 h3 2 u3⟩
end Go.Proofs.YtaegencmnmjgbaaGreat

namespace Go.Proofs.YtaegencmnmjgbaaGreat
open Go.RowKit
set_option linter.unusedVariables false
set_option linter.unusedSimpArgs false
theorem newF_get {l : List Fd} {c : Ch} {k : Option Nat} : ∀ {n : Nat}, n ≤ l.length → ∀ {i : Nat} {f' : Fd}, (newF l c k n)[i]? = some f' → ∃ x f, (idxs c k n)[i]? = some x ∧ l[x]? = some f ∧ f' = ed c k x f
  | 0, _, i, f', h => by simp [newF, idxs] at h
  | n + 1, hn, i, f', h => by
    have hf : l[n]? = some l[n] := List.getElem?_eq_getElem (by omega)
    cases hk : keepB c k n with
    | false =>
      rw [newF_drop hk] at h
      obtain ⟨x, f, h1, h2, h3⟩ := newF_get (by omega) h
      exact ⟨x, f, by rw [idxs_succ, hk]; simpa using h1, h2, h3⟩
    | true =>
      rw [newF_keep hf hk] at h
      have hl := newF_length_eq (l := l) (c := c) (k := k) (n := n) (by omega)
      by_cases hi : i < (newF l c k n).length
      · rw [List.getElem?_append_left hi] at h
        obtain ⟨x, f, h1, h2, h3⟩ := newF_get (by omega) h
        exact ⟨x, f, by rw [idxs_succ, hk, List.getElem?_append_left (by omega)]; exact h1, h2, h3⟩
      · rw [List.getElem?_append_right (by omega)] at h
        have hi0 : i - (newF l c k n).length = 0 := by
          by_cases e : i - (newF l c k n).length = 0
          · exact e
          · rw [List.getElem?_eq_none (by simp; omega)] at h; cases h
        rw [hi0] at h
        simp at h
        refine ⟨n, l[n], ?_, hf, h.symm⟩
        rw [idxs_succ, hk, List.getElem?_append_right (by omega), ← hl, hi0]; rfl
theorem mkE_facts {l : List Fd} {c : Ch} (h : mkE l c = 0) : rightL l = true ∧ 1 ≤ c.op ∧ c.op ≤ 5 ∧ (2 ≤ c.op → c.op ≤ 4 → ∃ k, findN l c.nm = some k) ∧ noCast l c (findN l c.nm) l.length = false ∧ noAdd c = false ∧ noOrd l c = false ∧ rightL (newC l c) = true := by
  have hr := newC_right h
  unfold mkE at h
  rw [hr.1, if_neg (by simp)] at h
  by_cases h1 : c.op < 1 ∨ 5 < c.op
  · rw [if_pos h1] at h; omega
  · rw [if_neg h1] at h
    by_cases h2 : 2 ≤ c.op ∧ c.op ≤ 4 ∧ findN l c.nm = none
    · rw [if_pos h2] at h; omega
    · rw [if_neg h2] at h
      cases h3 : noCast l c (findN l c.nm) l.length with
      | true => rw [h3, if_pos rfl] at h; omega
      | false =>
        rw [h3, if_neg (by simp)] at h
        cases h4 : noAdd c with
        | true => rw [h4, if_pos rfl] at h; omega
        | false =>
          rw [h4, if_neg (by simp)] at h
          cases h5 : noOrd l c with
          | true => rw [h5, if_pos rfl] at h; omega
          | false =>
            refine ⟨hr.1, by omega, by omega, fun a b => ?_, rfl, rfl, rfl, hr.2⟩
            cases hf : findN l c.nm with
            | none => exact absurd ⟨a, b, hf⟩ h2
            | some k => exact ⟨k, rfl⟩
theorem pass_may {l : List Fd} {c : Ch} (hr : rightL l = true) (hn : noCast l c (findN l c.nm) l.length = false) {i : Nat} {m : Mv} {f' : Fd} (hm : (mvF c (findN l c.nm) l.length)[i]? = some m) (hf : (newF l c (findN l c.nm) l.length)[i]? = some f') : mvB l m f' = true := by
  obtain ⟨x, f, h1, h2, h3⟩ := newF_get (Nat.le_refl _) hf
  unfold mvF at hm
  rw [List.getElem?_map, h1] at hm
  cases hm
  refine self_may hr h2 ?_
  have hs := casts_self (right_may hr f (List.mem_of_getElem? h2))
  rw [h3]
  unfold ed
  by_cases a : c.op = 3 ∧ findN l c.nm = some x
  · rw [if_pos a]; exact hs
  · rw [if_neg a]
    by_cases b : c.op = 4 ∧ findN l c.nm = some x
    · rw [if_pos b]
      cases hc : castsF f.k f.g c.to.k c.to.g with
      | true => rfl
      | false => rw [noCast_bad b.1 b.2 h2 hc] at hn; cases hn
    · rw [if_neg b]; exact hs
theorem mkT_right {l : List Fd} {c : Ch} (h : mkE l c = 0) : rightT (mkT l c) = true := by
  obtain ⟨hr, h1, h5, hk, hc, ha, ho, hn⟩ := mkE_facts h
  rw [mkT_ok h, rightT_iff]
  refine ⟨hr, hn, ?_, fun i m f' hm hf => ?_⟩
  · show (mvC l c).length = (newC l c).length
    unfold mvC newC
    by_cases o1 : c.op = 1
    · rw [if_pos o1, if_pos o1]; simp [mvF_length, newF_length_eq (Nat.le_refl l.length)]
    · rw [if_neg o1, if_neg o1]
      by_cases o5 : c.op = 5
      · rw [if_pos o5, if_pos o5]
        have hb : allB c.od l.length = true := by unfold noOrd at ho; simpa [o5] using ho
        rw [odF_length (allB_mem hb)]; simp [odM]
      · rw [if_neg o5, if_neg o5, mvF_length, newF_length_eq (Nat.le_refl _)]
  · show mvB l m f' = true
    have hm' : (mvC l c)[i]? = some m := hm
    have hf' : (newC l c)[i]? = some f' := hf
    unfold mvC at hm'
    unfold newC at hf'
    by_cases o1 : c.op = 1
    · rw [if_pos o1] at hm' hf'
      have hl : (mvF c (findN l c.nm) l.length).length = (newF l c (findN l c.nm) l.length).length := by rw [mvF_length, newF_length_eq (Nat.le_refl _)]
      by_cases hi : i < (newF l c (findN l c.nm) l.length).length
      · rw [List.getElem?_append_left (by omega)] at hm' hf'
        exact pass_may hr hc hm' hf'
      · rw [List.getElem?_append_right (by omega)] at hm' hf'
        have hi0 : i - (newF l c (findN l c.nm) l.length).length = 0 := by
          by_cases e : i - (newF l c (findN l c.nm) l.length).length = 0
          · exact e
          · rw [List.getElem?_eq_none (by simp; omega)] at hf'; cases hf'
        rw [hi0] at hf'; rw [hl, hi0] at hm'
        simp at hm' hf'
        subst hm'; subst hf'
        rw [mvB_new (m := ⟨-1, c.dk, c.dn, c.dt⟩) rfl]
        unfold noAdd at ha
        simp only [o1, decide_true, Bool.true_and, Bool.not_eq_false'] at ha
        exact ha
    · rw [if_neg o1] at hm' hf'
      by_cases o5 : c.op = 5
      · rw [if_pos o5] at hm' hf'
        have hb : allB c.od l.length = true := by unfold noOrd at ho; simpa [o5] using ho
        unfold odM at hm'
        rw [List.getElem?_map] at hm'
        cases hx : c.od[i]? with
        | none => rw [hx] at hm'; cases hm'
        | some x =>
          rw [hx] at hm'; cases hm'
          rw [odF_at (allB_mem hb) i x hx] at hf'
          have hxb := allB_mem hb x (List.mem_of_getElem? hx)
          rw [mvB_old (m := ⟨x, 0, 0, ⟨#[]⟩⟩) hxb.1 hf', casts_self (right_may hr f' (List.mem_of_getElem? hf'))]
          rfl
      · rw [if_neg o5] at hm' hf'
        exact pass_may hr hc hm' hf'
end Go.Proofs.YtaegencmnmjgbaaGreat

namespace Go.Proofs.YtaegencmnmjgbaaGreat
open Go.RowKit
set_option linter.unusedVariables false
set_option linter.unusedSimpArgs false
theorem newF_at {l : List Fd} {c : Ch} {k : Option Nat} {i x : Nat} {f : Fd} (hx : (idxs c k l.length)[i]? = some x) (hf : l[x]? = some f) : (newF l c k l.length)[i]? = some (ed c k x f) := by
  have hi : i < (newF l c k l.length).length := by rw [newF_length_eq (Nat.le_refl _)]; exact (List.getElem?_eq_some_iff.1 hx).1
  have h := List.getElem?_eq_getElem hi
  obtain ⟨y, g, h1, h2, h3⟩ := newF_get (Nat.le_refl _) h
  rw [hx] at h1; cases h1
  rw [hf] at h2; cases h2
  rw [h, h3]
end Go.Proofs.YtaegencmnmjgbaaGreat
