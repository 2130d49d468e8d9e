/-
  What each Op does, as a closure, of layer 8.
  Maps with numbers as keys, read as functions: a map that a call owns holds at each number what the function says.
  The map of the deeds of layer 8.
-/
import Derived.Test.YtaegencmnmjgbaaGreatM41
import Derived.Test.YtaegencmnmjgbaaGreatM1
import Derived.Test.YtaegencmnmjgbaaGreatM5
import Derived.Maps.OwnOps
import Derived.Maps.OwnSet
import Derived.Maps.RangeWalk
import Derived.Maps.Ext
import Derived.Deep.MidRow
import Derived.Deep.WholeRow

namespace Go.Proofs.YtaegencmnmjgbaaGreat
open Go.RowKit
set_option linter.unusedVariables false
set_option linter.unusedSimpArgs false
theorem BK.trans {a b c : World} {B : Nat} (h : BK a B b) (k : BK b B c) : BK a B c := ⟨h.1.trans k.1, h.2.trans k.2⟩
structure Dok (T : Tb) : Prop where
  n : T.nw.length ≤ 1000
  m : T.mv.length = T.nw.length
  f : okF T.nw
  v : ∀ m ∈ T.mv, I64 m.fr ∧ I64 m.k ∧ U64 m.n
def TellB (w : World) (p F b : Nat) : Prop := w.heap[p]? = some (.cells #[.func (.func F) #[] #[.pointer (some ⟨b, 0, none⟩)]] 240 (0, 0))
theorem TellB.on {w w' : World} {p F b : Nat} (h : TellB w p F b) (hb : Below w.heap.size w w') : TellB w' p F b := (hb.block p (row_lt h)).trans h
def addR (T : Tb) (c : Ch) : Tb × Int := (⟨T.o, T.nw ++ [c.to], T.mv ++ [⟨-1, c.dk, c.dn, c.dt⟩]⟩, 0)
set_option maxRecDepth 20000 in
set_option maxHeartbeats 4000000 in
theorem d3_any {w : World} {B : Nat} {v : Value} {T : Tb} (h : OwT w B v T) (hd : Dok T) {b : Nat} {c : Ch} {A : Option Addr} {n cp : Nat} (hc : CB w b c A n cp 76) (hbB : b < B) :
    Calls Tryz.prog 171 #[v, .pointer (some ⟨b, 0, none⟩)] w (DeedQ w B (addR T c).1 (addR T c).2) := by
  obtain ⟨v1, v2, v3, B2, rfl, hts⟩ := h.ts
  have hBw : B ≤ w.heap.size := Nat.le_trans hts.b2 hts.sz
  obtain ⟨w0, hw0⟩ : ∃ w0, w0 = (w.alloc (.cells #[v1, v2, v3] 92)).alloc (.cells #[.slice none 0 0, .slice none 0 0, .slice none 0 0] 92) := ⟨_, rfl⟩
  obtain ⟨p0, hp0⟩ : ∃ p0, p0 = w.heap.size := ⟨_, rfl⟩
  obtain ⟨p1, hp1⟩ : ∃ p1, p1 = w.heap.size + 1 := ⟨_, rfl⟩
  have HW0 := hid hw0; have HP0 := hid hp0; have HP1 := hid hp1
  have HB0 : Hid (Below w.heap.size w w0) := by rw [hw0]; exact hid (Ba (B1 _ _) _)
  have HT0 : Hid (TBx w0 p0 v1 v2 v3 92) := by rw [hw0, hp0]; exact hid ((tb_new w _ _ _ _).on (B1 _ _))
  have HZ0 : Hid (TBx w0 p1 (.slice none 0 0) (.slice none 0 0) (.slice none 0 0) 92) := by
    rw [hw0, hp1, ← World.size_alloc w (.cells #[v1, v2, v3] 92)]; exact hid (tb_new _ _ _ _ _)
  have HO0 : Hid (OwT w0 B (.agg #[v1, v2, v3]) T) := hid (hts.on HB0.out).owt
  have HC0 := hid (hc.on HB0.out)
  have HBB0 : Hid (BK w B w0) := hid (BK.start HB0.out hBw)
  have HBP : Hid (B ≤ w.heap.size ∧ w.heap.size ≤ p1) := hid (by omega)
  have HD := hid hd; have HBL := hid hbB
  obtain ⟨⟨A1, n1, c1, rfl⟩, ⟨A2, n2, c2, rfl⟩, ⟨A3, n3, c3, rfl⟩⟩ := hts.shapes
  obtain ⟨a0, a1, a2⟩ := HT0.out.cells
  obtain ⟨k0, k1, k2, k3, k4, k5, k6, k7, k8⟩ := HC0.out.cells
  clear h hts hw0 hp0 hp1 hBw hc hbB hd
  go_enter Tryz.func171, Tryz.ntmps171
  go_upto_region 1 with fail
  rw [← HW0.out, ← HP1.out, ← HP0.out]
  go_wp2_with fail
  refine (add_any HO0.out ⟨HD.out.n, by have := HD.out.m; have := HD.out.n; omega⟩ c.to c.dk c.dn c.dt).mono ?_
  rintro e w1 ⟨v', rfl, ho1, hb1⟩
  obtain ⟨u1, u2, u3, B3', rfl, hts1⟩ := ho1.ts
  have HZ1 : Hid (TBx w1 p1 (.slice none 0 0) (.slice none 0 0) (.slice none 0 0) 92) := hid (hb1.2 p1 _ HZ0.out)
  have HB1 := hid (HBB0.out.trans hb1)
  have HTS1 := hid hts1
  obtain ⟨⟨A4, n4, c4, rfl⟩, ⟨A5, n5, c5, rfl⟩, ⟨A6, n6, c6, rfl⟩⟩ := hts1.shapes
  clear ho1 hb1 hts1 a0 a1 a2 k0 k1 k2 k3 k4 k5 k6 k7 k8
  obtain ⟨z0, z1, z2⟩ := HZ1.out.cells
  have y0 := HZ1.out.frozen 0; have y1 := HZ1.out.frozen 1; have y2 := HZ1.out.frozen 2
  go_wp2_with fail
  exact ret_TBpe (by rfl) (by rfl) (HZ1.out.set3 _ _ _) (by rfl) (by rfl) ⟨_, rfl, (HTS1.out.box3 HZ1.out _ _ _).owt, HB1.out.set3 HBP.out _ _ _⟩
set_option maxRecDepth 20000 in
set_option maxHeartbeats 4000000 in
theorem d4_any {w : World} {B : Nat} {v : Value} {T : Tb} (h : OwT w B v T) (hd : Dok T) {b : Nat} {c : Ch} {A : Option Addr} {n cp : Nat} (hc : CB w b c A n cp 76) (hbB : b < B) :
    Calls Tryz.prog 173 #[v, .pointer (some ⟨b, 0, none⟩)] w (DeedQ w B (dropR T c.nm).1 (dropR T c.nm).2) := by
  obtain ⟨v1, v2, v3, B2, rfl, hts⟩ := h.ts
  have hBw : B ≤ w.heap.size := Nat.le_trans hts.b2 hts.sz
  obtain ⟨w0, hw0⟩ : ∃ w0, w0 = (w.alloc (.cells #[v1, v2, v3] 92)).alloc (.cells #[.slice none 0 0, .slice none 0 0, .slice none 0 0] 92) := ⟨_, rfl⟩
  obtain ⟨p0, hp0⟩ : ∃ p0, p0 = w.heap.size := ⟨_, rfl⟩
  obtain ⟨p1, hp1⟩ : ∃ p1, p1 = w.heap.size + 1 := ⟨_, rfl⟩
  have HW0 := hid hw0; have HP0 := hid hp0; have HP1 := hid hp1
  have HB0 : Hid (Below w.heap.size w w0) := by rw [hw0]; exact hid (Ba (B1 _ _) _)
  have HT0 : Hid (TBx w0 p0 v1 v2 v3 92) := by rw [hw0, hp0]; exact hid ((tb_new w _ _ _ _).on (B1 _ _))
  have HZ0 : Hid (TBx w0 p1 (.slice none 0 0) (.slice none 0 0) (.slice none 0 0) 92) := by
    rw [hw0, hp1, ← World.size_alloc w (.cells #[v1, v2, v3] 92)]; exact hid (tb_new _ _ _ _ _)
  have HO0 : Hid (OwT w0 B (.agg #[v1, v2, v3]) T) := hid (hts.on HB0.out).owt
  have HC0 := hid (hc.on HB0.out)
  have HBB0 : Hid (BK w B w0) := hid (BK.start HB0.out hBw)
  have HBP : Hid (B ≤ w.heap.size ∧ w.heap.size ≤ p1) := hid (by omega)
  have HD := hid hd; have HBL := hid hbB
  obtain ⟨⟨A1, n1, c1, rfl⟩, ⟨A2, n2, c2, rfl⟩, ⟨A3, n3, c3, rfl⟩⟩ := hts.shapes
  obtain ⟨a0, a1, a2⟩ := HT0.out.cells
  obtain ⟨k0, k1, k2, k3, k4, k5, k6, k7, k8⟩ := HC0.out.cells
  clear h hts hw0 hp0 hp1 hBw hc hbB hd
  go_enter Tryz.func173, Tryz.ntmps173
  go_upto_region 1 with fail
  rw [← HW0.out, ← HP1.out, ← HP0.out]
  go_wp2_with fail
  refine (drop_any HO0.out ⟨HD.out.n, HD.out.m⟩ HD.out.f c.nm).mono ?_
  rintro e w1 ⟨v', rfl, ho1, hb1⟩
  obtain ⟨u1, u2, u3, B3', rfl, hts1⟩ := ho1.ts
  have HZ1 : Hid (TBx w1 p1 (.slice none 0 0) (.slice none 0 0) (.slice none 0 0) 92) := hid (hb1.2 p1 _ HZ0.out)
  have HB1 := hid (HBB0.out.trans hb1)
  have HTS1 := hid hts1
  obtain ⟨⟨A4, n4, c4, rfl⟩, ⟨A5, n5, c5, rfl⟩, ⟨A6, n6, c6, rfl⟩⟩ := hts1.shapes
  clear ho1 hb1 hts1 a0 a1 a2 k0 k1 k2 k3 k4 k5 k6 k7 k8
  obtain ⟨z0, z1, z2⟩ := HZ1.out.cells
  have y0 := HZ1.out.frozen 0; have y1 := HZ1.out.frozen 1; have y2 := HZ1.out.frozen 2
  go_wp2_with fail
  exact ret_TBpe (by rfl) (by rfl) (HZ1.out.set3 _ _ _) (by rfl) (by rfl) ⟨_, rfl, (HTS1.out.box3 HZ1.out _ _ _).owt, HB1.out.set3 HBP.out _ _ _⟩
set_option maxRecDepth 20000 in
set_option maxHeartbeats 4000000 in
theorem d5_any {w : World} {B : Nat} {v : Value} {T : Tb} (h : OwT w B v T) (hd : Dok T) {b : Nat} {c : Ch} {A : Option Addr} {n cp : Nat} (hc : CB w b c A n cp 76) (hbB : b < B) {p : Nat} (hp : TellB w p 169 b) :
    Calls Tryz.prog 175 #[v, .pointer (some ⟨b, 0, none⟩), .pointer (some ⟨p, 0, none⟩)] w (DeedQ w B (altR T c.nm (renF c)).1 (altR T c.nm (renF c)).2) := by
  obtain ⟨v1, v2, v3, B2, rfl, hts⟩ := h.ts
  have hBw : B ≤ w.heap.size := Nat.le_trans hts.b2 hts.sz
  obtain ⟨w0, hw0⟩ : ∃ w0, w0 = (w.alloc (.cells #[v1, v2, v3] 92)).alloc (.cells #[.slice none 0 0, .slice none 0 0, .slice none 0 0] 92) := ⟨_, rfl⟩
  obtain ⟨p0, hp0⟩ : ∃ p0, p0 = w.heap.size := ⟨_, rfl⟩
  obtain ⟨p1, hp1⟩ : ∃ p1, p1 = w.heap.size + 1 := ⟨_, rfl⟩
  have HW0 := hid hw0; have HP0 := hid hp0; have HP1 := hid hp1
  have HB0 : Hid (Below w.heap.size w w0) := by rw [hw0]; exact hid (Ba (B1 _ _) _)
  have HT0 : Hid (TBx w0 p0 v1 v2 v3 92) := by rw [hw0, hp0]; exact hid ((tb_new w _ _ _ _).on (B1 _ _))
  have HZ0 : Hid (TBx w0 p1 (.slice none 0 0) (.slice none 0 0) (.slice none 0 0) 92) := by
    rw [hw0, hp1, ← World.size_alloc w (.cells #[v1, v2, v3] 92)]; exact hid (tb_new _ _ _ _ _)
  have HO0 : Hid (OwT w0 B (.agg #[v1, v2, v3]) T) := hid (hts.on HB0.out).owt
  have HC0 := hid (hc.on HB0.out)
  have HBB0 : Hid (BK w B w0) := hid (BK.start HB0.out hBw)
  have HBP : Hid (B ≤ w.heap.size ∧ w.heap.size ≤ p1) := hid (by omega)
  have HD := hid hd; have HBL := hid hbB
  have HTB := hid (hp.on HB0.out)
  have t0 : w0.cell? ⟨p, 0, none⟩ = some (.func (.func 169) #[] #[.pointer (some ⟨b, 0, none⟩)]) := by rw [row_cell HTB.out]; rfl
  clear hp
  obtain ⟨⟨A1, n1, c1, rfl⟩, ⟨A2, n2, c2, rfl⟩, ⟨A3, n3, c3, rfl⟩⟩ := hts.shapes
  obtain ⟨a0, a1, a2⟩ := HT0.out.cells
  obtain ⟨k0, k1, k2, k3, k4, k5, k6, k7, k8⟩ := HC0.out.cells
  clear h hts hw0 hp0 hp1 hBw hc hbB hd
  go_enter Tryz.func175, Tryz.ntmps175
  go_upto_region 1 with fail
  rw [← HW0.out, ← HP1.out, ← HP0.out]
  go_wp2_with fail
  refine (alterR_any HO0.out HD.out.n HD.out.f c.nm HC0.out HBL.out).mono ?_
  rintro e w1 ⟨v', rfl, ho1, hb1⟩
  obtain ⟨u1, u2, u3, B3', rfl, hts1⟩ := ho1.ts
  have HZ1 : Hid (TBx w1 p1 (.slice none 0 0) (.slice none 0 0) (.slice none 0 0) 92) := hid (hb1.2 p1 _ HZ0.out)
  have HB1 := hid (HBB0.out.trans hb1)
  have HTS1 := hid hts1
  obtain ⟨⟨A4, n4, c4, rfl⟩, ⟨A5, n5, c5, rfl⟩, ⟨A6, n6, c6, rfl⟩⟩ := hts1.shapes
  clear ho1 hb1 hts1 a0 a1 a2 k0 k1 k2 k3 k4 k5 k6 k7 k8 t0
  obtain ⟨z0, z1, z2⟩ := HZ1.out.cells
  have y0 := HZ1.out.frozen 0; have y1 := HZ1.out.frozen 1; have y2 := HZ1.out.frozen 2
  go_wp2_with fail
  exact ret_TBpe (by rfl) (by rfl) (HZ1.out.set3 _ _ _) (by rfl) (by rfl) ⟨_, rfl, (HTS1.out.box3 HZ1.out _ _ _).owt, HB1.out.set3 HBP.out _ _ _⟩
set_option maxRecDepth 20000 in
set_option maxHeartbeats 4000000 in
theorem d6_any {w : World} {B : Nat} {v : Value} {T : Tb} (h : OwT w B v T) (hd : Dok T) {b : Nat} {c : Ch} {A : Option Addr} {n cp : Nat} (hc : CB w b c A n cp 76) (hbB : b < B) {p : Nat} (hp : TellB w p 170 b) :
    Calls Tryz.prog 177 #[v, .pointer (some ⟨b, 0, none⟩), .pointer (some ⟨p, 0, none⟩)] w (DeedQ w B (altR T c.nm (recF c)).1 (altR T c.nm (recF c)).2) := by
  obtain ⟨v1, v2, v3, B2, rfl, hts⟩ := h.ts
  have hBw : B ≤ w.heap.size := Nat.le_trans hts.b2 hts.sz
  obtain ⟨w0, hw0⟩ : ∃ w0, w0 = (w.alloc (.cells #[v1, v2, v3] 92)).alloc (.cells #[.slice none 0 0, .slice none 0 0, .slice none 0 0] 92) := ⟨_, rfl⟩
  obtain ⟨p0, hp0⟩ : ∃ p0, p0 = w.heap.size := ⟨_, rfl⟩
  obtain ⟨p1, hp1⟩ : ∃ p1, p1 = w.heap.size + 1 := ⟨_, rfl⟩
  have HW0 := hid hw0; have HP0 := hid hp0; have HP1 := hid hp1
  have HB0 : Hid (Below w.heap.size w w0) := by rw [hw0]; exact hid (Ba (B1 _ _) _)
  have HT0 : Hid (TBx w0 p0 v1 v2 v3 92) := by rw [hw0, hp0]; exact hid ((tb_new w _ _ _ _).on (B1 _ _))
  have HZ0 : Hid (TBx w0 p1 (.slice none 0 0) (.slice none 0 0) (.slice none 0 0) 92) := by
    rw [hw0, hp1, ← World.size_alloc w (.cells #[v1, v2, v3] 92)]; exact hid (tb_new _ _ _ _ _)
  have HO0 : Hid (OwT w0 B (.agg #[v1, v2, v3]) T) := hid (hts.on HB0.out).owt
  have HC0 := hid (hc.on HB0.out)
  have HBB0 : Hid (BK w B w0) := hid (BK.start HB0.out hBw)
  have HBP : Hid (B ≤ w.heap.size ∧ w.heap.size ≤ p1) := hid (by omega)
  have HD := hid hd; have HBL := hid hbB
  have HTB := hid (hp.on HB0.out)
  have t0 : w0.cell? ⟨p, 0, none⟩ = some (.func (.func 170) #[] #[.pointer (some ⟨b, 0, none⟩)]) := by rw [row_cell HTB.out]; rfl
  clear hp
  obtain ⟨⟨A1, n1, c1, rfl⟩, ⟨A2, n2, c2, rfl⟩, ⟨A3, n3, c3, rfl⟩⟩ := hts.shapes
  obtain ⟨a0, a1, a2⟩ := HT0.out.cells
  obtain ⟨k0, k1, k2, k3, k4, k5, k6, k7, k8⟩ := HC0.out.cells
  clear h hts hw0 hp0 hp1 hBw hc hbB hd
  go_enter Tryz.func177, Tryz.ntmps177
  go_upto_region 1 with fail
  rw [← HW0.out, ← HP1.out, ← HP0.out]
  go_wp2_with fail
  refine (alterC_any HO0.out HD.out.n HD.out.f c.nm HC0.out HBL.out).mono ?_
  rintro e w1 ⟨v', rfl, ho1, hb1⟩
  obtain ⟨u1, u2, u3, B3', rfl, hts1⟩ := ho1.ts
  have HZ1 : Hid (TBx w1 p1 (.slice none 0 0) (.slice none 0 0) (.slice none 0 0) 92) := hid (hb1.2 p1 _ HZ0.out)
  have HB1 := hid (HBB0.out.trans hb1)
  have HTS1 := hid hts1
  obtain ⟨⟨A4, n4, c4, rfl⟩, ⟨A5, n5, c5, rfl⟩, ⟨A6, n6, c6, rfl⟩⟩ := hts1.shapes
  clear ho1 hb1 hts1 a0 a1 a2 k0 k1 k2 k3 k4 k5 k6 k7 k8 t0
  obtain ⟨z0, z1, z2⟩ := HZ1.out.cells
  have y0 := HZ1.out.frozen 0; have y1 := HZ1.out.frozen 1; have y2 := HZ1.out.frozen 2
  go_wp2_with fail
  exact ret_TBpe (by rfl) (by rfl) (HZ1.out.set3 _ _ _) (by rfl) (by rfl) ⟨_, rfl, (HTS1.out.box3 HZ1.out _ _ _).owt, HB1.out.set3 HBP.out _ _ _⟩
set_option maxRecDepth 20000 in
set_option maxHeartbeats 4000000 in
theorem d7_any {w : World} {B : Nat} {v : Value} {T : Tb} (h : OwT w B v T) (hd : Dok T) {b : Nat} {c : Ch} {A : Option Addr} {n cp : Nat} (hc : CB w b c A n cp 76) (hbB : b < B) (ho : RdI w w.heap.size A n cp c.od) :
    Calls Tryz.prog 178 #[v, .pointer (some ⟨b, 0, none⟩)] w (DeedQ w B (ordR T c.od).1 (ordR T c.od).2) := by
  obtain ⟨v1, v2, v3, B2, rfl, hts⟩ := h.ts
  have hBw : B ≤ w.heap.size := Nat.le_trans hts.b2 hts.sz
  obtain ⟨w0, hw0⟩ : ∃ w0, w0 = (w.alloc (.cells #[v1, v2, v3] 92)).alloc (.cells #[.slice none 0 0, .slice none 0 0, .slice none 0 0] 92) := ⟨_, rfl⟩
  obtain ⟨p0, hp0⟩ : ∃ p0, p0 = w.heap.size := ⟨_, rfl⟩
  obtain ⟨p1, hp1⟩ : ∃ p1, p1 = w.heap.size + 1 := ⟨_, rfl⟩
  have HW0 := hid hw0; have HP0 := hid hp0; have HP1 := hid hp1
  have HB0 : Hid (Below w.heap.size w w0) := by rw [hw0]; exact hid (Ba (B1 _ _) _)
  have HT0 : Hid (TBx w0 p0 v1 v2 v3 92) := by rw [hw0, hp0]; exact hid ((tb_new w _ _ _ _).on (B1 _ _))
  have HZ0 : Hid (TBx w0 p1 (.slice none 0 0) (.slice none 0 0) (.slice none 0 0) 92) := by
    rw [hw0, hp1, ← World.size_alloc w (.cells #[v1, v2, v3] 92)]; exact hid (tb_new _ _ _ _ _)
  have HO0 : Hid (OwT w0 B (.agg #[v1, v2, v3]) T) := hid (hts.on HB0.out).owt
  have HC0 := hid (hc.on HB0.out)
  have HBB0 : Hid (BK w B w0) := hid (BK.start HB0.out hBw)
  have HBP : Hid (B ≤ w.heap.size ∧ w.heap.size ≤ p1) := hid (by omega)
  have HD := hid hd; have HBL := hid hbB
  have HOD := hid (ho.on HB0.out)
  clear ho
  obtain ⟨⟨A1, n1, c1, rfl⟩, ⟨A2, n2, c2, rfl⟩, ⟨A3, n3, c3, rfl⟩⟩ := hts.shapes
  obtain ⟨a0, a1, a2⟩ := HT0.out.cells
  obtain ⟨k0, k1, k2, k3, k4, k5, k6, k7, k8⟩ := HC0.out.cells
  clear h hts hw0 hp0 hp1 hBw hc hbB hd
  go_enter Tryz.func178, Tryz.ntmps178
  go_upto_region 1 with fail
  rw [← HW0.out, ← HP1.out, ← HP0.out]
  go_wp2_with fail
  refine (reorder_any HO0.out ⟨HD.out.n, HD.out.m⟩ HD.out.f HD.out.v HOD.out).mono ?_
  rintro e w1 ⟨v', rfl, ho1, hb1⟩
  obtain ⟨u1, u2, u3, B3', rfl, hts1⟩ := ho1.ts
  have HZ1 : Hid (TBx w1 p1 (.slice none 0 0) (.slice none 0 0) (.slice none 0 0) 92) := hid (hb1.2 p1 _ HZ0.out)
  have HB1 := hid (HBB0.out.trans hb1)
  have HTS1 := hid hts1
  obtain ⟨⟨A4, n4, c4, rfl⟩, ⟨A5, n5, c5, rfl⟩, ⟨A6, n6, c6, rfl⟩⟩ := hts1.shapes
  clear ho1 hb1 hts1 a0 a1 a2 k0 k1 k2 k3 k4 k5 k6 k7 k8
  obtain ⟨z0, z1, z2⟩ := HZ1.out.cells
  have y0 := HZ1.out.frozen 0; have y1 := HZ1.out.frozen 1; have y2 := HZ1.out.frozen 2
  go_wp2_with fail
  exact ret_TBpe (by rfl) (by rfl) (HZ1.out.set3 _ _ _) (by rfl) (by rfl) ⟨_, rfl, (HTS1.out.box3 HZ1.out _ _ _).owt, HB1.out.set3 HBP.out _ _ _⟩
end Go.Proofs.YtaegencmnmjgbaaGreat

namespace Go.Proofs.YtaegencmnmjgbaaGreat
open Go.RowKit Go.Maps
set_option linter.unusedVariables false
def RV (v : Value) : Option (DataW Value × List MemPlace) := some (.held v, [])
theorem kI : Keyed Tryz.prog 3 := int_keyed Tryz.underlying3
theorem keyI {k : Int} (h : I64 k) : keyOf Tryz.prog 3 (.int .i64 k) = some (.int .i64 k) := keyOf_int_mk Tryz.underlying3 h
def vw (o : Option Value) (z : DataW Value) : DataW Value := match o with
  | some v => .held v
  | none => z
def Mp (w : World) (b n : Nat) (f : Int → Option Value) : Prop :=
  ∃ D : DataW Value, w.ownsMap Tryz.prog 3 RV b n D ∧ (∀ k, I64 k → ∀ z, D.atKey (.int .i64 k) z = vw (f k) z) ∧ ∀ k, f k ≠ none → I64 k
def upd {α : Type} (f : Int → Option α) (k : Int) (v : α) : Int → Option α := fun j => if j = k then some v else f j
theorem has_vw {D : DataW Value} {kl : Lit} {o : Option Value} (h : ∀ z, D.atKey kl z = vw o z) : Maps.has D kl = o.isSome := by
  cases o with
  | none => exact Maps.has_false_of_atKey h
  | some v => exact Maps.has_true_of_atKey (y := .held v) h
section
variable {w w' : World} {b n : Nat} {f : Int → Option Value} {k : Int} {v : Value}
theorem Mp.made (w : World) : Mp (w.alloc (.map #[] 0)) w.heap.size 0 (fun _ => none) :=
  ⟨.map [], World.ownsMap_made _ _ _ _, fun k hk z => rfl, fun k hk => absurd rfl hk⟩
theorem Mp.lt (h : Mp w b n f) : b < w.heap.size := by obtain ⟨D, ho, _⟩ := h; exact ho.lt
theorem Mp.cong (h : Mp w b n f) (hb : w'.heap[b]? = w.heap[b]?) : Mp w' b n f := by
  obtain ⟨D, ⟨es, c, h0, h1⟩, h2⟩ := h
  exact ⟨D, ⟨es, c, hb.trans h0, h1⟩, h2⟩
theorem Mp.ext {g : Int → Option Value} (h : Mp w b n f) (e : ∀ k, f k = g k) : Mp w b n g := by
  have : f = g := funext e
  subst this; exact h
theorem Mp.below {B : Nat} (h : Mp w b n f) (hb : Below B w w') (hlt : b < B) : Mp w' b n f := h.cong (hb.block b hlt)
theorem Mp.look_ok {t e : TypeId} {z : Value} (h : Mp w b n f) (ht : Tryz.prog.underlying t = some (.map 3 e)) (hz : (zeroValue e).run Tryz.prog w = .ok z w) (hk : I64 k) :
    (Instr.lookup t (.map (some b)) (.int .i64 k) true).run Tryz.prog w = .ok (.tuple #[(f k).getD z, .bool (f k).isSome]) w := by
  obtain ⟨D, ho, h1, h2⟩ := h
  obtain ⟨v, ps, hr, hv⟩ := ho.look_ok kI ht hz (zd := .held z) (zp := []) rfl (keyI hk)
  rw [hr, has_vw (h1 k hk)]
  rw [h1 k hk] at hv
  simp only [RV, Option.some.injEq, Prod.mk.injEq] at hv
  cases hf : f k with
  | none => rw [hf] at hv; simp only [vw, DataW.held.injEq] at hv; rw [hv.1]; rfl
  | some u => rw [hf] at hv; simp only [vw, DataW.held.injEq] at hv; rw [hv.1]; rfl
theorem lit_ne {j k : Int} (h : j ≠ k) : (Lit.int .i64 j) ≠ (Lit.int .i64 k) := by intro e; cases e; exact h rfl
theorem Mp.store {t e : TypeId} (h : Mp w b n f) (ht : Tryz.prog.underlying t = some (.map 3 e)) (hn : n < maxLen) (hk : I64 k) (v : Value) :
    ∃ w', (Instr.mapUpdate t (.map (some b)) (.int .i64 k) v).run Tryz.prog w = .ok () w' ∧ Mp w' b (n + 1) (upd f k v) ∧ w.mapTurned w' b := by
  obtain ⟨D, ho, h1, h2⟩ := h
  obtain ⟨w', hr, ho', hm⟩ := ho.store kI ht hn (keyI hk) (d := .held v) (ps := []) rfl
  refine ⟨w', hr, ⟨_, ho', fun j hj z => ?_, fun j hj => ?_⟩, hm⟩
  · by_cases e : j = k
    · subst e; rw [atKey_put_same (k := .int .i64 j) ho.isMap trivial]; simp [upd, vw]
    · rw [atKey_put_other (lit_ne e), h1 j hj]; simp [upd, e]
  · by_cases e : j = k
    · subst e; exact hk
    · exact h2 j (by simpa [upd, e] using hj)
end
end Go.Proofs.YtaegencmnmjgbaaGreat

namespace Go.Proofs.YtaegencmnmjgbaaGreat
open Go.RowKit
set_option linter.unusedVariables false
set_option linter.unusedSimpArgs false
def clo (F : Nat) (l : List Nat) : Value := .func (.func F) #[] (l.map fun b => Value.pointer (some ⟨b, 0, none⟩)).toArray
def deedF (b p1 p2 : Nat) (k : Int) : Option Value :=
  if k = 1 then some (clo 171 [b]) else if k = 2 then some (clo 173 [b]) else if k = 3 then some (clo 175 [b, p1]) else if k = 4 then some (clo 177 [b, p2]) else if k = 5 then some (clo 178 [b]) else none
def DeedsQ (w : World) (c : Ch) (A : Option Addr) (n cp : Nat) (e : Ending) (w' : World) : Prop :=
  ∃ b p1 p2 m, e = .returned (.map (some m)) ∧ CB w' b c A n cp 76 ∧ TellB w' p1 169 b ∧ TellB w' p2 170 b ∧ Mp w' m 5 (deedF b p1 p2) ∧ Below w.heap.size w w'
set_option maxRecDepth 20000 in
set_option maxHeartbeats 8000000 in
theorem deeds_any {w : World} {c : Ch} {A : Option Addr} {n cp : Nat} : Calls Tryz.prog 138 #[chV c A n cp] w (DeedsQ w c A n cp) := by
  obtain ⟨b, hb⟩ : ∃ b, b = w.heap.size := ⟨_, rfl⟩
  obtain ⟨wa, hwa⟩ : ∃ wa, wa = w.alloc (.cells #[.int .i64 c.op, .string (bs c.nm), .string (bs c.to.nm), .int .i64 c.to.k, .int .i64 c.to.g, .int .i64 c.dk, .int .u64 c.dn, .string c.dt, .slice A n cp] 76) := ⟨_, rfl⟩
  have HB := hid hb; have HWA := hid hwa
  have HBA : Hid (Below w.heap.size w wa) := by rw [hwa]; exact hid (B1 _ _)
  have HCA : Hid (CB wa b c A n cp 76) := by rw [hwa, hb]; exact hid (CB.new w c A n cp _)
  clear hwa hb
  obtain ⟨p1, hp1⟩ : ∃ p1, p1 = wa.heap.size := ⟨_, rfl⟩
  obtain ⟨wb, hwb⟩ : ∃ wb, wb = (wa.alloc (.cells #[.nilFunc] 240)).setCell ⟨p1, 0, none⟩ (.func (.func 169) #[] #[.pointer (some ⟨b, 0, none⟩)]) := ⟨_, rfl⟩
  have HP1 := hid hp1; have HWB := hid hwb
  have hst1 : (store ⟨p1, 0, none⟩ (.func (.func 169) #[] #[.pointer (some ⟨b, 0, none⟩)])).run Tryz.prog (wa.alloc (.cells #[.nilFunc] 240)) = .ok () wb := by
    rw [run_store _ _ _ _ _ (by rfl), hwb]
    have h1 : (wa.alloc (.cells #[.nilFunc] 240)).heap[p1]? = some (.cells #[.nilFunc] 240 (0, 0)) := by rw [hp1]; exact heap_alloc_new _ _
    simp [row_cell h1, row_frozen h1]
  have HBB : Hid (Below w.heap.size w wb) := by rw [hwb]; exact hid ((Ba HBA.out _).setCell (p := ⟨p1, 0, none⟩) (show w.heap.size ≤ p1 by rw [hp1]; exact HBA.out.size) _)
  have HAB : Hid (Below wa.heap.size wa wb) := by rw [hwb]; exact hid ((B1 _ _).setCell (p := ⟨p1, 0, none⟩) (show wa.heap.size ≤ p1 by omega) _)
  have HT1B : Hid (TellB wb p1 169 b) := by
    have h1 : (wa.alloc (.cells #[.nilFunc] 240)).heap[p1]? = some (.cells #[.nilFunc] 240 (0, 0)) := by rw [hp1]; exact heap_alloc_new _ _
    rw [hwb]; exact hid (row_set h1 0 _)
  rw [hp1] at hst1
  clear hwb hp1
  obtain ⟨p2, hp2⟩ : ∃ p2, p2 = wb.heap.size := ⟨_, rfl⟩
  obtain ⟨w0, hw0⟩ : ∃ w0, w0 = (wb.alloc (.cells #[.nilFunc] 240)).setCell ⟨p2, 0, none⟩ (.func (.func 170) #[] #[.pointer (some ⟨b, 0, none⟩)]) := ⟨_, rfl⟩
  have HP2 := hid hp2; have HW0 := hid hw0
  have hst2 : (store ⟨p2, 0, none⟩ (.func (.func 170) #[] #[.pointer (some ⟨b, 0, none⟩)])).run Tryz.prog (wb.alloc (.cells #[.nilFunc] 240)) = .ok () w0 := by
    rw [run_store _ _ _ _ _ (by rfl), hw0]
    have h1 : (wb.alloc (.cells #[.nilFunc] 240)).heap[p2]? = some (.cells #[.nilFunc] 240 (0, 0)) := by rw [hp2]; exact heap_alloc_new _ _
    simp [row_cell h1, row_frozen h1]
  have HBC : Hid (Below wb.heap.size wb w0) := by rw [hw0]; exact hid ((B1 _ _).setCell (p := ⟨p2, 0, none⟩) (show wb.heap.size ≤ p2 by omega) _)
  have HB0 : Hid (Below w.heap.size w w0) := hid (Bt HBB.out HBC.out)
  have HC0 : Hid (CB w0 b c A n cp 76) := hid ((HCA.out.on HAB.out).on HBC.out)
  have HT1 : Hid (TellB w0 p1 169 b) := hid (HT1B.out.on HBC.out)
  have HT2 : Hid (TellB w0 p2 170 b) := by
    have h1 : (wb.alloc (.cells #[.nilFunc] 240)).heap[p2]? = some (.cells #[.nilFunc] 240 (0, 0)) := by rw [hp2]; exact heap_alloc_new _ _
    rw [hw0]; exact hid (row_set h1 0 _)
  rw [hp2] at hst2
  clear hw0 hp2
  obtain ⟨m, hm⟩ : ∃ m, m = w0.heap.size := ⟨_, rfl⟩
  obtain ⟨w1, hw1⟩ : ∃ w1, w1 = w0.alloc (.map #[] 0) := ⟨_, rfl⟩
  have HM := hid hm; have HW1 := hid hw1
  have HM1 : Hid (Mp w1 m 0 (fun _ => none)) := by rw [hw1, hm]; exact hid (Mp.made w0)
  have HB1 : Hid (Below w0.heap.size w0 w1) := by rw [hw1]; exact hid (B1 _ _)
  have hmm := @run_makeMap Tryz.prog
  have hk : ∀ k : Int, 0 ≤ k → k ≤ 5 → I64 k := fun k h0 h5 => i64_iff.2 ⟨by omega, by omega⟩
  obtain ⟨w2, r2, m2, t2⟩ := HM1.out.store Tryz.underlying212 (by decide) (hk 1 (by omega) (by omega)) (.func (.func 171) #[] #[.pointer (some ⟨b, 0, none⟩)])
  obtain ⟨w3, r3, m3, t3⟩ := m2.store Tryz.underlying212 (by decide) (hk 2 (by omega) (by omega)) (.func (.func 173) #[] #[.pointer (some ⟨b, 0, none⟩)])
  obtain ⟨w4, r4, m4, t4⟩ := m3.store Tryz.underlying212 (by decide) (hk 3 (by omega) (by omega)) (.func (.func 175) #[] #[.pointer (some ⟨b, 0, none⟩), .pointer (some ⟨p1, 0, none⟩)])
  obtain ⟨w5, r5, m5, t5⟩ := m4.store Tryz.underlying212 (by decide) (hk 4 (by omega) (by omega)) (.func (.func 177) #[] #[.pointer (some ⟨b, 0, none⟩), .pointer (some ⟨p2, 0, none⟩)])
  obtain ⟨w6, r6, m6, t6⟩ := m5.store Tryz.underlying212 (by decide) (hk 5 (by omega) (by omega)) (.func (.func 178) #[] #[.pointer (some ⟨b, 0, none⟩)])
  have hgr : w1.grownBy w6 (some m) := (((t2.grown.trans t3.grown).trans t4.grown).trans t5.grown).trans t6.grown
  have HB6 : Hid (Below w0.heap.size w0 w6) := hid (HB1.out.grown hgr HB1.out.size (fun j e => by cases e; exact Nat.le_of_eq hm.symm))
  have HMP : Hid (Mp w6 m 5 (deedF b p1 p2)) := hid (m6.ext fun k => by
    unfold upd deedF clo
    by_cases e5 : k = 5
    · subst e5; rfl
    · by_cases e4 : k = 4
      · subst e4; rfl
      · by_cases e3 : k = 3
        · subst e3; rfl
        · by_cases e2 : k = 2
          · subst e2; rfl
          · by_cases e1 : k = 1
            · subst e1; rfl
            · simp [e1, e2, e3, e4, e5])
  rw [hw1, hm] at r2
  rw [hm] at r3 r4 r5 r6
  clear m2 m3 m4 m5 m6 t2 t3 t4 t5 t6 hgr hm hw1 hk
  unfold chV
  go_enter Tryz.func138, Tryz.ntmps138
  go_upto_region 1 with fail
  rw [← HWA.out, ← HB.out]
  go_upto_region 2 with fail
  rw [← HP1.out]
  go_upto_region 3 with fail
  rw [← HP2.out]
  go_wp2_with fail
  go_ret
  rw [← HM.out]
  exact ⟨b, p1, p2, m, rfl, HC0.out.on HB6.out, HT1.out.on HB6.out, HT2.out.on HB6.out, HMP.out, Bt HB0.out HB6.out⟩
end Go.Proofs.YtaegencmnmjgbaaGreat
