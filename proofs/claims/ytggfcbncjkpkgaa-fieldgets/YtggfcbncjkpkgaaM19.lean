/-
  The program's first of layer 6: the field with which bytes begin.
  The statements' own few, and the document's Same, of layer 6.
  Contract of the document's Casts (written by tools/kindc.py).
  Contracts of the document's Whole and Float.
  Contract of the document's Cast (written by tools/kinde.py).
  Contract of kind.Casts (written by tools/kindt.py).
  Contract of kind.Cast (written by tools/kindv.py).
  alive of layer 5; float64's bits.
-/
import Derived.Test.YtggfcbncjkpkgaaM17
import Derived.Test.YtggfcbncjkpkgaaM18
import Derived.Test.YtggfcbncjkpkgaaM4
import Derived.Test.YtggfcbncjkpkgaaM14
import Derived.Test.YtggfcbncjkpkgaaM5
import Derived.Test.YtggfcbncjkpkgaaM15
import Derived.Laws.Externs

namespace Go.Proofs.Ytggfcbncjkpkgaa
open Go.RowKit
set_option linter.unusedVariables false

theorem getN1 (b : List UInt8) (p : Nat) : getN b (p : Int) 1 = ((b.getD p 0).toNat : Int) := by
  unfold getN holdsB
  by_cases c : p < b.length
  · rw [if_pos (by simp [show isW 1 = true from rfl]; omega)]
    have e : (b.drop p).take 1 = [b[p]] := by
      rw [List.drop_eq_getElem_cons c]; rfl
    rw [Int.toNat_natCast, show (1 : Int).toNat = 1 from rfl, e, List.getD_eq_getElem?_getD, List.getElem?_eq_getElem c]
    simp [num]
  · rw [if_neg (by simp [show isW 1 = true from rfl]; omega), List.getD_eq_getElem?_getD, List.getElem?_eq_none (by omega)]
    rfl
theorem holds1 (n p : Nat) : holdsB n (p : Int) 1 = decide (p < n) := by
  unfold holdsB
  rw [Bool.eq_iff_iff]
  simp [show isW 1 = true from rfl]
  omega
/-- How many bytes the name has with which bytes begin. -/
def fstN (b : List UInt8) : Nat := (b.getD 0 0).toNat
def fstF (b : List UInt8) : Fd := ⟨(b.drop 1).take (fstN b), ((b.getD (fstN b + 1) 0).toNat : Int), ((b.getD (fstN b + 2) 0).toNat : Int)⟩
theorem u8_lt (b : List UInt8) (p : Nat) : (b.getD p 0).toNat < 256 := (b.getD p 0).toNat_lt
def FstQ (w : World) (B : Nat) (b : List UInt8) (e : Ending) (w' : World) : Prop := Below w.heap.size w w' ∧
  ((fstN b + 3 ≤ b.length ∧ ∃ A c, e = .returned (.tuple #[fv (fstF b), .slice A (b.length - (fstN b + 3)) c, .bool true]) ∧ Rd w' B A (b.length - (fstN b + 3)) c (b.drop (fstN b + 3))) ∨
   (b.length < fstN b + 3 ∧ e = .returned (.tuple #[fv ⟨[], 0, 0⟩, .slice none 0 0, .bool false])))
theorem results_cell_tmp2 {fn : Func} {p u v : Tmp} {ty : TypeId} (h : fn.results = #[.cell p ty, .tmp u, .tmp v]) (tmps : Array Value) (P : Program) (w : World) :
    (results fn tmps).run P w =
      ((asAddr (tmps.getD p undef)).run P w).andThen fun a w₁ => ((loadVar ty a).run P w₁).andThen fun x w₂ => .ok (.tuple #[x, tmps.getD u undef, tmps.getD v undef]) w₂ := by
  simp only [results, h]
  simp [Sem.run_bind, Result.andThen]
theorem ret_FBee {fn : Func} {p u u2 : Tmp} (hf : fn.results = #[.cell p 40, .tmp u, .tmp u2]) {R : Ending → World → Prop} {a : Act} {w : World} {b : Nat} {nm : ByteArray} {k g : Int} {x y : Value} (hp : a.tmps.getD p undef = .pointer (some ⟨b, 0, none⟩)) (hv : FB w b nm k g)
    (hx : a.tmps.getD u undef = x) (hy : a.tmps.getD u2 undef = y) (hd : a.defers = []) (hR : R (.returned (.tuple #[.agg #[.string nm, .int .i64 k, .int .i64 g], x, y])) w) : bodyPost Try.prog fn R .ret a w :=
  bodyPost_ret_by (by rw [results_cell_tmp2 hf, hp, hx, hy]; simp [asAddr, Result.andThen, run_loadFB hv]) hd hR

set_option maxRecDepth 20000 in
set_option maxHeartbeats 4000000 in
theorem first_any {w : World} {A : Option Addr} {B n c : Nat} {b : List UInt8} (hB : Rd w B A n c b) (hBw : B ≤ w.heap.size) (hn : n ≤ 100000) :
    Calls Try.prog 49 #[.slice A n c] w (FstQ w B b) := by
  have h := hB.more hBw
  have HRB := hid hB; have HBw := hid hBw
  clear hB hBw
  have HL := hid h.1
  obtain ⟨N, hN⟩ : ∃ N, N = fstN b := ⟨_, rfl⟩
  have hN2 : N < 256 := by rw [hN]; exact u8_lt b 0
  obtain ⟨K, hK⟩ : ∃ K, K = (b.getD (N + 1) 0).toNat := ⟨_, rfl⟩
  obtain ⟨G, hG⟩ : ∃ G, G = (b.getD (N + 2) 0).toNat := ⟨_, rfl⟩
  have hK2 : K < 256 := by rw [hK]; exact u8_lt b _
  have hG2 : G < 256 := by rw [hG]; exact u8_lt b _
  obtain ⟨E1, hE1⟩ : ∃ E1, E1 = N + 1 := ⟨_, rfl⟩
  obtain ⟨E2, hE2⟩ : ∃ E2, E2 = N + 2 := ⟨_, rfl⟩
  obtain ⟨E3, hE3⟩ : ∃ E3, E3 = N + 3 := ⟨_, rfl⟩
  have HG0 : Hid (∀ w', Below w.heap.size w w' → Calls Try.prog 48 #[.slice A n c, .int .i64 0, .int .i64 1] w' fun e w2 => e = .returned (.tuple #[.int .u64 N, .bool (holdsB n 0 1)]) ∧ Below w'.heap.size w' w2) := fun w' hb => by
    have := get_any A n c b 0 1 w' (h.on hb)
    rw [show getN b 0 1 = (N : Int) by rw [hN]; exact getN1 b 0] at this
    exact this
  have HG1 : Hid (∀ w', Below w.heap.size w w' → Calls Try.prog 48 #[.slice A n c, .int .i64 E1, .int .i64 1] w' fun e w2 => e = .returned (.tuple #[.int .u64 K, .bool (decide (E1 < n))]) ∧ Below w'.heap.size w' w2) := fun w' hb => by
    have := get_any A n c b (E1 : Int) 1 w' (h.on hb)
    rw [holds1, getN1, hE1, ← hK] at this
    rw [hE1]; exact this
  have HG2 : Hid (∀ w', Below w.heap.size w w' → Calls Try.prog 48 #[.slice A n c, .int .i64 E2, .int .i64 1] w' fun e w2 => e = .returned (.tuple #[.int .u64 G, .bool (decide (E2 < n))]) ∧ Below w'.heap.size w' w2) := fun w' hb => by
    have := get_any A n c b (E2 : Int) 1 w' (h.on hb)
    rw [holds1, getN1, hE2, ← hG] at this
    rw [hE2]; exact this
  have q0 : IntKind.i64.wrap (N : Int) = (N : Int) := by rw [IntKind.wrap_i64]; omega
  have q1 : IntKind.i64.wrap (1 + (N : Int)) = (E1 : Int) := by rw [IntKind.wrap_i64]; omega
  have q2 : IntKind.i64.wrap ((E1 : Int) + 1) = (E2 : Int) := by rw [IntKind.wrap_i64]; omega
  have q3 : IntKind.i64.wrap ((E1 : Int) + 2) = (E3 : Int) := by rw [IntKind.wrap_i64]; omega
  have q4 : IntKind.i64.wrap (K : Int) = (K : Int) := by rw [IntKind.wrap_i64]; omega
  have q5 : IntKind.i64.wrap (G : Int) = (G : Int) := by rw [IntKind.wrap_i64]; omega
  obtain ⟨w0, hw0⟩ : ∃ w0, w0 = w.alloc (.cells #[.string ⟨#[]⟩, .int .i64 0, .int .i64 0] 40) := ⟨_, rfl⟩
  have HW0 := hid hw0
  have HB0 : Hid (Below w.heap.size w w0) := by rw [hw0]; exact B1 _ _
  obtain ⟨bx, hbx⟩ : ∃ bx, bx = w.heap.size := ⟨_, rfl⟩
  have HBX := hid hbx
  have HF0 : Hid (FB w0 bx ⟨#[]⟩ 0 0) := by rw [hw0, hbx]; exact fb_new w _ _ _
  have HBl : Hid (w.heap.size ≤ bx) := by rw [hbx]; exact Nat.le_refl _
  have HFF : Hid (fstF b = ⟨(b.drop 1).take N, (K : Int), (G : Int)⟩) := by show _ = _; unfold fstF; rw [← hN, hK, hG]
  have HNN := hid hN; have HE3 := hid hE3; have HE2 := hid hE2; have HE1 := hid hE1
  have H := hid h
  have HEN : Hid (E3 = E2 + 1 ∧ E2 = E1 + 1 ∧ E1 = N + 1) := ⟨by omega, by omega, by omega⟩
  clear hw0 hbx hN hK hG hE1 hE2 hE3 h
  go_enter Try.func49, Try.ntmps49
  go_wp2_with fail
  rw [← HW0.out, ← HBX.out]
  refine (HG0.out w0 HB0.out).mono ?_
  rintro e w1 ⟨rfl, hb1⟩
  have HB1 := hid (Bt HB0.out hb1); have HF1 := hid (HF0.out.on hb1)
  clear hb1
  go_wp2_with fail
  refine (HG1.out w1 HB1.out).mono ?_
  rintro e w2 ⟨rfl, hb2⟩
  have HB2 := hid (Bt HB1.out hb2); have HF2 := hid (HF1.out.on hb2)
  clear hb2
  go_wp2_with fail
  refine (HG2.out w2 HB2.out).mono ?_
  rintro e w3 ⟨rfl, hb3⟩
  have HB3 := hid (Bt HB2.out hb3); have HF3 := hid (HF2.out.on hb3)
  obtain ⟨v0, v1, v2⟩ := HF3.out.cells
  have g0 := HF3.out.frozen 0; have g1 := HF3.out.frozen 1; have g2 := HF3.out.frozen 2
  clear hb3
  by_cases hok : E2 < n
  · rw [show decide (E2 < n) = true from decide_eq_true hok]
    obtain ⟨b0, off, rfl, hb0, hcc⟩ := H.out.2.2.2.2 (by omega)
    have hnc := H.out.2.1
    obtain ⟨x, hx⟩ : ∃ x, x = (b.drop 1).take N := ⟨_, rfl⟩
    have hcv := ((H.out.on HB3.out).sub (p := 1) (m := N) (by have := HE2.out; omega) (by have := HE2.out; omega)).conv
    rw [← hx] at hcv
    have HOK : Hid (fstN b + 3 ≤ b.length) := by show _ ≤ _; have := HL.out; have := HNN.out; have := HE2.out; omega
    have HFE : Hid (fv (fstF b) = .agg #[.string ⟨x.toArray⟩, .int .i64 K, .int .i64 G]) := by show _ = _; rw [HFF.out, ← hx]; rfl
    obtain ⟨k1, k2, k3⟩ := HEN.out
    have e1 : E1 - 1 = N := by omega
    have s0 : ¬ c = 1 := by omega
    have s1 : 1 ≤ c := by omega
    have s2 : (1 : Int) ≤ (E1 : Int) := by omega
    have s3 : (E1 : Int) ≤ (c : Int) := by omega
    have s4 : 1 ≤ E1 := by omega
    have s5 : E1 ≤ c := by omega
    have s6 : (E3 : Int) ≤ (n : Int) := by omega
    have s7 : E3 ≤ n := by omega
    have s8 : E3 ≤ c := by omega
    have HB4 : Hid (∀ o : Obj, Below w.heap.size w (w3.alloc o)) := fun o => Ba HB3.out o
    have hq := HF3.out.lt
    clear hcc hx hok hb0 k1 k2 k3
    have HFB : Hid (∀ o : Obj, FB (((((w3.setCell ⟨bx, 0, none⟩ (.string ⟨x.toArray⟩)).setCell ⟨bx, 1, none⟩ (.int .i64 K)).setCell ⟨bx, 2, none⟩ (.int .i64 G)).alloc o).drew) bx ⟨x.toArray⟩ K G) := fun o => (HF3.out.set3 ⟨x.toArray⟩ K G).alloc o
    have HBB : Hid (∀ o : Obj, Below w.heap.size w (((((w3.setCell ⟨bx, 0, none⟩ (.string ⟨x.toArray⟩)).setCell ⟨bx, 1, none⟩ (.int .i64 K)).setCell ⟨bx, 2, none⟩ (.int .i64 G)).alloc o).drew)) := fun o => Bd (Ba (((HB3.out.setCell HBl.out _).setCell HBl.out _).setCell HBl.out _) o) 1
    have HN3 : Hid (n - E3 = b.length - (fstN b + 3) ∧ fstN b + 3 = E3) := ⟨by rw [HL.out, ← HNN.out, ← HE3.out], by rw [← HNN.out, ← HE3.out]⟩
    by_cases hc3 : c = E3
    · have HRD : Hid (∀ w', Below w.heap.size w w' → Rd w' B (some ⟨b0, off, none⟩) (n - E3) (c - E3) (b.drop E3)) := fun w' hb => by
        have := (HRB.out.below (hb.mono HBw.out)).drop (k := E3) s7
        rw [if_pos hc3] at this; exact this
      subst hc3
      go_wp2_with fail
      go_region
      go_wp2_with fail
      refine ret_FBee (by rfl) (by rfl) (HFB.out _) (by rfl) (by rfl) (by rfl) ⟨HBB.out _, .inl ⟨HOK.out, some ⟨b0, off, none⟩, 0, ?_, ?_⟩⟩
      · have h0 : b.length - (fstN b + 3) = 0 := by have := HN3.out.1; omega
        rw [HFE.out, h0]; rfl
      · have h0 : b.length - (fstN b + 3) = 0 := by have := HN3.out.1; omega
        have h1 := HRD.out _ (HBB.out (.cells #[.string ⟨x.toArray⟩, .int .i64 K, .int .i64 G] 40))
        rw [h0, HN3.out.2]
        rw [show n - c = 0 by omega, Nat.sub_self] at h1
        exact h1
    · have HRD : Hid (∀ w', Below w.heap.size w w' → Rd w' B (some ⟨b0, off + E3, none⟩) (n - E3) (c - E3) (b.drop E3)) := fun w' hb => by
        have := (HRB.out.below (hb.mono HBw.out)).drop (k := E3) s7
        rw [if_neg hc3] at this; simpa [add_plain] using this
      go_wp2_with fail
      go_region
      go_wp2_with fail
      refine ret_FBee (by rfl) (by rfl) (HFB.out _) (by rfl) (by rfl) (by rfl) ⟨HBB.out _, .inl ⟨HOK.out, some ⟨b0, off + E3, none⟩, c - E3, ?_, ?_⟩⟩
      · rw [HFE.out, ← HN3.out.1]; rfl
      · rw [← HN3.out.1, HN3.out.2]
        exact HRD.out _ (HBB.out _)
  · rw [show decide (E2 < n) = false from decide_eq_false hok]
    have HNO : Hid (b.length < fstN b + 3) := by show _ < _; have := HL.out; have := HNN.out; have := HE3.out; obtain ⟨k1, k2, k3⟩ := HEN.out; omega
    clear hok
    go_wp2_with fail
    refine ret_FBee (by rfl) (by rfl) (HF3.out.set3 ⟨#[]⟩ 0 0) (by rfl) (by rfl) (by rfl) ⟨((HB3.out.setCell HBl.out _).setCell HBl.out _).setCell HBl.out _, .inr ⟨HNO.out, by rfl⟩⟩
end Go.Proofs.Ytggfcbncjkpkgaa

namespace Go.Proofs.Ytggfcbncjkpkgaa
open Go.RowKit
set_option linter.unusedVariables false

set_option maxHeartbeats 1000000 in
theorem same6_any {w : World} {A A2 : Option Addr} {n c c2 : Nat} {l : List Fd} (h : RdF w w.heap.size A n c l) (h2 : RdF w w.heap.size A2 n c2 l) :
    Calls Try.prog 33 #[.slice A n c, .slice A2 n c2] w fun e w' => e = .returned (.bool true) ∧ Below w.heap.size w w' := by
  have HL := hid h.1
  have hnm : (n : Int) ≤ 9223372036854775807 := by have := Nat.le_trans h.2.1 h.2.2.1; unfold maxLen at this; omega
  have H := hid h; have H2 := hid h2; clear h h2
  go_enter Try.func33, Try.ntmps33
  go_wp2_with fail
  go_loopw [5] (fun i wr => ∃ j : Nat, j ≤ n ∧ i = .int .i64 j ∧ Hid (Below w.heap.size w wr)) (fun i _ => n - (intOf i).toNat)
  case atStart => exact ⟨0, by omega, rfl, B0 w⟩
  case round =>
    obtain ⟨j, hj, rfl, hb⟩ := hrel
    by_cases hlt : j < n
    · have hjl : j < l.length := by have := HL.out; omega
      obtain ⟨f, hf⟩ : ∃ f, l[j]? = some f := ⟨_, List.getElem?_eq_getElem hjl⟩
      obtain ⟨_, hk64, hg64, hnl, b, off, rfl, hc⟩ := H.out.at hf
      obtain ⟨_, _, _, _, b2, off2, rfl, hc2⟩ := H2.out.at hf
      obtain ⟨c0, cc1, cc2⟩ := hc wr hb.out
      obtain ⟨d0, dd1, dd2⟩ := hc2 wr hb.out
      have hji : (j : Int) < n := by omega
      have hj0 : (0 : Int) ≤ j := by omega
      clear hc hc2 hjl hf hk64 hg64 hnl
      go_wp2_with fail
      go_quiet (fail)
      go_wp2_with fail
      exact ⟨⟨j + 1, by omega, by go_num, Bd hb.out nq⟩, by simp [intOf]; omega⟩
    · obtain rfl : j = n := by omega
      go_wp2_with fail
      go_ret
      exact ⟨rfl, hb.out⟩

def sumN (l : List Fd) : Nat := (l.map fun f => f.nm.length).sum
theorem sumN_take {l : List Fd} {i : Nat} {f : Fd} (h : l[i]? = some f) : sumN (l.take (i + 1)) = sumN (l.take i) + f.nm.length := by
  unfold sumN; rw [List.take_add_one, h]; simp
theorem sumN_le {l : List Fd} {B : Nat} (h : ∀ f ∈ l, f.nm.length ≤ B) : sumN l ≤ l.length * B := by
  induction l with
  | nil => simp [sumN]
  | cons f l ih =>
    have h1 := h f (by simp)
    have h2 := ih (fun x hx => h x (by simp [hx]))
    have e : sumN (f :: l) = f.nm.length + sumN l := by simp [sumN]
    rw [e, List.length_cons, Nat.succ_mul]; omega
theorem le_sumN {l : List Fd} {f : Fd} (h : f ∈ l) : f.nm.length ≤ sumN l := by
  induction l with
  | nil => cases h
  | cons x l ih =>
    have e : sumN (x :: l) = x.nm.length + sumN l := by simp [sumN]
    rcases List.mem_cons.1 h with rfl | h
    · omega
    · have := ih h; omega
/-- So few fields, with so short names. -/
def fewP (n : Nat) (l : List Fd) : Prop := n ≤ 40 ∧ ∀ f ∈ l, f.nm.length ≤ 2000
def FewQ (w : World) (n : Nat) (l : List Fd) (e : Ending) (w' : World) : Prop := ∃ b, e = .returned (.bool b) ∧ (b = true → fewP n l) ∧ Below w.heap.size w w'

set_option maxHeartbeats 2000000 in
theorem few6_any {w : World} {A : Option Addr} {n c : Nat} {l : List Fd} (h : RdF w w.heap.size A n c l) :
    Calls Try.prog 11 #[.slice A n c] w (FewQ w n l) := by
  have HL := hid h.1
  have hnm : (n : Int) ≤ 9223372036854775807 := by have := Nat.le_trans h.2.1 h.2.2.1; unfold maxLen at this; omega
  have H := hid h; clear h
  go_enter Try.func11, Try.ntmps11
  go_wp2_with fail
  go_loopw [3, 8] (fun s i wr => ∃ (j : Nat) (z : Int), j ≤ n ∧ i = .int .i64 j ∧ s = .int .i64 z ∧ Hid (n ≤ 40 → z = (sumN (l.take j) : Nat)) ∧ Hid (Below w.heap.size w wr)) (fun _ i _ => n - (intOf i).toNat)
  case atStart => exact ⟨0, 0, by omega, rfl, rfl, hid (fun _ => by simp [sumN]), B0 w⟩
  case round =>
    obtain ⟨j, z, hj, rfl, rfl, HZ, HB⟩ := hrel
    by_cases hlt : j < n
    · have hjl : j < l.length := by have := HL.out; omega
      obtain ⟨f, hf⟩ : ∃ f, l[j]? = some f := ⟨_, List.getElem?_eq_getElem hjl⟩
      obtain ⟨_, hk64, hg64, hnl, b, off, rfl, hc⟩ := H.out.at hf
      obtain ⟨c0, cc1, cc2⟩ := hc wr HB.out
      have HF := hid hf
      have hfl : (f.nm.length : Int) ≤ 9223372036854775807 := by unfold nmMax at hnl; omega
      have hjb : (j : Int) + 1 ≤ 9223372036854775807 := by omega
      have HW : Hid (n ≤ 40 → IntKind.i64.wrap (z + (f.nm.length : Int)) = (sumN (l.take (j + 1)) : Nat)) := fun h40 => by
        have h1 := HZ.out h40
        have h2 := sumN_le (l := l.take (j + 1)) (B := nmMax) (fun f hf => (H.out.2.2.2.1 f (List.mem_of_mem_take hf)).2.2)
        have h3 : (l.take (j + 1)).length ≤ 40 := by rw [List.length_take]; omega
        have h4 : (l.take (j + 1)).length * nmMax ≤ 40 * nmMax := Nat.mul_le_mul_right _ h3
        have h5 := sumN_take HF.out
        unfold nmMax at h4 h2
        rw [h1, IntKind.wrap_i64]
        omega
      obtain ⟨z', hz'⟩ : ∃ z', z' = IntKind.i64.wrap (z + (f.nm.length : Int)) := ⟨_, rfl⟩
      rw [← hz'] at HW
      have hz2 := hz'.symm
      clear hc hjl hf hk64 hg64 hnl hz'
      go_wp2_with fail
      go_roundw
      case rel => exact ⟨j + 1, z', by omega, by simp, rfl, HW, Ba HB.out _⟩
      case measure => simp [intOf]; omega
    · obtain rfl : j = n := by omega
      have et : l.take j = l := by rw [← HL.out]; exact List.take_length
      rw [et] at HZ
      clear et
      by_cases h40 : (j : Int) ≤ 40
      · have d1 : decide ((j : Int) ≤ 40) = true := decide_eq_true h40
        have HQ : Hid (decide (z ≤ 2000) = true → fewP j l) := fun h => by
          have h1 := HZ.out (by omega)
          have h2 : z ≤ 2000 := by simpa using h
          exact ⟨by omega, fun f hf => by have := le_sumN hf; omega⟩
        clear h40
        go_wp2_with fail
        go_ret
        exact ⟨_, rfl, HQ.out, HB.out⟩
      · have d1 : decide ((j : Int) ≤ 40) = false := decide_eq_false h40
        go_wp2_with fail
        go_ret
        exact ⟨_, rfl, fun h => (by cases h), HB.out⟩
end Go.Proofs.Ytggfcbncjkpkgaa

namespace Go.Proofs.Ytggfcbncjkpkgaa
open Go.RowKit
set_option linter.unusedVariables false
set_option linter.unusedSimpArgs false

end Go.Proofs.Ytggfcbncjkpkgaa

namespace Go.Proofs.Ytggfcbncjkpkgaa
open Go.RowKit
set_option linter.unusedVariables false
set_option linter.unusedSimpArgs false

theorem w_power (n : Int) (hn : U64 n) : wrap64 ((wrap64 (IntKind.u64.wrap (n.tdiv 4503599627370496))).tmod 2048 - 1075) = (fE n.toNat : Int) - 1075 := by
  have h0 := hn.1; have h1 := hn.2; rw [pw8] at h1
  rw [Int.tdiv_eq_ediv_of_nonneg h0]
  have e1 : IntKind.u64.wrap (n / 4503599627370496) = n / 4503599627370496 := by rw [IntKind.wrap_u64]; omega
  have e2 : wrap64 (n / 4503599627370496) = n / 4503599627370496 := by unfold wrap64; omega
  rw [e1, e2, Int.tmod_eq_emod_of_nonneg (by omega)]
  unfold wrap64 fE; omega
theorem w_frac (n : Int) (hn : U64 n) : n.tmod 4503599627370496 = (fF n.toNat : Int) := by
  have h0 := hn.1
  rw [Int.tmod_eq_emod_of_nonneg h0]; unfold fF; omega
theorem w_sign (n : Int) (hn : U64 n) : decide (9223372036854775808 ≤ n) = fS n.toNat := by
  have h0 := hn.1
  unfold fS; rw [Bool.eq_iff_iff]; simp; omega

def StF (N d : Nat) (X P : Int) (l h : Bool) : Prop := X = ((N / 2 ^ d : Nat) : Int) ∧ P = 1075 + (d : Int) ∧ l = lB N d ∧ h = hB N d ∧ (d = 0 ∨ 4503599627370496 ≤ X) ∧ d ≤ 64
theorem div_two_pow_succ (n d : Nat) : n / 2 ^ (d + 1) = n / 2 ^ d / 2 := by rw [Nat.pow_succ, Nat.div_div_eq_div_mul]

theorem float_fin {N d j : Nat} {X P Y Q : Int} {l h : Bool} (hN : N ≠ 0) (hs : StF N d X P l h) (hY : Y = X * 2 ^ j) (hQ : Q = P - (j : Int)) (hj : j ≤ 52) (hjd : j = 0 ∨ d = 0) (h1 : 4503599627370496 ≤ Y) (h2 : Y < 9007199254740992) :
    Q * 4503599627370496 + (Y + ((h && (l || (Y % 2 == 1))).toNat : Int)) - 4503599627370496 = (floatN N : Int) := by
  obtain ⟨s1, s2, s3, s4, s5, s6⟩ := hs
  cases d with
  | zero =>
    rw [s4, s3]
    simp only [hB, Bool.false_and, Bool.toNat_false]
    have hX : X = (N : Int) := by rw [s1]; simp
    have hYN : Y = ((N * 2 ^ j : Nat) : Int) := by rw [hY, hX]; simp
    obtain ⟨Z, hZ⟩ : ∃ Z, Z = N * 2 ^ j := ⟨_, rfl⟩
    have he := float_end0 (n := N) (j := j) hN (by rw [← hZ] at hYN ⊢; omega) (by rw [← hZ] at hYN ⊢; omega) hj
    rw [← hZ] at he hYN
    omega
  | succ d =>
    have hj0 : j = 0 := by omega
    subst hj0
    have hYX : Y = ((N / 2 ^ (d + 1) : Nat) : Int) := by rw [hY, s1]; simp
    obtain ⟨Z, hZ⟩ : ∃ Z, Z = N / 2 ^ (d + 1) := ⟨_, rfl⟩
    have he := float_end1 (n := N) (d := d) (by rw [← hZ] at hYX ⊢; omega) (by rw [← hZ] at hYX ⊢; omega)
    have ho : (Y % 2 == 1) = decide (N / 2 ^ (d + 1) % 2 = 1) := by rw [← hZ] at hYX ⊢; rw [hYX, Bool.eq_iff_iff]; simp; omega
    rw [ho, s4, s3]
    rw [← hZ] at he hYX ⊢
    omega
end Go.Proofs.Ytggfcbncjkpkgaa

namespace Go.Proofs.Ytggfcbncjkpkgaa
open Go.RowKit
set_option linter.unusedVariables false
set_option linter.unusedSimpArgs false

/-- What a value's bits turn into; its text. -/
def castN (n k k' : Int) : Int :=
  if k' = 10 then (if k ≤ 4 then (floatW n.toNat false : Nat) else if k ≤ 8 then (if 9223372036854775808 ≤ n then (floatW (18446744073709551616 - n).toNat true : Nat) else (floatW n.toNat false : Nat)) else n)
  else if k' = 8 ∧ k = 10 then IntKind.u64.wrap (wholeN n.toNat) else n
def castT (t : ByteArray) (k' g' : Int) : ByteArray := if k' = 12 then (t ++ zs g'.toNat).extract 0 g'.toNat else ⟨#[]⟩
def castE (vk n : Int) (m : Nat) (k g k' g' : Int) : Int := if rightF vk n m k g then (if castsF k g k' g' then 0 else 51) else 50
def castR (vk n : Int) (t : ByteArray) (k g k' g' : Int) : Value :=
  if castE vk n t.size k g k' g' = 0 then .tuple #[.agg #[.int .i64 k', .int .u64 (castN n k k'), .string (castT t k' g')], .int .i64 0]
  else .tuple #[.agg #[.int .i64 0, .int .u64 0, .string ⟨#[]⟩], .int .i64 (castE vk n t.size k g k' g')]
theorem castR_ok {vk n : Int} {t : ByteArray} {k g k' g' : Int} (h : rightF vk n t.size k g = true) (h' : castsF k g k' g' = true) : castR vk n t k g k' g' = .tuple #[.agg #[.int .i64 k', .int .u64 (castN n k k'), .string (castT t k' g')], .int .i64 0] := by simp [castR, castE, h, h']
theorem castR_50 {vk n : Int} {t : ByteArray} {k g k' g' : Int} (h : rightF vk n t.size k g = false) : castR vk n t k g k' g' = .tuple #[.agg #[.int .i64 0, .int .u64 0, .string ⟨#[]⟩], .int .i64 50] := by simp [castR, castE, h]
theorem castR_51 {vk n : Int} {t : ByteArray} {k g k' g' : Int} (h : rightF vk n t.size k g = true) (h' : castsF k g k' g' = false) : castR vk n t k g k' g' = .tuple #[.agg #[.int .i64 0, .int .u64 0, .string ⟨#[]⟩], .int .i64 51] := by simp [castR, castE, h, h']
theorem run_textV (k n : Int) (t : ByteArray) (w : World) : (Instr.field 37 (.agg #[.int .i64 k, .int .u64 n, .string t]) 2).run Try.prog w = .ok (.string t) w := by
  simp [Instr.field, run_underlying Try.underlying37, asAgg, part, go_sem]
theorem vb_new4 (w : World) (o o' o'' : Obj) (k n : Int) (t : ByteArray) : VB ((((w.alloc o).alloc o').alloc o'').alloc (.cells #[.int .i64 k, .int .u64 n, .string t] 37)) (w.heap.size + 1 + 1 + 1) k n t := by
  have h := vb_new3 (w.alloc o) o' o'' k n t
  rwa [World.size_alloc] at h
theorem right_size {vk n : Int} {m : Nat} {k g : Int} (h : rightF vk n m k g = true) : m ≤ 64 := by
  unfold rightF at h
  rw [Bool.and_eq_true, Bool.and_eq_true] at h
  obtain ⟨⟨h1, h2⟩, h3⟩ := h
  by_cases h12 : k = 12
  · rw [if_pos h12] at h3; subst h12
    have := may12 h1
    simp at h3; omega
  · rw [if_neg h12, Bool.and_eq_true] at h3
    have : m = 0 := by simpa using h3.1
    omega
theorem casts_may {k g k' g' : Int} (h : castsF k g k' g' = true) : mayF k g = true ∧ mayF k' g' = true := by
  unfold castsF at h
  rw [Bool.and_eq_true, Bool.and_eq_true] at h
  exact h.1
end Go.Proofs.Ytggfcbncjkpkgaa

namespace Go.Proofs.Ytggfcbncjkpkgaa
open Go.RowKit
set_option linter.unusedVariables false
set_option linter.unusedSimpArgs false

/-- What Casts asks, where both fields may be, and have so many bytes. -/
def castsP (k k' L L' : Int) : Bool :=
  if k = k' then true else if k' = 10 then amB 1 8 k else if k = 10 then decide (k' = 8) else if k = 9 ∧ amB 1 4 k' = true then decide (L ≤ L') else if k = 9 ∨ amB 1 4 k = true then amB 1 8 k' && decide (L < L') else amB 5 8 k && amB 5 8 k' && decide (L < L')
theorem castsP_eq {k g k' g' : Int} (hm : mayF k g = true) (hm' : mayF k' g' = true) : castsF k g k' g' = castsP k k' (longF k g) (longF k' g') := by
  by_cases h12 : k = 12
  · subst h12
    by_cases h12' : k' = 12
    · subst h12'; simp [castsF, castsP, hm, hm']
    · obtain ⟨rfl, h⟩ := may_cases hm' h12'
      rcases h with rfl | rfl | rfl | rfl | rfl | rfl | rfl | rfl | rfl | rfl | rfl <;> simp [castsF, castsP, hm, hm', amB]
  · obtain ⟨rfl, h⟩ := may_cases hm h12
    by_cases h12' : k' = 12
    · subst h12'
      rcases h with rfl | rfl | rfl | rfl | rfl | rfl | rfl | rfl | rfl | rfl | rfl <;> simp [castsF, castsP, hm, hm', amB]
    · obtain ⟨rfl, h'⟩ := may_cases hm' h12'
      rcases h with rfl | rfl | rfl | rfl | rfl | rfl | rfl | rfl | rfl | rfl | rfl <;> rcases h' with rfl | rfl | rfl | rfl | rfl | rfl | rfl | rfl | rfl | rfl | rfl <;> decide
end Go.Proofs.Ytggfcbncjkpkgaa

namespace Go.Proofs.Ytggfcbncjkpkgaa
open Go.RowKit
set_option linter.unusedVariables false
set_option linter.unusedSimpArgs false

theorem castT_cut {t : ByteArray} {k' g' : Int} (hm : mayF k' g' = true) : castT t k' g' = cutT t g'.toNat := by
  unfold castT
  by_cases h12 : k' = 12
  · rw [if_pos h12]
    obtain ⟨⟨l⟩⟩ := t
    show (ByteArray.mk l.toArray ++ zs g'.toNat).extract 0 g'.toNat = _
    unfold zs
    rw [ByteArray.mk_append_mk]
    try rw [List.append_toArray]
    rw [ext_at]
    simp [cutT, cutL]
  · rw [if_neg h12, (may_cases hm h12).1]
    exact (cutT_zero t).symm
theorem castN_fl {n k : Int} (hn : U64 n) (h : amB 1 8 k = true) : castN n k 10 = (flB n k : Nat) := by
  have hn1 := hn.1
  have hn2 := hn.2
  rw [pw8] at hn2
  have hk : 1 ≤ k ∧ k ≤ 8 := by simp [amB] at h; omega
  unfold castN flB
  rw [if_pos rfl]
  by_cases h4 : k ≤ 4
  · have : amB 5 8 k = false := by simp [amB]; omega
    rw [if_pos h4, this, if_neg (by decide)]
  · have : amB 5 8 k = true := by simp [amB]; omega
    rw [if_neg h4, if_pos hk.2, this, if_pos rfl]
    by_cases h63 : 9223372036854775808 ≤ n
    · have e : wrap64 n = n - 18446744073709551616 := by unfold wrap64; omega
      rw [if_pos h63, e, show (n - 18446744073709551616).natAbs = (18446744073709551616 - n).toNat by omega, decide_eq_true (by omega)]
    · have e : wrap64 n = n := by unfold wrap64; omega
      rw [if_neg h63, e, show n.natAbs = n.toNat by omega, decide_eq_false (by omega)]
theorem right_kind {vk n : Int} {m : Nat} {k g : Int} (h : rightF vk n m k g = true) : vk = k ∧ mayF k g = true := by
  unfold rightF at h; simp at h; exact ⟨h.1.2, h.1.1⟩
end Go.Proofs.Ytggfcbncjkpkgaa

namespace Go.Proofs.Ytggfcbncjkpkgaa
open Go.RowKit
set_option linter.unusedVariables false
set_option linter.unusedSimpArgs false

theorem al_cast : castR 5 18446744073709551615 ⟨#[]⟩ 5 0 7 0 = .tuple #[.agg #[.int .i64 7, .int .u64 18446744073709551615, .string ⟨#[]⟩], .int .i64 0] := by
  rw [castR_ok (by decide) (by decide)]; rfl
theorem al_enc : (encT 7 18446744073709551615 ⟨#[]⟩ 7 0).toList = [255, 255, 255, 255] ∧ encE 7 18446744073709551615 ⟨#[]⟩ 7 0 = 0 := by
  have h : rightF 7 18446744073709551615 (ByteArray.size ⟨#[]⟩) 7 0 = true := by decide
  refine ⟨?_, by simp [encE, h]⟩
  rw [ByteArray.toList_eq, show encT 7 18446744073709551615 ⟨#[]⟩ 7 0 = encL 18446744073709551615 ⟨#[]⟩ 7 0 by simp [encT, h]]
  decide
theorem al_whole : wholeN 13837084675114480435 = -2 ∧ wholeN 9094988921128908188 = 9223372036854775807 := by decide

end Go.Proofs.Ytggfcbncjkpkgaa
