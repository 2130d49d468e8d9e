/-
  What the calls of a catalogue may turn; a catalogue in memory.
  The document's types in memory: rows of fields, of tables, of types.
  A history's methods: newest, fields, since; begin; has.
  The versions of a history from one on; a history of one version.
  The keys of a map with names as keys; names in order.
-/
import Derived.Test.YtaegencmnmjgbaaGreatM31
import Derived.Test.YtaegencmnmjgbaaGreatM4
import Derived.Deep.Cut
import Derived.BigQuiet
import Derived.Test.YtaegencmnmjgbaaGreatM30
import Derived.Sort.KeysCollected

namespace Go.Proofs.YtaegencmnmjgbaaGreat
open Go.RowKit Go.Maps
set_option linter.unusedVariables false
set_option linter.unusedSimpArgs false
def MapB (w : World) (b : Nat) : Prop := ∃ es c, w.heap[b]? = some (.map es c)
def TuB (w : World) (b : Nat) : Prop := (∃ cap ps, TRow w b cap ps) ∨ MapB w b
structure FrG (G : Nat → Prop) (w w' : World) : Prop where
  os : w'.os = w.os
  tape : w'.tape = w.tape
  output : w'.output = w.output
  size : w.heap.size ≤ w'.heap.size
  blk : ∀ b, b < w.heap.size → ¬ G b → w'.heap[b]? = w.heap[b]?
  sl : ∀ b, G b → TuB w b
section
variable {G G' : Nat → Prop} {w w' w2 : World} {b B : Nat}
theorem TuB.isSl {i : Nat} {v : Value} (h : TuB w b) (hc : w.cell? ⟨b, i, none⟩ = some v) : slv v := by
  rcases h with ⟨cap, ps, h⟩ | ⟨es, c, h⟩
  · exact h.isSl hc
  · simp [World.cell?, h] at hc
theorem FrG.below (h : Below w.heap.size w w') (hs : ∀ b, G b → TuB w b) : FrG G w w' := ⟨h.os, h.tape, h.output, h.size, fun b hb _ => h.block b hb, hs⟩
theorem FrG.trans (h : FrG G w w') (k : FrG G' w' w2) (hg : ∀ b, G' b → G b ∨ w.heap.size ≤ b) : FrG G w w2 :=
  ⟨k.os.trans h.os, k.tape.trans h.tape, k.output.trans h.output, Nat.le_trans h.size k.size, fun b hb hn => (k.blk b (Nat.lt_of_lt_of_le hb h.size) (fun e => by
    rcases hg b e with e | e
    · exact hn e
    · omega)).trans (h.blk b hb hn), h.sl⟩
theorem FrG.on (h : FrG G w w') (k : Below w'.heap.size w' w2) : FrG G w w2 :=
  ⟨k.os.trans h.os, k.tape.trans h.tape, k.output.trans h.output, Nat.le_trans h.size k.size, fun b hb hn => (k.block b (Nat.lt_of_lt_of_le hb h.size)).trans (h.blk b hb hn), h.sl⟩
theorem FrG.base (h : FrG G w w') (hB : ∀ b, G b → B ≤ b) (hw : B ≤ w.heap.size) : Below B w w' :=
  ⟨h.os, h.tape, h.output, h.size, fun k hk => h.blk k (Nat.lt_of_lt_of_le hk hw) (fun e => by have := hB k e; omega)⟩
theorem FrG.cellB (h : FrG G w w') {i : Nat} {v : Value} (hc : w.cell? ⟨b, i, none⟩ = some v) (hv : ¬ slv v) : w'.heap[b]? = w.heap[b]? := by
  by_cases hb : b < w.heap.size
  · exact h.blk b hb (fun e => hv ((h.sl b e).isSl hc))
  · rw [World.cell?, Array.getElem?_eq_none (by show w.heap.size ≤ b; omega)] at hc; cases hc
theorem cell_cong {p : Addr} (h : w'.heap[p.block]? = w.heap[p.block]?) : w'.cell? p = w.cell? p := by unfold World.cell?; rw [h]
theorem RdF.fr {n c : Nat} {A : Option Addr} {l : List Fd} (h : RdF w w.heap.size A n c l) (k : FrG G w w') : RdF w' w'.heap.size A n c l := by
  refine ⟨h.1, h.2.1, h.2.2.1, h.2.2.2.1, fun hn => ?_⟩
  obtain ⟨b, off, e, hlt, hc⟩ := h.2.2.2.2 hn
  have h0 := hc 0 (by have := h.1; omega)
  rw [Nat.zero_mul, Nat.add_zero] at h0
  have hb := k.cellB h0.1 (fun ⟨_, _, _, e⟩ => by cases e)
  refine ⟨b, off, e, Nat.lt_of_lt_of_le hlt k.size, fun i hi => ?_⟩
  obtain ⟨c1, c2, c3⟩ := hc i hi
  exact ⟨(cell_cong (p := ⟨b, _, none⟩) hb).trans c1, (cell_cong (p := ⟨b, _, none⟩) hb).trans c2, (cell_cong (p := ⟨b, _, none⟩) hb).trans c3⟩
theorem RdM.fr {n c : Nat} {A : Option Addr} {l : List Mv} (h : RdM w w.heap.size A n c l) (k : FrG G w w') : RdM w' w'.heap.size A n c l := by
  refine ⟨h.1, h.2.1, h.2.2.1, h.2.2.2.1, fun hn => ?_⟩
  obtain ⟨b, off, e, hlt, hc⟩ := h.2.2.2.2 hn
  have h0 := hc 0 (by have := h.1; omega)
  rw [Nat.zero_mul, Nat.add_zero] at h0
  have hb := k.cellB h0.1 (fun ⟨_, _, _, e⟩ => by cases e)
  refine ⟨b, off, e, Nat.lt_of_lt_of_le hlt k.size, fun i hi => ?_⟩
  obtain ⟨c1, c2, c3, c4⟩ := hc i hi
  exact ⟨(cell_cong (p := ⟨b, _, none⟩) hb).trans c1, (cell_cong (p := ⟨b, _, none⟩) hb).trans c2, (cell_cong (p := ⟨b, _, none⟩) hb).trans c3, (cell_cong (p := ⟨b, _, none⟩) hb).trans c4⟩
theorem RdT.fr {v : Value} {T : Tb} (h : RdT w w.heap.size v T) (k : FrG G w w') : RdT w' w'.heap.size v T := by
  obtain ⟨A, n, c, A2, n2, c2, A3, n3, c3, e, h1, h2, h3⟩ := h
  exact ⟨A, n, c, A2, n2, c2, A3, n3, c3, e, h1.fr k, h2.fr k, h3.fr k⟩
end
def verL (t : Ty) : List Tb := ⟨[], t.fs.headD [], []⟩ :: t.ts
theorem verL_length (t : Ty) : (verL t).length = t.ts.length + 1 := rfl
theorem verL_nw {t : Ty} (h : okTy t) {i : Nat} {T : Tb} (hi : (verL t)[i]? = some T) : t.fs[i]? = some T.nw := by
  cases i with
  | zero =>
    have hl := h.2.2.2.1
    simp [verL] at hi
    subst hi
    cases hf : t.fs with
    | nil => rw [hf] at hl; simp at hl
    | cons a l => simp
  | succ i =>
    have : t.ts[i]? = some T := by simpa [verL] using hi
    exact (h.2.2.2.2.2 i T this).2.2.2
theorem verL_more (t : Ty) (T : Tb) (h : t.fs ≠ []) : verL (moreT t T) = verL t ++ [T] := by
  cases hf : t.fs with
  | nil => exact absurd hf h
  | cons a l => simp [verL, moreT, hf]
def hV (lo : Int) (A : Option Addr) (n c : Nat) : Value := .agg #[.int .i64 lo, .slice A n c]
def loO : Option Ty → Int | none => 0 | some t => t.lo
def verO : Option Ty → List Tb | none => [] | some t => verL t
structure Hist (w : World) (lo : Int) (A : Option Addr) (n c : Nat) (o : Option Ty) : Prop where
  lo : lo = loO o
  rd : RdTb w w.heap.size A n c (verO o)
theorem Hist.on {w w' : World} {lo : Int} {A : Option Addr} {n c : Nat} {o : Option Ty} (h : Hist w lo A n c o) (hb : Below w.heap.size w w') : Hist w' lo A n c o := ⟨h.lo, h.rd.on hb⟩
theorem loO_ok {o : Option Ty} (h : ∀ t, o = some t → okTy t) : 0 ≤ loO o ∧ loO o ≤ 64 ∧ (verO o).length ≤ 64 ∧ loO o + ((verO o).length : Int) - 1 ≤ 64 := by
  cases o with
  | none => simp [loO, verO]
  | some t =>
    obtain ⟨_, h1, h2, h3, _⟩ := h t rfl
    unfold Ty.hi at h2
    show 0 ≤ t.lo ∧ t.lo ≤ 64 ∧ (verL t).length ≤ 64 ∧ t.lo + ((verL t).length : Int) - 1 ≤ 64
    rw [verL_length]; omega
def sinceL (o : Option Ty) (v : Int) : List Tb := if v < loO o ∨ loO o + ((verO o).length : Int) - 1 < v then [] else (verO o).drop (v - loO o).toNat
structure Pl where
  g : Nat
  cap : Nat
  ps : List V3
def catF (l : List Ty) (r : List UInt8 → Pl) : List UInt8 → Option Value := fun k => (atT l k).map fun t => hV t.lo (some ⟨(r k).g, 0, none⟩) (t.ts.length + 1) (r k).cap
structure Ver (w : World) (p : Pl) (t : Ty) : Prop where
  row : TRow w p.g p.cap p.ps
  len : p.ps.length = t.ts.length + 1
  rd : ∀ (i : Nat) q T, p.ps[i]? = some q → (verL t)[i]? = some T → RdT w w.heap.size (.agg #[q.1, q.2.1, q.2.2]) T
structure Cat (w : World) (c mb n B : Nat) (r : List UInt8 → Pl) (l : List Ty) : Prop where
  ok : okC l
  box : w.heap[c]? = some (.cells #[.map (some mb)] 86 (0, 0))
  mp : Ms w mb n (catF l r)
  lo : B ≤ mb ∧ B ≤ c
  ver : ∀ t ∈ l, Ver w (r t.nm) t ∧ B ≤ (r t.nm).g
  inj : ∀ t ∈ l, ∀ u ∈ l, (r t.nm).g = (r u.nm).g → t.nm = u.nm
def catG (mb : Nat) (r : List UInt8 → Pl) (l : List Ty) : Nat → Prop := fun b => b = mb ∨ ∃ t ∈ l, b = (r t.nm).g
section
variable {w w' : World} {c mb n B : Nat} {r : List UInt8 → Pl} {l : List Ty} {p : Pl} {t : Ty}
theorem Ver.on (h : Ver w p t) (hb : Below w.heap.size w w') : Ver w' p t := ⟨h.row.cong (hb.block _ h.row.lt), h.len, fun i q T h1 h2 => (h.rd i q T h1 h2).on hb⟩
theorem Cat.on (h : Cat w c mb n B r l) (hb : Below w.heap.size w w') : Cat w' c mb n B r l :=
  ⟨h.ok, (hb.block _ (row_lt h.box)).trans h.box, h.mp.cong (hb.block _ h.mp.lt), h.lo, fun t ht => ⟨(h.ver t ht).1.on hb, (h.ver t ht).2⟩, h.inj⟩
theorem Cat.sl (h : Cat w c mb n B r l) : ∀ b, catG mb r l b → TuB w b := by
  rintro b (rfl | ⟨t, ht, rfl⟩)
  · exact .inr h.mp.isMap
  · exact .inl ⟨_, _, (h.ver t ht).1.row⟩
theorem Cat.base (h : Cat w c mb n B r l) : ∀ b, catG mb r l b → B ≤ b := by
  rintro b (rfl | ⟨t, ht, rfl⟩)
  · exact h.lo.1
  · exact (h.ver t ht).2
theorem Ver.hist (h : Ver w p t) (ht : okTy t) : RdTb w w.heap.size (some ⟨p.g, 0, none⟩) (t.ts.length + 1) p.cap (verL t) := by
  refine ⟨rfl, by rw [← h.len]; exact h.row.1, h.row.2.1, fun _ => ⟨p.g, 0, rfl, h.row.lt, fun i T hi => ?_⟩⟩
  obtain ⟨q, hq⟩ : ∃ q, p.ps[i]? = some q := ⟨_, List.getElem?_eq_getElem (by have := (List.getElem?_eq_some_iff.1 hi).1; rw [verL_length] at this; rw [h.len]; exact this)⟩
  obtain ⟨c1, c2, c3⟩ := h.row.at hq
  rw [Nat.zero_add]
  exact ⟨_, _, _, c1, c2, c3, h.rd i q T hq hi⟩
theorem Cat.look (h : Cat w c mb n B r l) (k : List UInt8) : ∃ lo A m cp, (catF l r k).getD (hV 0 none 0 0) = hV lo A m cp ∧ Hist w lo A m cp (atT l k) ∧ (catF l r k).isSome = (atT l k).isSome := by
  unfold catF
  cases ha : atT l k with
  | none => exact ⟨0, none, 0, 0, rfl, ⟨rfl, RdTb.nil _ _⟩, rfl⟩
  | some t =>
    obtain ⟨h1, rfl⟩ := atT_some ha
    exact ⟨_, _, _, _, rfl, ⟨rfl, (h.ver t h1).1.hist (h.ok.2.2 t h1)⟩, rfl⟩
theorem Cat.okO (h : Cat w c mb n B r l) (k : List UInt8) : ∀ t, atT l k = some t → okTy t := fun t ht => h.ok.2.2 t (atT_some ht).1
end
end Go.Proofs.YtaegencmnmjgbaaGreat

namespace Go.Proofs.YtaegencmnmjgbaaGreat
open Go.RowKit Go.Maps
set_option linter.unusedVariables false
set_option linter.unusedSimpArgs false
abbrev TyP := Ty × Value × Value
end Go.Proofs.YtaegencmnmjgbaaGreat

namespace Go.Proofs.YtaegencmnmjgbaaGreat
open Go.RowKit Go.Maps
set_option linter.unusedVariables false
set_option linter.unusedSimpArgs false
def HBx (w : World) (b : Nat) (lo : Int) (A : Option Addr) (n c : Nat) : Prop := w.heap[b]? = some (.cells #[.int .i64 lo, .slice A n c] 83 (0, 0))
section
variable {w w' : World} {b : Nat} {lo : Int} {A : Option Addr} {n c : Nat}
theorem HBx.on (h : HBx w b lo A n c) (hb : Below w.heap.size w w') : HBx w' b lo A n c := (hb.block b (row_lt h)).trans h
theorem HBx.cells (h : HBx w b lo A n c) : w.cell? ⟨b, 0, none⟩ = some (.int .i64 lo) ∧ w.cell? ⟨b, 1, none⟩ = some (.slice A n c) := ⟨row_cell h 0, row_cell h 1⟩
theorem HBx.frozen (h : HBx w b lo A n c) (i : Nat) : w.frozen? ⟨b, i, none⟩ = false := row_frozen h i
theorem HBx.new (w : World) (lo : Int) (A : Option Addr) (n c : Nat) : HBx (w.alloc (.cells #[.int .i64 lo, .slice A n c] 83)) w.heap.size lo A n c := heap_alloc_new w _
end
set_option maxHeartbeats 2000000 in
theorem newest_any {w : World} {lo : Int} {A : Option Addr} {n c : Nat} (h0 : 0 ≤ lo ∧ lo ≤ 1000) (hn : n ≤ 1000) :
    Calls Tryz.prog 32 #[hV lo A n c] w fun e w' => e = .returned (.int .i64 (lo + n - 1)) ∧ Below w.heap.size w w' := by
  have hni : (n : Int) ≤ 1000 := by omega
  have hn0 : (0 : Int) ≤ n := by omega
  obtain ⟨h1, h2⟩ := h0
  unfold hV
  go_enter Tryz.func32, Tryz.ntmps32
  go_wp2_with fail
  go_ret
  exact ⟨rfl, B1 _ _⟩
set_option maxHeartbeats 2000000 in
theorem has_any {w : World} {c mb n B : Nat} {r : List UInt8 → Pl} {l : List Ty} (h : Cat w c mb n B r l) (k : List UInt8) (hk : SK k) :
    Calls Tryz.prog 31 #[.pointer (some ⟨c, 0, none⟩), .string (bs k)] w fun e w' => e = .returned (.bool (atT l k).isSome) ∧ Below w.heap.size w w' := by
  have c0 : w.cell? ⟨c, 0, none⟩ = some (.map (some mb)) := row_cell h.box 0
  obtain ⟨lo, A, m, cp, e1, e2, e3⟩ := h.look k
  have hl := h.mp.look_ok Tryz.underlying84 (Tryz.zeroValue83 w) hk
  change (Instr.lookup 84 (.map (some mb)) (.string (bs k)) true).run Tryz.prog w = .ok (.tuple #[(catF l r k).getD (hV 0 none 0 0), .bool (catF l r k).isSome]) w at hl
  rw [e1, e3] at hl
  unfold hV at hl
  clear e1 e2 e3
  go_enter Tryz.func31, Tryz.ntmps31
  go_wp2_with fail
  go_ret
  exact ⟨rfl, B1 _ _⟩
set_option maxHeartbeats 2000000 in
theorem hfields_any {w : World} {lo : Int} {A : Option Addr} {n c : Nat} {t : Ty} (h : Hist w lo A n c (some t)) (ht : okTy t) :
    Calls Tryz.prog 64 #[hV lo A n c] w fun e w' => ∃ A2 n2 c2, e = .returned (.slice A2 n2 c2) ∧ RdF w' w'.heap.size A2 n2 c2 t.last ∧ Below w.heap.size w w' := by
  obtain ⟨k, hk⟩ : ∃ k, k = t.ts.length := ⟨_, rfl⟩
  obtain ⟨T, hT⟩ : ∃ T, (verL t)[k]? = some T := ⟨_, List.getElem?_eq_getElem (by rw [verL_length]; omega)⟩
  have hnw := verL_nw ht hT
  have hl := ht.last.1
  rw [← hk, hnw] at hl
  have hl2 : T.nw = t.last := Option.some.inj hl
  rw [← hl2]
  clear hl hl2
  have hn : n = k + 1 := by rw [← h.rd.1, hk]; rfl
  have hk64 : k ≤ 64 := by have h1 := ht.2.2.1; have h2 := ht.2.1; unfold Ty.hi at h1; have h3 := ht.2.2.2.1; omega
  obtain ⟨_, b, off, rfl, hlt, v1, v2, v3, hr, hc⟩ := h.rd.at hT
  obtain ⟨A1, n1, c1, A2, n2, c2, A3, n3, c3, e, h1, h2, h3⟩ := hr
  cases e
  obtain ⟨d0, d1, d2⟩ := hc w (B0 w)
  obtain ⟨e0, e1, e2⟩ := hc _ (B1 w (.cells #[.int .i64 lo, .slice (some ⟨b, off, none⟩) n c] 83))
  subst hn
  have H2 := hid h2
  have hki : (k : Int) ≤ 64 := by omega
  have hk0 : (0 : Int) ≤ k := by omega
  have hcap : k + 1 ≤ c := h.rd.2.1
  clear hk hT hnw hc h1 h2 h3 h ht d0 d1 d2 hlt
  unfold hV
  go_enter Tryz.func64, Tryz.ntmps64
  go_wp2_with fail
  go_ret
  exact ⟨_, _, _, rfl, H2.out.on (B1 _ _), B1 _ _⟩
end Go.Proofs.YtaegencmnmjgbaaGreat

namespace Go.Proofs.YtaegencmnmjgbaaGreat
open Go.RowKit Go.Maps
set_option linter.unusedVariables false
set_option linter.unusedSimpArgs false
def SinceQ (w : World) (o : Option Ty) (v : Int) (e : Ending) (w' : World) : Prop := ∃ A n c, e = .returned (.slice A n c) ∧ RdTb w' w'.heap.size A n c (sinceL o v) ∧ Below w.heap.size w w'
def SinceR (w : World) (lo : Int) (A0 : Option Addr) (n0 c0 : Nat) (o : Option Ty) (v : Int) (e : Ending) (w' : World) : Prop := ∃ A n c, e = .returned (.slice A n c) ∧ (∀ W, Hist W lo A0 n0 c0 o → RdTb W W.heap.size A n c (sinceL o v)) ∧ Below w.heap.size w w'
set_option maxRecDepth 20000 in
set_option maxHeartbeats 4000000 in
theorem sinceR_any {w : World} {lo : Int} {A : Option Addr} {n c : Nat} {o : Option Ty} (h : Hist w lo A n c o) (ho : ∀ t, o = some t → okTy t) (v : Int) :
    Calls Tryz.prog 33 #[hV lo A n c, .int .i64 v] w (SinceR w lo A n c o v) := by
  obtain ⟨k1, k2, k3, k4⟩ := loO_ok ho
  have eN := h.rd.1
  have eL := h.lo
  rw [← eL] at k1 k2 k4
  rw [eN] at k3 k4
  clear eN eL
  have hni : (n : Int) ≤ 64 := by omega
  have hn0 : (0 : Int) ≤ n := by omega
  have HS : Hid (sinceL o v = if v < lo ∨ lo + (n : Int) - 1 < v then [] else (verO o).drop (v - lo).toNat) := by
    unfold sinceL; rw [h.lo, ← h.rd.1]; exact hid rfl
  obtain ⟨w0, hw0⟩ : ∃ w0, w0 = w.alloc (.cells #[.int .i64 lo, .slice A n c] 83) := ⟨_, rfl⟩
  obtain ⟨p0, hp0⟩ : ∃ p0, p0 = w.heap.size := ⟨_, rfl⟩
  have HW0 := hid hw0; have HP0 := hid hp0
  have HB0 : Hid (Below w.heap.size w w0) := by rw [hw0]; exact hid (B1 _ _)
  have HX0 : Hid (HBx w0 p0 lo A n c) := by rw [hw0, hp0]; exact hid (HBx.new _ _ _ _ _)
  have H0 : Hid (Hist w0 lo A n c o) := hid (h.on HB0.out)
  have HCC : Hid (n ≤ c) := hid h.rd.2.1
  have HCM : Hid (c ≤ maxLen) := hid h.rd.2.2.1
  clear h ho hw0 hp0
  unfold hV
  go_enter Tryz.func33, Tryz.ntmps33
  go_upto_region 1 with fail
  rw [← HW0.out, ← HP0.out]
  obtain ⟨c0, c1⟩ := HX0.out.cells
  by_cases g1 : v < lo
  · have t1 : decide (v < lo) = true := decide_eq_true g1
    have HE : Hid (sinceL o v = []) := by rw [HS.out, if_pos (.inl g1)]; exact hid rfl
    clear g1
    go_wp2_with fail
    go_ret
    exact ⟨_, _, _, rfl, fun W hW => by rw [HE.out]; exact RdTb.nil _ _, HB0.out⟩
  · have t1 : decide (v < lo) = false := decide_eq_false g1
    go_wp2_with fail
    refine (newest_any ⟨k1, by omega⟩ (by omega)).mono ?_
    rintro e w1 ⟨rfl, hb1⟩
    have HB1 := hid hb1
    have HX1 := hid (HX0.out.on hb1)
    clear c0 c1 hb1
    obtain ⟨c0, c1⟩ := HX1.out.cells
    by_cases g2 : lo + (n : Int) - 1 < v
    · have t2 : decide (lo + (n : Int) - 1 < v) = true := decide_eq_true g2
      have HE : Hid (sinceL o v = []) := by rw [HS.out, if_pos (.inr g2)]; exact hid rfl
      clear g2
      go_wp2_with fail
      go_ret
      exact ⟨_, _, _, rfl, fun W hW => by rw [HE.out]; exact RdTb.nil _ _, Bt HB0.out HB1.out⟩
    · have t2 : decide (lo + (n : Int) - 1 < v) = false := decide_eq_false g2
      obtain ⟨k, hk⟩ : ∃ k : Nat, v = lo + (k : Int) := ⟨(v - lo).toNat, by omega⟩
      have hkn : k < n := by omega
      have HE : Hid (sinceL o v = (verO o).drop k) := by
        rw [HS.out, if_neg (by omega)]
        have : (v - lo).toNat = k := by omega
        rw [this]; exact hid rfl
      obtain ⟨b, off, rfl, hlt, -⟩ := H0.out.rd.2.2.2 (by omega)
      have hki : (k : Int) < n := by omega
      have hk0 : (0 : Int) ≤ k := by omega
      clear g1 g2
      go_upto_region 3 with fail
      go_region
      go_wp2_with fail
      go_ret
      have ek : (lo + (k : Int) - lo).toNat = k := by omega
      refine ⟨_, _, _, rfl, fun W hW => ?_, Bt HB0.out (Bt HB1.out (Below.drew (B0 w1)))⟩
      rw [HE.out, ek]
      exact hW.rd.drop hkn (Nat.le_refl _) (by have := HCC.out; have := HCM.out; omega) rfl
theorem since_any {w : World} {lo : Int} {A : Option Addr} {n c : Nat} {o : Option Ty} (h : Hist w lo A n c o) (ho : ∀ t, o = some t → okTy t) (v : Int) :
    Calls Tryz.prog 33 #[hV lo A n c, .int .i64 v] w (SinceQ w o v) :=
  (sinceR_any h ho v).mono fun e w' ⟨A', n', c', he, hr, hb⟩ => ⟨A', n', c', he, hr w' (h.on hb), hb⟩
def BegQ (w : World) (v : Int) (x : Value) (e : Ending) (w' : World) : Prop := ∃ g, e = .returned (hV v (some ⟨g, 0, none⟩) 1 1) ∧ w.heap.size ≤ g ∧ TRow w' g 1 [(.slice none 0 0, x, .slice none 0 0)] ∧ Below w.heap.size w w'
theorem TRow.one {w : World} {g : Nat} {x : Value} (hx : slv x) (h : w.heap[g]? = some (.cells #[.slice none 0 0, x, .slice none 0 0] 92 (0, 0))) : TRow w g 1 [(.slice none 0 0, x, .slice none 0 0)] :=
  ⟨by simp, by simp [maxLen], _, h, rfl, rfl, fun v hv => by
    simp at hv
    rcases hv with rfl | rfl | rfl
    · exact slv_nil
    · exact hx
    · exact slv_nil⟩
theorem ret_HB {fn : Func} {p : Tmp} (hf : fn.results = #[.cell p 83]) {R : Ending → World → Prop} {a : Act} {w : World} {b : Nat} {lo : Int} {A : Option Addr} {n c : Nat} (hp : a.tmps.getD p undef = .pointer (some ⟨b, 0, none⟩)) (hv : HBx w b lo A n c)
    (hd : a.defers = []) (hR : R (.returned (hV lo A n c)) w) : bodyPost Tryz.prog fn R .ret a w :=
  bodyPost_ret_by (results_cell_row hf a.tmps w b 83 _ (0, 0) _ hp hv Tryz.underlying83 rfl (by kernel_rfl)) hd hR
set_option maxHeartbeats 2000000 in
theorem begin_any {w : World} (v : Int) (A : Option Addr) (n c : Nat) :
    Calls Tryz.prog 63 #[.int .i64 v, .slice A n c] w (BegQ w v (.slice A n c)) := by
  obtain ⟨w0, hw0⟩ : ∃ w0, w0 = w.alloc (.cells #[.int .i64 0, .slice none 0 0] 83) := ⟨_, rfl⟩
  obtain ⟨p0, hp0⟩ : ∃ p0, p0 = w.heap.size := ⟨_, rfl⟩
  have HW0 := hid hw0; have HP0 := hid hp0
  have HB0 : Hid (Below w.heap.size w w0) := by rw [hw0]; exact hid (B1 _ _)
  have HX0 : Hid (HBx w0 p0 0 none 0 0) := by rw [hw0, hp0]; exact hid (HBx.new _ _ _ _ _)
  obtain ⟨g, hg⟩ : ∃ g, g = w0.heap.size := ⟨_, rfl⟩
  obtain ⟨w1, hw1⟩ : ∃ w1, w1 = (w0.setCell ⟨p0, 0, none⟩ (.int .i64 v)).setCell ⟨p0, 1, none⟩ (.slice (some ⟨g, 0, none⟩) 1 1) := ⟨_, rfl⟩
  obtain ⟨w2, hw2⟩ : ∃ w2, w2 = w1.alloc (.cells #[.slice none 0 0, .slice A n c, .slice none 0 0] 92) := ⟨_, rfl⟩
  have HW1 := hid hw1; have HG := hid hg; have HW2 := hid hw2
  have HS1 : Hid (w1.heap.size = g) := by rw [hw1, hg]; exact hid (by simp)
  have HB1 : Hid (Below w.heap.size w w1) := by rw [hw1]; exact hid ((HB0.out.setCell (p := ⟨p0, 0, none⟩) (by show w.heap.size ≤ p0; omega) _).setCell (p := ⟨p0, 1, none⟩) (by show w.heap.size ≤ p0; omega) _)
  have HX1 : Hid (HBx w1 p0 v (some ⟨g, 0, none⟩) 1 1) := by rw [hw1]; exact hid (row_set (row_set HX0.out 0 _) 1 _)
  have HR2 : Hid (w2.heap[g]? = some (.cells #[.slice none 0 0, .slice A n c, .slice none 0 0] 92 (0, 0))) := by rw [hw2, ← HS1.out]; exact hid (heap_alloc_new _ _)
  have HX2 : Hid (HBx w2 p0 v (some ⟨g, 0, none⟩) 1 1) := by rw [hw2]; exact hid (HX1.out.on (B1 _ _))
  have HB2 : Hid (Below w.heap.size w w2) := by rw [hw2]; exact hid (Ba HB1.out _)
  have HGW : Hid (w.heap.size ≤ g) := hid (by rw [hg]; exact HB0.out.size)
  clear hw0 hp0 hw1 hg hw2
  obtain ⟨c0, c1⟩ := HX0.out.cells
  have f0 := HX0.out.frozen 0
  have f1 := HX0.out.frozen 1
  have hlt := row_lt HX0.out
  go_enter Tryz.func63, Tryz.ntmps63
  go_upto_region 1 with fail
  rw [← HW0.out, ← HP0.out]
  go_wp2_with fail
  rw [← HG.out, ← HW1.out, ← HW2.out]
  exact ret_HB (by rfl) (by rfl) HX2.out (by rfl) ⟨g, rfl, HGW.out, TRow.one ⟨_, _, _, rfl⟩ HR2.out, HB2.out⟩
end Go.Proofs.YtaegencmnmjgbaaGreat

namespace Go.Proofs.YtaegencmnmjgbaaGreat
open Go.RowKit Go.Maps
set_option linter.unusedVariables false
theorem ahead_le : ∀ {a b : List UInt8}, ahead a b = true → a ≤ b
  | [], _, _ => List.nil_le _
  | x :: a, [], h => by rw [ahead_nil] at h; cases h
  | x :: a, y :: b, h => by
    rcases ahead_cons.1 h with h1 | ⟨h2, h1⟩
    · exact List.cons_le_cons_iff.2 (.inl h1)
    · exact List.cons_le_cons_iff.2 (.inr ⟨h2, ahead_le h1⟩)
theorem rise_nodup {l : List Ty} (h : rise l) : (l.map Ty.nm).Nodup := List.pairwise_map.2 (h.imp (fun h => ahead_ne h))
theorem atT_isSome {l : List Ty} {k : List UInt8} : (atT l k).isSome = true ↔ k ∈ l.map Ty.nm := by
  rw [List.mem_map]
  constructor
  · intro h
    cases ha : atT l k with
    | none => rw [ha] at h; cases h
    | some t => obtain ⟨h1, h2⟩ := atT_some ha; exact ⟨t, h1, h2⟩
  · rintro ⟨t, ht, rfl⟩
    cases ha : atT l t.nm with
    | none => exact absurd rfl (atT_none ha t ht)
    | some u => rfl
theorem rise_sorted {l : List Ty} (h : rise l) {ss : List (List UInt8)} (hp : ss.Perm (l.map Ty.nm)) : ss.mergeSort leB = l.map Ty.nm := by
  rw [mergeSort_of_perm hp]
  exact List.mergeSort_of_pairwise (List.pairwise_map.2 (h.imp (fun h => by simp only [leB, decide_eq_true_eq]; exact ahead_le h)))
theorem Ms.keys {w : World} {b n : Nat} {f : List UInt8 → Option Value} (h : Ms w b n f) : ∃ D : DataW Value, w.ownsMap Tryz.prog 9 RV b n D ∧
    ∀ ks : List (List UInt8), ks.Nodup → (∀ x, x ∈ ks ↔ (f x).isSome = true) → ks.Perm (strKeys D) ∧ Maps.size D = ks.length := by
  obtain ⟨D, ho, h1, h2⟩ := h
  refine ⟨D, ho, fun ks hn hm => ?_⟩
  obtain ⟨es, hD, hpw, _⟩ := ho.entries kS
  obtain ⟨es', hD', hko⟩ := ho.keysOf
  obtain rfl : es = es' := by rw [hD] at hD'; simpa using hD'
  subst hD
  have hstr : ∀ p ∈ es, ∃ x : List UInt8, p.1 = .string x ∧ x.length ≤ maxLen := fun p hp => by
    obtain ⟨v, hv⟩ := hko p hp; obtain ⟨x, _, hx, hl⟩ := Maps.keyOf_str Tryz.underlying9 hv; exact ⟨x, hx, hl⟩
  have hp := perm_strKeys hpw (fun p hp => by obtain ⟨x, hx, _⟩ := hstr p hp; exact ⟨x, hx⟩) hn (fun x => by
    rw [hm x]
    by_cases hx : SK x
    · rw [has_vw (h1 x hx)]
    · constructor
      · intro hs
        cases hf : f x with
        | none => rw [hf] at hs; cases hs
        | some u => exact absurd (h2 x (by rw [hf]; simp)) hx
      · intro hs
        rw [has_eq, List.any_eq_true] at hs
        obtain ⟨p, hp, hs⟩ := hs
        obtain ⟨y, hy, hl⟩ := hstr p hp
        rw [hy] at hs
        have e : y = x := by simpa [Lit.sameKey] using hs
        subst e
        exact absurd hl hx)
  refine ⟨hp, ?_⟩
  have := hp.length_eq
  rw [this]
  simp [strKeys, Maps.size]
end Go.Proofs.YtaegencmnmjgbaaGreat
