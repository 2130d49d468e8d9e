/-
  What Fields and Upgrade of layer 9 tell, and what stays: mathematics.
  What the calls of a catalogue may turn; a catalogue in memory.
  The document's types in memory: rows of fields, of tables, of types.
  The document's Find, Newest, Fields of layer 9.
-/
import Derived.Test.YtaegencmnmjgbaaGreatM48
import Derived.Test.YtaegencmnmjgbaaGreatM6
import Derived.Deep.Cut
import Derived.BigQuiet

namespace Go.Proofs.YtaegencmnmjgbaaGreat
open Go.RowKit
set_option linter.unusedVariables false
set_option linter.unusedSimpArgs false
def fieldsT (o : Option Ty) (v : Int) : List Fd × Int :=
  match o with
  | none => ([], 90)
  | some t => if v < t.lo ∨ t.hi < v then ([], 90) else ((t.fs[(v - t.lo).toNat]?).getD [], 0)
def upV : List Tb → List Va → List Va
  | [], vs => vs
  | T :: ts, vs => upV ts (valsT T vs)
def upgT (o : Option Ty) (v : Int) (s : List UInt8) : List UInt8 × Int :=
  match o with
  | none => ([], 90)
  | some t => if v < t.lo ∨ t.hi < v then ([], 90) else match t.fs[(v - t.lo).toNat]? with
    | none => ([], 90)
    | some f => if okO s f = true then (if (v - t.lo).toNat = t.ts.length then (s, 0) else (objA t.last (upV (t.ts.drop (v - t.lo).toNat) (valO s f)), 0)) else ([], 70)
end Go.Proofs.YtaegencmnmjgbaaGreat

namespace Go.Proofs.YtaegencmnmjgbaaGreat
open Go.RowKit Go.Maps
set_option linter.unusedVariables false
set_option linter.unusedSimpArgs false
def MapB (w : World) (b : Nat) : Prop := ∃ es c, w.heap[b]? = some (.map es c)
def TuB (w : World) (b : Nat) : Prop := (∃ cap ps, TRow w b cap ps) ∨ MapB w b
structure FrG (G : Nat → Prop) (w w' : World) : Prop where
  os : w'.os = w.os
  tape : w'.tape = w.tape
  output : w'.output = w.output
  size : w.heap.size ≤ w'.heap.size
  blk : ∀ b, b < w.heap.size → ¬ G b → w'.heap[b]? = w.heap[b]?
  sl : ∀ b, G b → TuB w b
section
variable {G G' : Nat → Prop} {w w' w2 : World} {b B : Nat}
theorem TuB.isSl {i : Nat} {v : Value} (h : TuB w b) (hc : w.cell? ⟨b, i, none⟩ = some v) : slv v := by
  rcases h with ⟨cap, ps, h⟩ | ⟨es, c, h⟩
  · exact h.isSl hc
  · simp [World.cell?, h] at hc
theorem FrG.below (h : Below w.heap.size w w') (hs : ∀ b, G b → TuB w b) : FrG G w w' := ⟨h.os, h.tape, h.output, h.size, fun b hb _ => h.block b hb, hs⟩
theorem FrG.trans (h : FrG G w w') (k : FrG G' w' w2) (hg : ∀ b, G' b → G b ∨ w.heap.size ≤ b) : FrG G w w2 :=
  ⟨k.os.trans h.os, k.tape.trans h.tape, k.output.trans h.output, Nat.le_trans h.size k.size, fun b hb hn => (k.blk b (Nat.lt_of_lt_of_le hb h.size) (fun e => by
    rcases hg b e with e | e
    · exact hn e
    · omega)).trans (h.blk b hb hn), h.sl⟩
theorem FrG.on (h : FrG G w w') (k : Below w'.heap.size w' w2) : FrG G w w2 :=
  ⟨k.os.trans h.os, k.tape.trans h.tape, k.output.trans h.output, Nat.le_trans h.size k.size, fun b hb hn => (k.block b (Nat.lt_of_lt_of_le hb h.size)).trans (h.blk b hb hn), h.sl⟩
theorem FrG.base (h : FrG G w w') (hB : ∀ b, G b → B ≤ b) (hw : B ≤ w.heap.size) : Below B w w' :=
  ⟨h.os, h.tape, h.output, h.size, fun k hk => h.blk k (Nat.lt_of_lt_of_le hk hw) (fun e => by have := hB k e; omega)⟩
theorem FrG.cellB (h : FrG G w w') {i : Nat} {v : Value} (hc : w.cell? ⟨b, i, none⟩ = some v) (hv : ¬ slv v) : w'.heap[b]? = w.heap[b]? := by
  by_cases hb : b < w.heap.size
  · exact h.blk b hb (fun e => hv ((h.sl b e).isSl hc))
  · rw [World.cell?, Array.getElem?_eq_none (by show w.heap.size ≤ b; omega)] at hc; cases hc
theorem FrG.tyB (h : FrG G w w') {cs : Array Value} {ty : TypeId} {fz : Nat × Nat} (hc : w.heap[b]? = some (.cells cs ty fz)) (hne : ty ≠ 92) : w'.heap[b]? = w.heap[b]? := by
  by_cases hb : b < w.heap.size
  · refine h.blk b hb (fun e => ?_)
    rcases h.sl b e with ⟨cap, ps, _, _, cur, hg, _⟩ | ⟨es, c, hg⟩
    · rw [hc] at hg; cases hg; exact hne rfl
    · rw [hc] at hg; cases hg
  · rw [Array.getElem?_eq_none (by omega)] at hc; cases hc
theorem cell_cong {p : Addr} (h : w'.heap[p.block]? = w.heap[p.block]?) : w'.cell? p = w.cell? p := by unfold World.cell?; rw [h]
theorem RdF.fr {n c : Nat} {A : Option Addr} {l : List Fd} (h : RdF w w.heap.size A n c l) (k : FrG G w w') : RdF w' w'.heap.size A n c l := by
  refine ⟨h.1, h.2.1, h.2.2.1, h.2.2.2.1, fun hn => ?_⟩
  obtain ⟨b, off, e, hlt, hc⟩ := h.2.2.2.2 hn
  have h0 := hc 0 (by have := h.1; omega)
  rw [Nat.zero_mul, Nat.add_zero] at h0
  have hb := k.cellB h0.1 (fun ⟨_, _, _, e⟩ => by cases e)
  refine ⟨b, off, e, Nat.lt_of_lt_of_le hlt k.size, fun i hi => ?_⟩
  obtain ⟨c1, c2, c3⟩ := hc i hi
  exact ⟨(cell_cong (p := ⟨b, _, none⟩) hb).trans c1, (cell_cong (p := ⟨b, _, none⟩) hb).trans c2, (cell_cong (p := ⟨b, _, none⟩) hb).trans c3⟩
theorem RdM.fr {n c : Nat} {A : Option Addr} {l : List Mv} (h : RdM w w.heap.size A n c l) (k : FrG G w w') : RdM w' w'.heap.size A n c l := by
  refine ⟨h.1, h.2.1, h.2.2.1, h.2.2.2.1, fun hn => ?_⟩
  obtain ⟨b, off, e, hlt, hc⟩ := h.2.2.2.2 hn
  have h0 := hc 0 (by have := h.1; omega)
  rw [Nat.zero_mul, Nat.add_zero] at h0
  have hb := k.cellB h0.1 (fun ⟨_, _, _, e⟩ => by cases e)
  refine ⟨b, off, e, Nat.lt_of_lt_of_le hlt k.size, fun i hi => ?_⟩
  obtain ⟨c1, c2, c3, c4⟩ := hc i hi
  exact ⟨(cell_cong (p := ⟨b, _, none⟩) hb).trans c1, (cell_cong (p := ⟨b, _, none⟩) hb).trans c2, (cell_cong (p := ⟨b, _, none⟩) hb).trans c3, (cell_cong (p := ⟨b, _, none⟩) hb).trans c4⟩
theorem RdT.fr {v : Value} {T : Tb} (h : RdT w w.heap.size v T) (k : FrG G w w') : RdT w' w'.heap.size v T := by
  obtain ⟨A, n, c, A2, n2, c2, A3, n3, c3, e, h1, h2, h3⟩ := h
  exact ⟨A, n, c, A2, n2, c2, A3, n3, c3, e, h1.fr k, h2.fr k, h3.fr k⟩
end
def verL (t : Ty) : List Tb := ⟨[], t.fs.headD [], []⟩ :: t.ts
theorem verL_length (t : Ty) : (verL t).length = t.ts.length + 1 := rfl
theorem verL_nw {t : Ty} (h : okTy t) {i : Nat} {T : Tb} (hi : (verL t)[i]? = some T) : t.fs[i]? = some T.nw := by
  cases i with
  | zero =>
    have hl := h.2.2.2.1
    simp [verL] at hi
    subst hi
    cases hf : t.fs with
    | nil => rw [hf] at hl; simp at hl
    | cons a l => simp
  | succ i =>
    have : t.ts[i]? = some T := by simpa [verL] using hi
    exact (h.2.2.2.2.2 i T this).2.2.2
theorem verL_more (t : Ty) (T : Tb) (h : t.fs ≠ []) : verL (moreT t T) = verL t ++ [T] := by
  cases hf : t.fs with
  | nil => exact absurd hf h
  | cons a l => simp [verL, moreT, hf]
def hV (lo : Int) (A : Option Addr) (n c : Nat) : Value := .agg #[.int .i64 lo, .slice A n c]
def loO : Option Ty → Int | none => 0 | some t => t.lo
def verO : Option Ty → List Tb | none => [] | some t => verL t
structure Hist (w : World) (lo : Int) (A : Option Addr) (n c : Nat) (o : Option Ty) : Prop where
  lo : lo = loO o
  rd : RdTb w w.heap.size A n c (verO o)
theorem Hist.on {w w' : World} {lo : Int} {A : Option Addr} {n c : Nat} {o : Option Ty} (h : Hist w lo A n c o) (hb : Below w.heap.size w w') : Hist w' lo A n c o := ⟨h.lo, h.rd.on hb⟩
theorem loO_ok {o : Option Ty} (h : ∀ t, o = some t → okTy t) : 0 ≤ loO o ∧ loO o ≤ 64 ∧ (verO o).length ≤ 64 ∧ loO o + ((verO o).length : Int) - 1 ≤ 64 := by
  cases o with
  | none => simp [loO, verO]
  | some t =>
    obtain ⟨_, h1, h2, h3, _⟩ := h t rfl
    unfold Ty.hi at h2
    show 0 ≤ t.lo ∧ t.lo ≤ 64 ∧ (verL t).length ≤ 64 ∧ t.lo + ((verL t).length : Int) - 1 ≤ 64
    rw [verL_length]; omega
def sinceL (o : Option Ty) (v : Int) : List Tb := if v < loO o ∨ loO o + ((verO o).length : Int) - 1 < v then [] else (verO o).drop (v - loO o).toNat
structure Pl where
  g : Nat
  cap : Nat
  ps : List V3
def catF (l : List Ty) (r : List UInt8 → Pl) : List UInt8 → Option Value := fun k => (atT l k).map fun t => hV t.lo (some ⟨(r k).g, 0, none⟩) (t.ts.length + 1) (r k).cap
structure Ver (w : World) (p : Pl) (t : Ty) : Prop where
  row : TRow w p.g p.cap p.ps
  len : p.ps.length = t.ts.length + 1
  rd : ∀ (i : Nat) q T, p.ps[i]? = some q → (verL t)[i]? = some T → RdT w w.heap.size (.agg #[q.1, q.2.1, q.2.2]) T
structure Cat (w : World) (c mb n B : Nat) (r : List UInt8 → Pl) (l : List Ty) : Prop where
  ok : okC l
  box : w.heap[c]? = some (.cells #[.map (some mb)] 86 (0, 0))
  mp : Ms w mb n (catF l r)
  lo : B ≤ mb ∧ B ≤ c
  ver : ∀ t ∈ l, Ver w (r t.nm) t ∧ B ≤ (r t.nm).g
  inj : ∀ t ∈ l, ∀ u ∈ l, (r t.nm).g = (r u.nm).g → t.nm = u.nm
def catG (mb : Nat) (r : List UInt8 → Pl) (l : List Ty) : Nat → Prop := fun b => b = mb ∨ ∃ t ∈ l, b = (r t.nm).g
section
variable {w w' : World} {c mb n B : Nat} {r : List UInt8 → Pl} {l : List Ty} {p : Pl} {t : Ty}
theorem Ver.on (h : Ver w p t) (hb : Below w.heap.size w w') : Ver w' p t := ⟨h.row.cong (hb.block _ h.row.lt), h.len, fun i q T h1 h2 => (h.rd i q T h1 h2).on hb⟩
theorem Cat.on (h : Cat w c mb n B r l) (hb : Below w.heap.size w w') : Cat w' c mb n B r l :=
  ⟨h.ok, (hb.block _ (row_lt h.box)).trans h.box, h.mp.cong (hb.block _ h.mp.lt), h.lo, fun t ht => ⟨(h.ver t ht).1.on hb, (h.ver t ht).2⟩, h.inj⟩
theorem Cat.sl (h : Cat w c mb n B r l) : ∀ b, catG mb r l b → TuB w b := by
  rintro b (rfl | ⟨t, ht, rfl⟩)
  · exact .inr h.mp.isMap
  · exact .inl ⟨_, _, (h.ver t ht).1.row⟩
theorem Cat.base (h : Cat w c mb n B r l) : ∀ b, catG mb r l b → B ≤ b := by
  rintro b (rfl | ⟨t, ht, rfl⟩)
  · exact h.lo.1
  · exact (h.ver t ht).2
theorem Ver.hist (h : Ver w p t) (ht : okTy t) : RdTb w w.heap.size (some ⟨p.g, 0, none⟩) (t.ts.length + 1) p.cap (verL t) := by
  refine ⟨rfl, by rw [← h.len]; exact h.row.1, h.row.2.1, fun _ => ⟨p.g, 0, rfl, h.row.lt, fun i T hi => ?_⟩⟩
  obtain ⟨q, hq⟩ : ∃ q, p.ps[i]? = some q := ⟨_, List.getElem?_eq_getElem (by have := (List.getElem?_eq_some_iff.1 hi).1; rw [verL_length] at this; rw [h.len]; exact this)⟩
  obtain ⟨c1, c2, c3⟩ := h.row.at hq
  rw [Nat.zero_add]
  exact ⟨_, _, _, c1, c2, c3, h.rd i q T hq hi⟩
theorem Cat.look (h : Cat w c mb n B r l) (k : List UInt8) : ∃ lo A m cp, (catF l r k).getD (hV 0 none 0 0) = hV lo A m cp ∧ Hist w lo A m cp (atT l k) ∧ (catF l r k).isSome = (atT l k).isSome := by
  unfold catF
  cases ha : atT l k with
  | none => exact ⟨0, none, 0, 0, rfl, ⟨rfl, RdTb.nil _ _⟩, rfl⟩
  | some t =>
    obtain ⟨h1, rfl⟩ := atT_some ha
    exact ⟨_, _, _, _, rfl, ⟨rfl, (h.ver t h1).1.hist (h.ok.2.2 t h1)⟩, rfl⟩
theorem Cat.okO (h : Cat w c mb n B r l) (k : List UInt8) : ∀ t, atT l k = some t → okTy t := fun t ht => h.ok.2.2 t (atT_some ht).1
end
end Go.Proofs.YtaegencmnmjgbaaGreat

namespace Go.Proofs.YtaegencmnmjgbaaGreat
open Go.RowKit Go.Maps
set_option linter.unusedVariables false
set_option linter.unusedSimpArgs false
abbrev FsP := List Fd × Value
def fsCel (p : FsP) : List Value := [p.2]
def fsP (w : World) (B : Nat) (p : FsP) : Prop := ∃ A n c, p.2 = .slice A n c ∧ RdF w B A n c p.1
abbrev TbP := Tb × V3
def tbCel (p : TbP) : List Value := [p.2.1, p.2.2.1, p.2.2.2]
def tbP (w : World) (B : Nat) (p : TbP) : Prop := RdT w B (.agg #[p.2.1, p.2.2.1, p.2.2.2]) p.1
theorem fsPB : PB fsP := ⟨fun ⟨A, n, c, e, h⟩ hb => ⟨A, n, c, e, h.below hb⟩, fun ⟨A, n, c, e, h⟩ hb => ⟨A, n, c, e, h.more hb⟩⟩
theorem tbPB : PB tbP := ⟨fun h hb => RdT.below h hb, fun h hb => RdT.more h hb⟩
abbrev RdFs := RdG (some 32) 1 fsCel fsP
abbrev RdTs := RdG (some 110) 3 tbCel tbP
def FsL (w : World) (B : Nat) (v : Value) (L : List (List Fd)) : Prop := ∃ A n c ps, v = .slice A n c ∧ RdFs w B A n c ps ∧ ps.map Prod.fst = L
def TsL (w : World) (B : Nat) (v : Value) (L : List Tb) : Prop := ∃ A n c ps, v = .slice A n c ∧ RdTs w B A n c ps ∧ ps.map Prod.fst = L
abbrev TyP := Ty × Value × Value
def tyCel (p : TyP) : List Value := [.string (bs p.1.nm), .int .i64 p.1.lo, p.2.1, p.2.2]
def tyP (w : World) (B : Nat) (p : TyP) : Prop := FsL w B p.2.1 p.1.fs ∧ TsL w B p.2.2 p.1.ts
section
variable {w w' : World} {B B' : Nat} {v : Value} {L : List (List Fd)} {M : List Tb}
theorem FsL.below (h : FsL w B v L) (hb : Below B w w') : FsL w' B v L := by obtain ⟨A, n, c, ps, e, h, k⟩ := h; exact ⟨A, n, c, ps, e, h.below fsPB hb, k⟩
theorem FsL.more (h : FsL w B v L) (hb : B ≤ B') : FsL w B' v L := by obtain ⟨A, n, c, ps, e, h, k⟩ := h; exact ⟨A, n, c, ps, e, h.more fsPB hb, k⟩
theorem TsL.below (h : TsL w B v M) (hb : Below B w w') : TsL w' B v M := by obtain ⟨A, n, c, ps, e, h, k⟩ := h; exact ⟨A, n, c, ps, e, h.below tbPB hb, k⟩
theorem TsL.more (h : TsL w B v M) (hb : B ≤ B') : TsL w B' v M := by obtain ⟨A, n, c, ps, e, h, k⟩ := h; exact ⟨A, n, c, ps, e, h.more tbPB hb, k⟩
theorem FsL.on (h : FsL w w.heap.size v L) (hb : Below w.heap.size w w') : FsL w' w'.heap.size v L := (h.below hb).more hb.size
theorem TsL.on (h : TsL w w.heap.size v M) (hb : Below w.heap.size w w') : TsL w' w'.heap.size v M := (h.below hb).more hb.size
end
theorem tyPB : PB tyP := ⟨fun h hb => ⟨h.1.below hb, h.2.below hb⟩, fun h hb => ⟨h.1.more hb, h.2.more hb⟩⟩
abbrev RdTy := RdG (some 60) 4 tyCel tyP
def DocL (w : World) (B : Nat) (A : Option Addr) (n c : Nat) (l : List Ty) : Prop := ∃ ps, RdTy w B A n c ps ∧ ps.map Prod.fst = l
section
variable {w w' : World} {B n c : Nat} {A : Option Addr} {l : List Ty}
theorem DocL.on (h : DocL w w.heap.size A n c l) (hb : Below w.heap.size w w') : DocL w' w'.heap.size A n c l := by obtain ⟨ps, h, e⟩ := h; exact ⟨ps, h.on tyPB hb, e⟩
theorem DocL.nil (w : World) (B : Nat) : DocL w B none 0 0 [] := ⟨[], RdG.nil _ _, rfl⟩
theorem DocL.len (h : DocL w B A n c l) : l.length = n := by obtain ⟨ps, h, rfl⟩ := h; rw [List.length_map]; exact h.1
theorem DocL.at (h : DocL w w.heap.size A n c l) {i : Nat} {t : Ty} (hi : l[i]? = some t) : i < n ∧ ∃ b off v1 v2, A = some ⟨b, off, none⟩ ∧ FsL w w.heap.size v1 t.fs ∧ TsL w w.heap.size v2 t.ts ∧
    ∀ w', Below w.heap.size w w' → w'.cell? ⟨b, off + i * 4, none⟩ = some (.string (bs t.nm)) ∧ w'.cell? ⟨b, off + i * 4 + 1, none⟩ = some (.int .i64 t.lo) ∧ w'.cell? ⟨b, off + i * 4 + 2, none⟩ = some v1 ∧ w'.cell? ⟨b, off + i * 4 + 3, none⟩ = some v2 := by
  obtain ⟨ps, h, rfl⟩ := h
  rw [List.getElem?_map] at hi
  cases hp : ps[i]? with
  | none => rw [hp] at hi; cases hi
  | some p =>
    rw [hp] at hi; cases hi
    obtain ⟨h1, ⟨h2, h3⟩, b, off, e, _, hc⟩ := h.at hp
    exact ⟨h1, b, off, p.2.1, p.2.2, e, h2, h3, fun w' hb => ⟨hc w' hb 0 (by omega), hc w' hb 1 (by omega), hc w' hb 2 (by omega), hc w' hb 3 (by omega)⟩⟩
end
theorem FsL.at {w : World} {v : Value} {L : List (List Fd)} (h : FsL w w.heap.size v L) : ∃ A n c, v = .slice A n c ∧ L.length = n ∧ n ≤ c ∧ c ≤ maxLen ∧ ∀ (i : Nat) l, L[i]? = some l → i < n ∧ ∃ b off A2 n2 c2, A = some ⟨b, off, none⟩ ∧ RdF w w.heap.size A2 n2 c2 l ∧ ∀ w', Below w.heap.size w w' → w'.cell? ⟨b, off + i, none⟩ = some (.slice A2 n2 c2) := by
  obtain ⟨A, n, c, ps, rfl, h, rfl⟩ := h
  refine ⟨A, n, c, rfl, by rw [List.length_map]; exact h.1, h.2.1, h.2.2.1, fun i l hi => ?_⟩
  rw [List.getElem?_map] at hi
  cases hp : ps[i]? with
  | none => rw [hp] at hi; cases hi
  | some p =>
    rw [hp] at hi; cases hi
    obtain ⟨h1, ⟨A2, n2, c2, e2, h2⟩, b, off, e, _, hc⟩ := h.at hp
    refine ⟨h1, b, off, A2, n2, c2, e, h2, fun w' hb => ?_⟩
    have := hc w' hb 0 (by omega)
    rw [Nat.mul_one, Nat.add_zero] at this
    rw [this]; exact congrArg some e2
theorem TsL.at {w : World} {v : Value} {L : List Tb} (h : TsL w w.heap.size v L) : ∃ A n c, v = .slice A n c ∧ L.length = n ∧ n ≤ c ∧ c ≤ maxLen ∧ ∀ (i : Nat) T, L[i]? = some T → i < n ∧ ∃ b off v1 v2 v3, A = some ⟨b, off, none⟩ ∧ RdT w w.heap.size (.agg #[v1, v2, v3]) T ∧
    ∀ w', Below w.heap.size w w' → w'.cell? ⟨b, off + i * 3, none⟩ = some v1 ∧ w'.cell? ⟨b, off + i * 3 + 1, none⟩ = some v2 ∧ w'.cell? ⟨b, off + i * 3 + 2, none⟩ = some v3 := by
  obtain ⟨A, n, c, ps, rfl, h, rfl⟩ := h
  refine ⟨A, n, c, rfl, by rw [List.length_map]; exact h.1, h.2.1, h.2.2.1, fun i T hi => ?_⟩
  rw [List.getElem?_map] at hi
  cases hp : ps[i]? with
  | none => rw [hp] at hi; cases hi
  | some p =>
    rw [hp] at hi; cases hi
    obtain ⟨h1, h2, b, off, e, _, hc⟩ := h.at hp
    exact ⟨h1, b, off, p.2.1, p.2.2.1, p.2.2.2, e, h2, fun w' hb => ⟨hc w' hb 0 (by omega), hc w' hb 1 (by omega), hc w' hb 2 (by omega)⟩⟩
section
variable {G : Nat → Prop} {w w' : World}
theorem RdG.fr {α : Type} {ty : TypeId} {k : Nat} {cel : α → List Value} {P : World → Nat → α → Prop} {A : Option Addr} {n c : Nat} {l : List α} (hne : ty ≠ 92) (hP : ∀ a, P w w.heap.size a → P w' w'.heap.size a)
    (h : RdG (some ty) k cel P w w.heap.size A n c l) (hf : FrG G w w') : RdG (some ty) k cel P w' w'.heap.size A n c l :=
  ⟨h.1, h.2.1, h.2.2.1, fun a ha => hP a (h.2.2.2.1 a ha), fun hn => by
    obtain ⟨b, off, e, hlt, ht, hc⟩ := h.2.2.2.2 hn
    obtain ⟨cs, fz, h1⟩ := ht ty rfl
    have hb := hf.tyB h1 hne
    exact ⟨b, off, e, Nat.lt_of_lt_of_le hlt hf.size, fun t e => by cases e; exact ⟨cs, fz, hb.trans h1⟩, fun i a hi j hj => (cell_cong (p := ⟨b, _, none⟩) hb).trans (hc i a hi j hj)⟩⟩
theorem fsP.fr {p : FsP} (h : fsP w w.heap.size p) (hf : FrG G w w') : fsP w' w'.heap.size p := by obtain ⟨A, n, c, e, h⟩ := h; exact ⟨A, n, c, e, h.fr hf⟩
theorem FsL.fr {v : Value} {L : List (List Fd)} (h : FsL w w.heap.size v L) (hf : FrG G w w') : FsL w' w'.heap.size v L := by
  obtain ⟨A, n, c, ps, e, h, k⟩ := h; exact ⟨A, n, c, ps, e, h.fr (by decide) (fun a ha => fsP.fr ha hf) hf, k⟩
theorem TsL.fr {v : Value} {L : List Tb} (h : TsL w w.heap.size v L) (hf : FrG G w w') : TsL w' w'.heap.size v L := by
  obtain ⟨A, n, c, ps, e, h, k⟩ := h; exact ⟨A, n, c, ps, e, h.fr (by decide) (fun a ha => RdT.fr ha hf) hf, k⟩
theorem DocL.fr {A : Option Addr} {n c : Nat} {l : List Ty} (h : DocL w w.heap.size A n c l) (hf : FrG G w w') : DocL w' w'.heap.size A n c l := by
  obtain ⟨ps, h, e⟩ := h; exact ⟨ps, h.fr (by decide) (fun a ha => ⟨ha.1.fr hf, ha.2.fr hf⟩) hf, e⟩
end
end Go.Proofs.YtaegencmnmjgbaaGreat

namespace Go.Proofs.YtaegencmnmjgbaaGreat
open Go.RowKit Go.Maps
set_option linter.unusedVariables false
set_option linter.unusedSimpArgs false
def findR (l : List Ty) (nm : List UInt8) : Int := match findT l nm with | none => -1 | some k => (k : Int)
theorem findR_some {l : List Ty} {nm : List UInt8} {k : Nat} (h : findT l nm = some k) : findR l nm = k := by unfold findR; rw [h]
theorem findR_none {l : List Ty} {nm : List UInt8} (h : findT l nm = none) : findR l nm = -1 := by unfold findR; rw [h]
theorem findT_first : ∀ {l : List Ty} {nm : List UInt8} {k : Nat} {t : Ty}, l[k]? = some t → t.nm = nm → (∀ m, m < k → ∀ u, l[m]? = some u → u.nm ≠ nm) → findT l nm = some k
  | [], _, _, _, h, _, _ => by simp at h
  | x :: l, nm, 0, t, h, hn, _ => by simp at h; subst h; unfold findT; rw [if_pos hn]
  | x :: l, nm, k + 1, t, h, hn, hno => by
    unfold findT
    rw [if_neg (hno 0 (by omega) x rfl), findT_first (k := k) (by simpa using h) hn (fun m hm u hu => hno (m + 1) (by omega) u (by simpa using hu))]; rfl
theorem findT_no {l : List Ty} {nm : List UInt8} (h : ∀ (m : Nat) u, l[m]? = some u → u.nm ≠ nm) : findT l nm = none := by
  cases hf : findT l nm with
  | none => rfl
  | some k => obtain ⟨t, h1, h2, _⟩ := findT_at hf; exact absurd h2 (h k t h1)
set_option maxHeartbeats 2000000 in
theorem r9find_any {w : World} {A : Option Addr} {n c : Nat} {l : List Ty} (h : DocL w w.heap.size A n c l) (hn : n ≤ 1000) (nm : List UInt8) :
    Calls Tryz.prog 45 #[.slice A n c, .string (bs nm)] w fun e w' => e = .returned (.int .i64 (findR l nm)) ∧ Below w.heap.size w w' := by
  have HL := hid h.len
  have hnm : (n : Int) ≤ 1000 := by omega
  have H := hid h; clear h
  go_enter Tryz.func45, Tryz.ntmps45
  go_wp2_with fail
  go_loopw [5] (fun i wr => ∃ j : Nat, j ≤ n ∧ i = .int .i64 j ∧ Hid (∀ m, m < j → ∀ u, l[m]? = some u → u.nm ≠ nm) ∧ Hid (Below w.heap.size w wr)) (fun i _ => n - (intOf i).toNat)
  case atStart => exact ⟨0, by omega, rfl, hid (fun m hm => absurd hm (by omega)), B0 w⟩
  case round =>
    obtain ⟨j, hj, rfl, HN, hb⟩ := hrel
    by_cases hlt : j < n
    · have hjl : j < l.length := by have := HL.out; omega
      obtain ⟨t, ht⟩ : ∃ t, l[j]? = some t := ⟨_, List.getElem?_eq_getElem hjl⟩
      obtain ⟨_, b, off, v1, v2, rfl, _, _, hc⟩ := H.out.at ht
      obtain ⟨c0, _, _, _⟩ := hc wr hb.out
      have HF := hid ht
      have hji : (j : Int) < n := by omega
      have hj0 : (0 : Int) ≤ j := by omega
      clear hc hjl ht
      by_cases he : t.nm = nm
      · have t1 : (t.nm == nm) = true := by simpa using he
        have t2 : decide (t.nm = nm) = true := by simpa using he
        have HE : Hid (findR l nm = (j : Int)) := findR_some (findT_first HF.out he HN.out)
        clear he
        go_wp2_with fail
        go_ret
        exact ⟨by rw [HE.out]; rfl, hb.out⟩
      · have t1 : (t.nm == nm) = false := by rw [beq_eq_false_iff_ne]; exact he
        have t2 : decide (t.nm = nm) = false := by simpa using he
        have HE := hid he
        clear he
        go_wp2_with fail
        exact ⟨⟨j + 1, by omega, by go_num, hid (fun m hm f' hf' => by
          by_cases e : m = j
          · subst e; rw [HF.out] at hf'; cases hf'; exact HE.out
          · exact HN.out m (by omega) f' hf'), hb⟩, by simp [intOf]; omega⟩
    · obtain rfl : j = n := by omega
      have HE : Hid (findR l nm = -1) := findR_none (findT_no fun m u hu => HN.out m (by
        have := (List.getElem?_eq_some_iff.1 hu).1; have := HL.out; omega) u hu)
      go_wp2_with fail
      go_ret
      exact ⟨by rw [HE.out]; rfl, hb.out⟩
def tyV (nm : List UInt8) (lo : Int) (v1 v2 : Value) : Value := .agg #[.string (bs nm), .int .i64 lo, v1, v2]
set_option maxHeartbeats 2000000 in
theorem r9newest_any {w : World} (nm : List UInt8) {lo : Int} {A A2 : Option Addr} {n c n2 c2 : Nat} (h0 : 0 ≤ lo ∧ lo ≤ 1000) (hn : n ≤ 1000) :
    Calls Tryz.prog 24 #[tyV nm lo (.slice A n c) (.slice A2 n2 c2)] w fun e w' => e = .returned (.int .i64 (lo + n - 1)) ∧ Below w.heap.size w w' := by
  have hni : (n : Int) ≤ 1000 := by omega
  have hn0 : (0 : Int) ≤ n := by omega
  obtain ⟨h1, h2⟩ := h0
  unfold tyV
  go_enter Tryz.func24, Tryz.ntmps24
  go_wp2_with fail
  go_ret
  exact ⟨rfl, B1 _ _⟩
end Go.Proofs.YtaegencmnmjgbaaGreat
