/-
  The contract of own of layer 9's law.
  A call of a script: what it makes; the document's Do, and the law's does.
  The contracts of few, and own, of layer 8's law.
-/
import Derived.Test.YtaegencmnmjgbaaGreatM34
import Derived.Test.YtaegencmnmjgbaaGreatM19
import Derived.Deep.Cut
import Derived.Test.YtaegencmnmjgbaaGreatM20
import Derived.Test.YtaegencmnmjgbaaGreatM58

namespace Go.Proofs.YtaegencmnmjgbaaGreat
open Go.RowKit
set_option linter.unusedVariables false
set_option linter.unusedSimpArgs false
def crCells (p : Ch × Value) : List Value := [.int .i64 p.1.op, .string (bs p.1.nm), .string (bs p.1.to.nm), .int .i64 p.1.to.k, .int .i64 p.1.to.g, .int .i64 p.1.dk, .int .u64 p.1.dn, .string p.1.dt, p.2]
def cellsCr (l : List (Ch × Value)) : List Value := (l.map crCells).flatten
theorem cellsCr_get : ∀ (os : List (Ch × Value)) (i : Nat) (h : i < os.length), ∀ j, j < 9 → (cellsCr os)[i * 9 + j]? = (crCells os[i])[j]? := by
  intro os
  induction os with
  | nil => intro i h; simp at h
  | cons x os ih =>
    intro i h j hj
    have e : cellsCr (x :: os) = crCells x ++ cellsCr os := rfl
    have hl : (crCells x).length = 9 := rfl
    rw [e]
    cases i with
    | zero => rw [List.getElem?_append_left (by omega), Nat.zero_mul, Nat.zero_add]; rfl
    | succ i =>
      rw [List.getElem?_append_right (by omega), hl, show (i + 1) * 9 + j - 9 = i * 9 + j by omega]
      exact ih i (by simpa using h) j hj
def OwC (w : World) (base : Nat) (v : Value) (l : List (Ch × Value)) : Prop := w.ownsRow base 76 9 v l.length (cellsCr l)
theorem OwC.nil (w : World) (base : Nat) : OwC w base (.slice none 0 0) [] := World.ownsRow_nil _ _ _ _
section
variable {w w' : World} {base : Nat} {v : Value} {l : List (Ch × Value)}
theorem OwC.on (h : OwC w base v l) (hb : Below w.heap.size w w') : OwC w' base v l := by
  refine ⟨h.1, ?_⟩
  rcases h.2 with h1 | ⟨g, cap, cur, hv, hbase, hg, h3⟩
  · exact .inl h1
  · exact .inr ⟨g, cap, cur, hv, hbase, (hb.block g (row_lt hg)).trans hg, h3⟩
theorem OwC.row (h : OwC w base v l) : ∀ j, v.ownBlock = some j → base ≤ j := by
  intro j hj
  rcases h.2 with ⟨e, _⟩ | ⟨g, cap, cur, e, hbase, _⟩
  · rw [e] at hj; simp [Value.ownBlock] at hj
  · rw [e] at hj; simp [Value.ownBlock] at hj; omega
theorem OwC.shape (h : OwC w base v l) : ∃ A n c, v = .slice A n c := by
  rcases h.2 with ⟨e, _⟩ | ⟨g, cap, cur, e, _⟩
  · exact ⟨_, _, _, e⟩
  · exact ⟨_, _, _, e⟩
theorem OwC.rd (h : OwC w base v l) (hx : ∀ p ∈ l, (I64 p.1.op ∧ I64 p.1.to.k ∧ I64 p.1.to.g ∧ I64 p.1.dk ∧ U64 p.1.dn) ∧ ∃ A n c, p.2 = .slice A n c ∧ RdI w w.heap.size A n c p.1.od) : ∃ A cap, v = .slice A l.length cap ∧ RdC w w.heap.size A l.length cap (l.map Prod.fst) := by
  rcases h.2 with ⟨rfl, hn⟩ | ⟨g, cap, cur, rfl, hbase, hg, hnc, hm, hs, hl⟩
  · have : l = [] := List.eq_nil_of_length_eq_zero hn
    subst this
    exact ⟨none, 0, rfl, rfl, by simp, by simp [maxLen], by simp, fun h => by simp at h⟩
  · refine ⟨some ⟨g, 0, none⟩, cap, rfl, by simp, hnc, hm, fun c hc => ?_, fun hn => ⟨g, 0, rfl, row_lt hg, fun i hi => ?_⟩⟩
    · obtain ⟨p, hp, rfl⟩ := List.mem_map.1 hc
      exact (hx p hp).1
    · have hi' : i < l.length := by simpa using hi
      obtain ⟨_, A, n, c, e, hr⟩ := hx l[i] (List.getElem_mem hi')
      have t : ∀ j, j < 9 → w.cell? ⟨g, 0 + i * 9 + j, none⟩ = (crCells l[i])[j]? := fun j hj => by
        rw [row_cell hg, Nat.zero_add, ← cellsCr_get l i hi' j hj, ← hl, List.getElem?_take_of_lt (by omega), Array.getElem?_toList]
      refine ⟨A, n, c, ?_, by simpa using hr⟩
      have t8 := t 8 (by omega)
      simp only [List.getElem_map]
      exact ⟨t 0 (by omega), t 1 (by omega), t 2 (by omega), t 3 (by omega), t 4 (by omega), t 5 (by omega), t 6 (by omega), t 7 (by omega), by rw [t8]; exact congrArg some e⟩
end
theorem infoCh : (Tryz.prog.info? 76).map (fun i => (i.zero, i.size, i.bytes)) = some (some (.agg #[.int .i64 0, .string ⟨#[]⟩, .string ⟨#[]⟩, .int .i64 0, .int .i64 0, .int .i64 0, .int .u64 0, .string ⟨#[]⟩, .slice none 0 0]), 9, 112) := by kernel_rfl
def chObj (c : Ch) (A : Option Addr) (n cp : Nat) (ty : TypeId) : Obj := .cells #[.int .i64 c.op, .string (bs c.nm), .string (bs c.to.nm), .int .i64 c.to.k, .int .i64 c.to.g, .int .i64 c.dk, .int .u64 c.dn, .string c.dt, .slice A n cp] ty
theorem run_appCh {w : World} {base : Nat} {v : Value} {l : List (Ch × Value)} (h : OwC w base v l) (c : Ch) (A : Option Addr) (n cp : Nat) (hlen : (l.length + 1) * 112 ≤ 140737488355328) (hb : base ≤ w.heap.size) (ty : TypeId) :
    ∃ v' w', (Builtin.append_ #[77, 77] ty #[v, .slice (some ⟨w.heap.size, 0, none⟩) 1 1]).run Tryz.prog (w.alloc (chObj c A n cp 76)) = .ok v' w' ∧ OwC w' base v' (l ++ [(c, .slice A n cp)]) ∧ (w.alloc (chObj c A n cp 76)).grownBy w' v.ownBlock := by
  have hi8 := infoCh
  have hk : Below w.heap.size w (w.alloc (chObj c A n cp 76)) := B1 _ _
  cases hi : Tryz.prog.info? 76 with
  | none => rw [hi] at hi8; cases hi8
  | some i =>
    rw [hi] at hi8
    simp only [Option.map_some, Option.some.injEq, Prod.mk.injEq] at hi8
    obtain ⟨hz, hsz, hby⟩ := hi8
    obtain ⟨v', W', hr, ho, hg, hnil⟩ := run_append_own (P := Tryz.prog) (w.alloc (chObj c A n cp 76)) base 77 ty 76 i _ 9 112 Tryz.underlying77 hi hz hsz hby rfl (by omega) v l.length (cellsCr l) (h.on hk) ⟨w.heap.size, 0, none⟩ 1 1 (crCells (c, .slice A n cp)) rfl (fun j u hj => by
      unfold chObj
      rw [add_plain, Nat.zero_add, row_cell (heap_alloc_new w _)]
      match j, hj with | 0, h => exact h | 1, h => exact h | 2, h => exact h | 3, h => exact h | 4, h => exact h | 5, h => exact h | 6, h => exact h | 7, h => exact h | 8, h => exact h) (by intro u hu; simp [crCells] at hu; rcases hu with rfl | rfl | rfl | rfl | rfl | rfl | rfl | rfl | rfl <;> rfl) (by unfold maxLen; omega) (by omega) (Nat.le_trans hb hk.size)
    refine ⟨v', W', hr, ?_, hg⟩
    unfold OwC
    have e : cellsCr (l ++ [(c, .slice A n cp)]) = cellsCr l ++ crCells (c, .slice A n cp) := by simp [cellsCr]
    rw [List.length_append, e]; exact ho
def OwnSt (w W : World) (cs : List Ch) (j : Nat) (v : Value) : Prop := ∃ ps : List (Ch × Value), ps.map Prod.fst = cs.take j ∧ (∀ p ∈ ps, ∃ A n c, p.2 = .slice A n c ∧ RdI w w.heap.size A n c p.1.od) ∧ OwC W w.heap.size v ps ∧ Below w.heap.size w W
set_option maxHeartbeats 4000000 in
theorem own_any {w : World} {Ac : Option Addr} {m mc : Nat} {cs : List Ch} (hcs : RdC w w.heap.size Ac m mc cs) (hm : m * 112 ≤ 140737488351232) :
    Calls Tryz.prog 60 #[.slice Ac m mc] w fun e w' => ∃ A n c, e = .returned (.slice A n c) ∧ RdC w' w'.heap.size A n c cs ∧ Below w.heap.size w w' := by
  have HM := hid hcs.1
  have hmm : (m : Int) ≤ 140737488351232 := by omega
  have HX : Hid (∀ c ∈ cs, I64 c.op ∧ I64 c.to.k ∧ I64 c.to.g ∧ I64 c.dk ∧ U64 c.dn) := hid hcs.2.2.2.1
  have HC := hid hcs; clear hcs
  go_enter Tryz.func60, Tryz.ntmps60
  go_wp2_with fail
  go_loopw [3, 8] (fun s i wr => ∃ (j : Nat), j ≤ m ∧ i = .int .i64 j ∧ Hid (OwnSt w wr cs j s)) (fun _ i _ => m - (intOf i).toNat)
  case atStart => exact ⟨0, by omega, rfl, hid ⟨[], rfl, by simp, OwC.nil _ _, B0 w⟩⟩
  case round =>
    obtain ⟨j, hj, rfl, ⟨ps, hps, hrd, how, hbl⟩⟩ := hrel
    obtain ⟨A0, n0, c0, rfl⟩ := how.shape
    by_cases hlt : j < m
    · obtain ⟨c, hc⟩ : ∃ c, cs[j]? = some c := ⟨_, List.getElem?_eq_getElem (by have := HM.out; omega)⟩
      obtain ⟨_, _, b, off, Ao, no, co, rfl, hcc, hod⟩ := HC.out.at hc
      obtain ⟨d0, d1, d2, d3, d4, d5, d6, d7, d8⟩ := hcc wr hbl
      have hji : (j : Int) < m := by omega
      have hj0 : (0 : Int) ≤ j := by omega
      obtain ⟨p, hp⟩ : ∃ p, p = wr.heap.size := ⟨_, rfl⟩
      obtain ⟨w3, hw3⟩ : ∃ w3, w3 = wr.alloc (.cells #[.int .i64 c.op, .string (bs c.nm), .string (bs c.to.nm), .int .i64 c.to.k, .int .i64 c.to.g, .int .i64 c.dk, .int .u64 c.dn, .string c.dt, .slice Ao no co] 73) := ⟨_, rfl⟩
      have HP := hid hp; have HW3 := hid hw3
      have HCB : Hid (CB w3 p c Ao no co 73) := by rw [hw3, hp]; exact hid (CB.new wr c Ao no co _)
      have hb3 : Below wr.heap.size wr w3 := by rw [hw3]; exact B1 _ _
      have hlen : (ps.length + 1) * 112 ≤ 140737488355328 := by have := congrArg List.length hps; rw [List.length_map, List.length_take] at this; omega
      obtain ⟨v', w4, hrun, hown, hgr⟩ := run_appCh (how.on hb3) c Ao no co hlen (Nat.le_trans hbl.size hb3.size) 77
      have hbl4 : Below w.heap.size w w4 := Below.grown ((hbl.trans (hb3.mono hbl.size)).trans ((B1 w3 (chObj c Ao no co 76)).mono (Nat.le_trans hbl.size hb3.size))) hgr (by have := hbl.size; have := hb3.size; simp; omega) (fun i e => how.row i e)
      have HRUN := hid hrun
      have HST : Hid (OwnSt w w4 cs (j + 1) v') := hid ⟨ps ++ [(c, .slice Ao no co)], by rw [List.map_append, hps, List.take_add_one, hc]; rfl, fun q hq => by
        rw [List.mem_append] at hq
        rcases hq with hq | hq
        · exact hrd q hq
        · simp at hq; subst hq; exact ⟨_, _, _, rfl, hod⟩, hown, hbl4⟩
      unfold chObj at HRUN
      clear hcc hod hc hp hw3 hrun hown hgr hbl4 hlen hb3 hps hrd how hbl
      go_upto_region 5 with fail
      rw [← HW3.out, ← HP.out]
      clear d0 d1 d2 d3 d4 d5 d6 d7 d8
      obtain ⟨y0, y1, y2, y3, y4, y5, y6, y7, y8⟩ := HCB.out.cells
      go_wp2_with (at_builtin; refine wpList_appG rfl _ _ rfl rfl rfl HRUN.out ?_)
      exact ⟨⟨j + 1, by omega, by go_num, HST⟩, by simp [intOf]; omega⟩
    · obtain rfl : j = m := by omega
      have et : cs.take j = cs := by rw [← HM.out]; exact List.take_length
      rw [et] at hps
      have HR : Hid (∃ A n c, Value.slice A0 n0 c0 = .slice A n c ∧ RdC wr wr.heap.size A n c cs) := hid (by
        obtain ⟨A, cap, e, hr⟩ := how.rd (fun p hp => by
          obtain ⟨A, n, c, e, hri⟩ := hrd p hp
          refine ⟨HX.out p.1 (by rw [← hps]; exact List.mem_map.2 ⟨p, hp, rfl⟩), A, n, c, e, hri.on hbl⟩)
        rw [hps] at hr
        exact ⟨_, _, _, e, hr⟩)
      have HBL := hid hbl
      clear hps hrd how hbl et
      go_wp2_with fail
      go_ret
      obtain ⟨A, n, c, e, hr⟩ := HR.out
      cases e
      exact ⟨_, _, _, rfl, hr, HBL.out⟩
end Go.Proofs.YtaegencmnmjgbaaGreat

namespace Go.Proofs.YtaegencmnmjgbaaGreat
open Go.RowKit Go.Maps
set_option linter.unusedVariables false
set_option linter.unusedSimpArgs false
def ExG (G : Nat → Prop) (w w' : World) : Prop := w'.os = w.os ∧ w'.tape = w.tape ∧ w'.output = w.output ∧ w.heap.size ≤ w'.heap.size ∧ ∀ b, b < w.heap.size → ¬ G b → w'.heap[b]? = w.heap[b]?
theorem ExG.refl (G : Nat → Prop) (w : World) : ExG G w w := ⟨rfl, rfl, rfl, Nat.le_refl _, fun _ _ _ => rfl⟩
theorem ExG.trans {G : Nat → Prop} {a b c : World} (h : ExG G a b) (k : ExG G b c) : ExG G a c := ⟨k.1.trans h.1, k.2.1.trans h.2.1, k.2.2.1.trans h.2.2.1, Nat.le_trans h.2.2.2.1 k.2.2.2.1, fun x hx hn => (k.2.2.2.2 x (Nat.lt_of_lt_of_le hx h.2.2.2.1) hn).trans (h.2.2.2.2 x hx hn)⟩
theorem ExG.below {G : Nat → Prop} {w w' : World} (h : Below w.heap.size w w') : ExG G w w' := ⟨h.os, h.tape, h.output, h.size, fun b hb _ => h.block b hb⟩
theorem ExG.fr {G : Nat → Prop} {w w' : World} (h : FrG G w w') : ExG G w w' := ⟨h.os, h.tape, h.output, h.size, h.blk⟩
section
variable {P : Program} {md : Region.Mode} {ops : Array Oper} {Q : Exit → Act → World → Prop}
theorem reg_beginG (G : Nat → Prop) {id : Nat} {a : Act} {w : World} (hm : P.follows .mixedOrders = true)
    (h : ∀ w0, Hid (w0.heap = w.heap) → Below w.heap.size w w0 → ExG G w0 w0 → wpAnyH P .any ops (NoPanic Q) (ExG G w0) ops.size (Array.replicate ops.size false) a w0) : (Code.region id ops true).wp P Q a w :=
  wp_region_noPanic <| wp_region_held_drew (S := ExG G w.drew) hm (ExG.refl _ _) (fun _ => h w.drew (hid rfl) (Below.drew (B0 w)) (ExG.refl _ _))
theorem reg_takeG (i : Nat) {G : Nat → Prop} {oi : Oper} {v : Value} {fuel : Nat} {listed : Array Bool} {a : Act} {w w1 : World} (hi : ops[i]? = some oi)
    (hs : Region.noSelect ops = true) (hf : Region.free md ops listed i = true) (hr : (Region.ready md ops listed).contains i = true)
    (hy : Region.wanted oi (yielded ops a.tmps) = true) (hv : ∀ w', ExG G w1 w' → (execOp a.eval oi).run P w' = .ok (.value v) w') (hS : ExG G w1 w)
    (h : wpAnyH P md ops (NoPanic Q) (ExG G w1) fuel (listed.setIfInBounds i true) (a.put oi.dst v) w) : wpAnyH P md ops (NoPanic Q) (ExG G w1) (fuel + 1) listed a w :=
  wpAnyH_take hi hs hf hr (fun _ _ _ h => h) (Or.inl ⟨hy, hv⟩) hS h
end
structure O9 where
  kd : Int
  nm : List UInt8
  fs : List Fd
  cs : List Ch
  lv : List Int
def o9P (w : World) (B : Nat) (o : O9) (v1 v2 v3 : Value) : Prop := ∃ A1 n1 c1 A2 n2 c2 A3 n3 c3, v1 = .slice A1 n1 c1 ∧ v2 = .slice A2 n2 c2 ∧ v3 = .slice A3 n3 c3 ∧ RdF w B A1 n1 c1 o.fs ∧ RdC w B A2 n2 c2 o.cs ∧ RdI w B A3 n3 c3 o.lv
def o9ok (o : O9) : Prop := I64 o.kd ∧ o.nm.length ≤ 140737488351232 ∧ (∀ c ∈ o.cs, c.to.nm.length ≤ 140737488351232 ∧ c.od.length ≤ 140737488351232) ∧ o.cs.length * 112 ≤ 140737488351232
def o9V (o : O9) (v1 v2 v3 : Value) : Value := .agg #[.int .i64 o.kd, .string (bs o.nm), v1, v2, v3]
def doS (l : List Ty) (o : O9) : List Ty × Int × Int :=
  if o.kd = 0 then ((defS l o.nm o.fs).1, 0, (defS l o.nm o.fs).2) else if o.kd = 1 then chgS l o.nm o.cs else if o.kd = 2 then retS l o.nm o.lv else (l, 0, 0)
def o9C (w : World) (b : Nat) (o : O9) (v1 v2 v3 : Value) : Prop := w.heap[b]? = some (.cells #[.int .i64 o.kd, .string (bs o.nm), v1, v2, v3] 54 (0, 0))
section
variable {w w' : World} {b : Nat} {o : O9} {v1 v2 v3 : Value}
theorem o9P.on (h : o9P w w.heap.size o v1 v2 v3) (hb : Below w.heap.size w w') : o9P w' w'.heap.size o v1 v2 v3 := by
  obtain ⟨A1, n1, c1, A2, n2, c2, A3, n3, c3, e1, e2, e3, h1, h2, h3⟩ := h
  exact ⟨A1, n1, c1, A2, n2, c2, A3, n3, c3, e1, e2, e3, h1.on hb, h2.on hb, h3.on hb⟩
theorem o9C.cells (h : o9C w b o v1 v2 v3) : w.cell? ⟨b, 0, none⟩ = some (.int .i64 o.kd) ∧ w.cell? ⟨b, 1, none⟩ = some (.string (bs o.nm)) ∧ w.cell? ⟨b, 2, none⟩ = some v1 ∧ w.cell? ⟨b, 3, none⟩ = some v2 ∧ w.cell? ⟨b, 4, none⟩ = some v3 := ⟨row_cell h 0, row_cell h 1, row_cell h 2, row_cell h 3, row_cell h 4⟩
theorem o9C.on (h : o9C w b o v1 v2 v3) (hb : Below w.heap.size w w') : o9C w' b o v1 v2 v3 := (hb.block b (row_lt h)).trans h
theorem o9C.new (w : World) (o : O9) (v1 v2 v3 : Value) : o9C (w.alloc (.cells #[.int .i64 o.kd, .string (bs o.nm), v1, v2, v3] 54)) w.heap.size o v1 v2 v3 := heap_alloc_new w _
end
set_option maxRecDepth 20000 in
set_option maxHeartbeats 8000000 in
theorem r9do_any {w : World} {A : Option Addr} {n c : Nat} {l : List Ty} (h : DocL w w.heap.size A n c l) (hok : okC l) {o : O9} (ho : o9ok o) {v1 v2 v3 : Value} (hp : o9P w w.heap.size o v1 v2 v3) :
    Calls Tryz.prog 30 #[.slice A n c, o9V o v1 v2 v3] w (DocQ w (doS l o).1 [.int .i64 (doS l o).2.1, .int .i64 (doS l o).2.2]) := by
  obtain ⟨A1, n1, c1, A2, n2, c2, A3, n3, c3, rfl, rfl, rfl, h1, h2, h3⟩ := hp
  obtain ⟨w0, hw0⟩ : ∃ w0, w0 = w.alloc (.cells #[.int .i64 o.kd, .string (bs o.nm), .slice A1 n1 c1, .slice A2 n2 c2, .slice A3 n3 c3] 54) := ⟨_, rfl⟩
  obtain ⟨q, hq⟩ : ∃ q, q = w.heap.size := ⟨_, rfl⟩
  have HW0 := hid hw0; have HQ := hid hq
  have HB0 : Hid (Below w.heap.size w w0) := by rw [hw0]; exact hid (B1 _ _)
  have HX0 : Hid (o9C w0 q o (.slice A1 n1 c1) (.slice A2 n2 c2) (.slice A3 n3 c3)) := by rw [hw0, hq]; exact hid (o9C.new _ _ _ _ _)
  have H := hid (h.on HB0.out); have HOK := hid hok; have HO := hid ho
  have H1 := hid (h1.on HB0.out); have H2 := hid (h2.on HB0.out); have H3 := hid (h3.on HB0.out)
  clear h hok ho h1 h2 h3 hw0 hq
  unfold o9V
  go_enter Tryz.func30, Tryz.ntmps30
  go_upto_region 1 with fail
  rw [← HW0.out, ← HQ.out]
  obtain ⟨x0, x1, x2, x3, x4⟩ := HX0.out.cells
  by_cases g0 : o.kd = 0
  · have t0 : (o.kd == 0) = true := by simpa using g0
    have HE : Hid (doS l o = ((defS l o.nm o.fs).1, 0, (defS l o.nm o.fs).2)) := hid (by unfold doS; rw [if_pos g0])
    clear g0
    go_wp2_with fail
    refine (r9define_any H.out HOK.out o.nm HO.out.2.1 H1.out).mono ?_
    rintro e w1 ⟨A5, n5, c5, rfl, hd, hb1⟩
    have HD := hid hd; have HB1 := hid hb1
    clear hd hb1 x0 x1 x2 x3 x4
    go_wp2_with fail
    go_ret3
    rw [HE.out]
    exact ⟨_, _, _, rfl, HD.out, Bt HB0.out HB1.out⟩
  · have t0 : (o.kd == 0) = false := by simpa using g0
    by_cases g1 : o.kd = 1
    · have t1 : (o.kd == 1) = true := by simpa using g1
      have HE : Hid (doS l o = chgS l o.nm o.cs) := hid (by unfold doS; rw [if_neg g0, if_pos g1])
      clear g0 g1
      go_wp2_with fail
      refine (r9change_any H.out HOK.out o.nm H2.out HO.out.2.2.1).mono ?_
      rintro e w1 ⟨A5, n5, c5, rfl, hd, hb1⟩
      have HD := hid hd; have HB1 := hid hb1
      clear hd hb1 x0 x1 x2 x3 x4
      go_wp2_with fail
      go_ret3
      rw [HE.out]
      exact ⟨_, _, _, rfl, HD.out, Bt HB0.out HB1.out⟩
    · have t1 : (o.kd == 1) = false := by simpa using g1
      by_cases g2 : o.kd = 2
      · have t2 : (o.kd == 2) = true := by simpa using g2
        have HE : Hid (doS l o = retS l o.nm o.lv) := hid (by unfold doS; rw [if_neg g0, if_neg g1, if_pos g2])
        clear g0 g1 g2
        go_wp2_with fail
        refine (r9retire_any H.out HOK.out o.nm H3.out).mono ?_
        rintro e w1 ⟨A5, n5, c5, rfl, hd, hb1⟩
        have HD := hid hd; have HB1 := hid hb1
        clear hd hb1 x0 x1 x2 x3 x4
        go_wp2_with fail
        go_ret3
        rw [HE.out]
        exact ⟨_, _, _, rfl, HD.out, Bt HB0.out HB1.out⟩
      · have t2 : (o.kd == 2) = false := by simpa using g2
        have HE : Hid (doS l o = (l, 0, 0)) := hid (by unfold doS; rw [if_neg g0, if_neg g1, if_neg g2])
        clear g0 g1 g2
        go_wp2_with fail
        go_ret3
        rw [HE.out]
        exact ⟨_, _, _, rfl, H.out, HB0.out⟩
set_option maxRecDepth 20000 in
set_option maxHeartbeats 8000000 in
theorem does_any {w : World} {c mb n B : Nat} {r : List UInt8 → Pl} {l : List Ty} (h : Cat w c mb n B r l) (hn : n ≤ 1000000) {o : O9} (ho : o9ok o) {v1 v2 v3 : Value} (hp : o9P w w.heap.size o v1 v2 v3) :
    Calls Tryz.prog 23 #[.pointer (some ⟨c, 0, none⟩), o9V o v1 v2 v3] w fun e w' => e = .returned (.tuple #[.int .i64 (doS l o).2.1, .int .i64 (doS l o).2.2]) ∧ CatQ w c mb n B r l (doS l o).1 w' := by
  obtain ⟨A1, n1, c1, A2, n2, c2, A3, n3, c3, rfl, rfl, rfl, h1, h2, h3⟩ := hp
  obtain ⟨w0, hw0⟩ : ∃ w0, w0 = w.alloc (.cells #[.int .i64 o.kd, .string (bs o.nm), .slice A1 n1 c1, .slice A2 n2 c2, .slice A3 n3 c3] 54) := ⟨_, rfl⟩
  obtain ⟨q, hq⟩ : ∃ q, q = w.heap.size := ⟨_, rfl⟩
  have HW0 := hid hw0; have HQ := hid hq
  have HB0 : Hid (Below w.heap.size w w0) := by rw [hw0]; exact hid (B1 _ _)
  have HX0 : Hid (o9C w0 q o (.slice A1 n1 c1) (.slice A2 n2 c2) (.slice A3 n3 c3)) := by rw [hw0, hq]; exact hid (o9C.new _ _ _ _ _)
  have HC := hid h
  have H := hid (h.on HB0.out); have HN := hid hn; have HO := hid ho
  have H1 := hid (h1.on HB0.out); have H2 := hid (h2.on HB0.out); have H3 := hid (h3.on HB0.out)
  have HK : Hid (SK o.nm) := hid (by have := ho.2.1; unfold SK maxLen; omega)
  clear h hn ho h1 h2 h3 hw0 hq
  unfold o9V
  go_enter Tryz.func23, Tryz.ntmps23
  go_upto_region 1 with fail
  rw [← HW0.out, ← HQ.out]
  obtain ⟨x0, x1, x2, x3, x4⟩ := HX0.out.cells
  by_cases g0 : o.kd = 0
  · have t0 : (o.kd == 0) = true := by simpa using g0
    have HE : Hid (doS l o = ((defS l o.nm o.fs).1, 0, (defS l o.nm o.fs).2)) := hid (by unfold doS; rw [if_pos g0])
    clear g0
    go_wp2_with fail
    refine (define_any H.out HN.out o.nm HO.out.2.1 H1.out).mono ?_
    rintro e w1 ⟨rfl, hq1⟩
    have HQ1 := hid hq1
    clear hq1 x0 x1 x2 x3 x4
    go_wp2_with fail
    go_ret2
    rw [HE.out]
    exact ⟨rfl, CatQ.pre HC.out HB0.out HQ1.out⟩
  · have t0 : (o.kd == 0) = false := by simpa using g0
    by_cases g1 : o.kd = 1
    · have t1 : (o.kd == 1) = true := by simpa using g1
      have HE : Hid (doS l o = chgS l o.nm o.cs) := hid (by unfold doS; rw [if_neg g0, if_pos g1])
      clear g0 g1
      go_upto_region 5 with fail
      clear x0 x1 x2 x3 x4
      have HNQ : Hid (¬ catG mb r l q) := hid (fun e => by
        have hx := HX0.out
        unfold o9C at hx
        rcases H.out.sl q e with ⟨_, _, _, _, cur, hg, _⟩ | ⟨es, cl, hg⟩
        · rw [hx] at hg; cases hg
        · rw [hx] at hg; cases hg)
      refine reg_beginG (catG mb r l) (by kernel_rfl) (fun w0a hh0a hx0a hHeld => ?_)
      have HXa : Hid (o9C w0a q o (.slice A1 n1 c1) (.slice A2 n2 c2) (.slice A3 n3 c3)) := hid (HX0.out.on hx0a)
      have xa : ∀ w', ExG (catG mb r l) w0a w' → o9C w' q o (.slice A1 n1 c1) (.slice A2 n2 c2) (.slice A3 n3 c3) := fun w' h => (h.2.2.2.2 q (row_lt HXa.out) HNQ.out).trans HXa.out
      have x1 := fun w' h => (xa w' h).cells.2.1
      have x3 := fun w' h => (xa w' h).cells.2.2.2.1
      clear xa
      refine reg_takeG 0 (v := ?vb0) at0 (by kernel_rfl) (by kernel_rfl) (by kernel_rfl) (by rfl) ?hyb0 hHeld ?restb0
      case hyb0 => (intro w' hSw; go_simp; try with_reducible rfl)
      try simp only [Act.put, List.setIfInBounds_toArray, List.set_cons_zero, List.set_cons_succ]
      refine reg_takeG 1 (v := ?vb1) (atS at0) (by kernel_rfl) (by kernel_rfl) (by kernel_rfl) (by rfl) ?hyb1 hHeld ?restb1
      case hyb1 => (intro w' hSw; go_simp; try with_reducible rfl)
      try simp only [Act.put, List.setIfInBounds_toArray, List.set_cons_zero, List.set_cons_succ]
      refine reg_takeG 2 (v := ?vb2) (atS (atS at0)) (by kernel_rfl) (by kernel_rfl) (by kernel_rfl) (by rfl) ?hyb2 hHeld ?restb2
      case hyb2 => (intro w' hSw; go_simp; try with_reducible rfl)
      try simp only [Act.put, List.setIfInBounds_toArray, List.set_cons_zero, List.set_cons_succ]
      refine reg_takeG 3 (v := ?vb3) (atS (atS (atS at0))) (by kernel_rfl) (by kernel_rfl) (by kernel_rfl) (by rfl) ?hyb3 hHeld ?restb3
      case hyb3 => (intro w' hSw; go_simp; try with_reducible rfl)
      try simp only [Act.put, List.setIfInBounds_toArray, List.set_cons_zero, List.set_cons_succ]
      refine reg_takeG 4 (v := ?vb4) (atS (atS (atS (atS at0)))) (by kernel_rfl) (by kernel_rfl) (by kernel_rfl) (by rfl) ?hyb4 hHeld ?restb4
      case hyb4 => (intro w' hSw; go_simp; try with_reducible rfl)
      try simp only [Act.put, List.setIfInBounds_toArray, List.set_cons_zero, List.set_cons_succ]
      refine wpAnyH_ready (rs := [5]) (by kernel_rfl) (by simp) ?_
      refine AllReadyH.cons (atS5 at0) (fun K hK => ?_) AllReadyH.nil
      go_simp
      refine (own_any (H2.out.on hx0a) (by have := HO.out.2.2.2; rw [H2.out.1] at this; exact this)).mono ?_
      rintro e w2 ⟨A5, n5, c5, rfl, hr5, hb2⟩
      go_wp2_with fail
      refine hK.out _ _ (ExG.below hb2) (fun hHeld => ?_)
      clear hK K
      try simp only [Act.put, List.setIfInBounds_toArray, List.set_cons_zero, List.set_cons_succ]
      refine wpAnyH_ready (rs := [6]) (by kernel_rfl) (by simp) ?_
      refine AllReadyH.cons (atS5 (atS at0)) (fun K hK => ?_) AllReadyH.nil
      go_simp
      refine (change_any (H.out.on (Bt hx0a hb2)) HN.out o.nm HK.out hr5 (fun x hx => (HO.out.2.2.1 x hx).1)).mono ?_
      rintro e w3 ⟨rfl, hq3⟩
      have HQ3 := hid (CatQ.pre HC.out (Bt HB0.out (Bt hx0a hb2)) hq3)
      have hg3 : ExG (catG mb r l) w0a w3 := (ExG.below hb2).trans (ExG.fr (by obtain ⟨r', _, hf, _⟩ := hq3; exact ⟨hf.os, hf.tape, hf.output, hf.size, hf.blk, hf.sl⟩))
      go_wp2_with fail
      refine hK.out _ _ hg3 (fun hHeld => ?_)
      clear hK K
      try simp only [Act.put, List.setIfInBounds_toArray, List.set_cons_zero, List.set_cons_succ]
      refine reg_takeG 7 (v := ?vb7) (atS5 (atS (atS at0))) (by kernel_rfl) (by kernel_rfl) (by kernel_rfl) (by rfl) ?hyb7 hHeld ?restb7
      case hyb7 => (intro w' hSw; go_simp; try with_reducible rfl)
      try simp only [Act.put, List.setIfInBounds_toArray, List.set_cons_zero, List.set_cons_succ]
      refine reg_takeG 8 (v := ?vb8) (atS5 (atS (atS (atS at0)))) (by kernel_rfl) (by kernel_rfl) (by kernel_rfl) (by rfl) ?hyb8 hHeld ?restb8
      case hyb8 => (intro w' hSw; go_simp; try with_reducible rfl)
      try simp only [Act.put, List.setIfInBounds_toArray, List.set_cons_zero, List.set_cons_succ]
      refine reg_takeG 9 (v := ?vb9) (atS5 (atS (atS (atS (atS at0))))) (by kernel_rfl) (by kernel_rfl) (by kernel_rfl) (by rfl) ?hyb9 hHeld ?restb9
      case hyb9 => (intro w' hSw; go_simp; try with_reducible rfl)
      try simp only [Act.put, List.setIfInBounds_toArray, List.set_cons_zero, List.set_cons_succ]
      refine reg_takeG 10 (v := ?vb10) (atS5 (atS5 at0)) (by kernel_rfl) (by kernel_rfl) (by kernel_rfl) (by rfl) ?hyb10 hHeld ?restb10
      case hyb10 => (intro w' hSw; go_simp; try with_reducible rfl)
      try simp only [Act.put, List.setIfInBounds_toArray, List.set_cons_zero, List.set_cons_succ]
      refine wpAnyH_done (by kernel_rfl) ?_ _
      refine NoPanic.normal ?_
      clear x1 x3
      go_wp2_with fail
      go_ret2
      rw [HE.out]
      exact ⟨rfl, HQ3.out⟩
    · have t1 : (o.kd == 1) = false := by simpa using g1
      by_cases g2 : o.kd = 2
      · have t2 : (o.kd == 2) = true := by simpa using g2
        have HE : Hid (doS l o = retS l o.nm o.lv) := hid (by unfold doS; rw [if_neg g0, if_neg g1, if_pos g2])
        clear g0 g1 g2
        go_wp2_with fail
        refine (retire_any H.out HN.out o.nm HK.out H3.out).mono ?_
        rintro e w1 ⟨rfl, hq1⟩
        have HQ1 := hid hq1
        clear hq1 x0 x1 x2 x3 x4
        go_wp2_with fail
        go_ret2
        rw [HE.out]
        exact ⟨rfl, CatQ.pre HC.out HB0.out HQ1.out⟩
      · have t2 : (o.kd == 2) = false := by simpa using g2
        have HE : Hid (doS l o = (l, 0, 0)) := hid (by unfold doS; rw [if_neg g0, if_neg g1, if_neg g2])
        clear g0 g1 g2
        go_wp2_with fail
        go_ret2
        rw [HE.out]
        exact ⟨rfl, CatQ.same HC.out HB0.out⟩
end Go.Proofs.YtaegencmnmjgbaaGreat

namespace Go.Proofs.YtaegencmnmjgbaaGreat
open Go.RowKit
set_option linter.unusedVariables false
set_option linter.unusedSimpArgs false
def shC (c : Ch) : Prop := c.nm.length ≤ nmMax ∧ c.to.nm.length ≤ nmMax ∧ c.dt.size ≤ nmMax ∧ c.od.length ≤ nmMax
end Go.Proofs.YtaegencmnmjgbaaGreat
