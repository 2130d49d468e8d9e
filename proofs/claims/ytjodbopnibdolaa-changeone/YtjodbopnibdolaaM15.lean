/-
  The program's Layout of layer 6.
  The program's Refs, New of layer 6.
  The program's seek of layer 6.
  The program's Get of layer 6.
  The program's Set of layer 6.
  The program's Encode of layer 6.
  Tables that stand in a cell; the document's Same of layer 7, and its Equal.
-/
import Derived.Test.YtjodbopnibdolaaM14
import Derived.Test.YtjodbopnibdolaaM12
import Derived.Test.YtjodbopnibdolaaM9
import Derived.Test.YtjodbopnibdolaaM7
import Derived.Lib.AppendStr
import Derived.Test.YtjodbopnibdolaaM13

namespace Go.Proofs.Ytjodbopnibdolaa
open Go.RowKit
set_option linter.unusedVariables false
attribute [local go_sem] Oper.semAt_some

theorem wpListIn_app {P : Program} {l n : Nat} {w w' : World} {ops : Array Oper} {rest : List Oper} {o : Oper} {a : Act} {Q : Exit → Act → World → Prop} {v v' u : Value} {t1 t2 : TypeId} (hgd : o.guard = none) (s x : Operand)
    (hop : o.op = .call { callee := .builtin .append, args := #[s, x], argTypes := #[t1, t2] }) (hs : a.eval s = v) (hx : a.eval x = u)
    (hrun : (Builtin.append_ #[t1, t2] o.type #[v, u]).run P w = .ok v' w') (hk : wpListIn (Fence.wide.inRound l) n P ops Q rest (a.put o.dst v') w') : wpListIn (Fence.wide.inRound l) n P ops Q (o :: rest) a w := by
  refine wpListIn_plain hgd fun K hK => ⟨fun _ _ => trivial, ?_⟩
  rw [Oper.semAt_eq _ _ _ (by rw [hop]; intro c h; cases h)]
  unfold execOp
  simp only [hop, resolve, invoke, builtin, Sem.run_bind, Sem.run_pure, Result.andThen_ok, List.map_toArray, List.map_cons, List.map_nil, hs, hx, hrun]
  exact hK _ _ hk
/-- append(v, x), and what it turns. -/
theorem run_appI2 {w : World} {base : Nat} {v : Value} {l : List Int} (h : OwI w base v l) (x : Int) (hlen : l.length ≤ 1000000) (hb : base ≤ w.heap.size) (ty : TypeId) :
    ∃ v' w', (Builtin.append_ #[28, 28] ty #[v, .slice (some ⟨w.heap.size, 0, none⟩) 1 1]).run Try.prog (w.alloc (.cells #[.int .i64 x] 3)) = .ok v' w' ∧ OwI w' base v' (l ++ [x]) ∧ (w.alloc (.cells #[.int .i64 x] 3)).grownBy w' v.ownBlock := by
  have hi8 := infoI
  have hk : Below w.heap.size w (w.alloc (.cells #[.int .i64 x] 3)) := B1 _ _
  cases hi : Try.prog.info? 3 with
  | none => rw [hi] at hi8; cases hi8
  | some i =>
    rw [hi] at hi8
    simp only [Option.map_some, Option.some.injEq, Prod.mk.injEq] at hi8
    obtain ⟨hz, hsz, hby⟩ := hi8
    obtain ⟨v', W', hr, ho, hg, hnil⟩ := run_append_own (P := Try.prog) (w.alloc (.cells #[.int .i64 x] 3)) base 28 ty 3 i (.int .i64 0) 1 8 Try.underlying28 hi hz hsz hby rfl (by omega) v l.length (l.map iv) (h.on hk) ⟨w.heap.size, 0, none⟩ 1 1 [iv x] rfl (fun j u hj => by rw [add_plain, Nat.zero_add, row_cell (heap_alloc_new w _)]; match j, hj with | 0, h => exact h) (by intro u hu; simp at hu; subst hu; rfl) (by unfold maxLen; omega) (by omega) (Nat.le_trans hb hk.size)
    refine ⟨v', W', hr, ?_, hg⟩
    unfold OwI
    rw [List.length_append, List.map_append]; exact ho
section
variable {w w' : World} {base : Nat} {v : Value} {l : List Int} {row : Option Nat}
/-- The row that a slice of the call's own stands in. -/
theorem OwI.blk2 (h : OwI w base v l) : ∀ r, v.ownBlock = some r → base ≤ r ∧ ∃ cs, w.heap[r]? = some (.cells cs 3 (0, 0)) := by
  intro j hj
  rcases h.2 with ⟨e, _⟩ | ⟨g, cap, cur, e, hbase, hg, _⟩
  · rw [e] at hj; simp [Value.ownBlock] at hj
  · rw [e] at hj; simp [Value.ownBlock] at hj; subst hj; exact ⟨hbase, _, hg⟩
theorem OwI.keep (h : OwI w base v l) (hg : w.grownBy w' row) (hr : ∀ r, row = some r → ∃ o : Obj, w.heap[r]? = some o ∧ o.isCells = false) : OwI w' base v l := by
  refine ⟨h.1, ?_⟩
  rcases h.2 with h1 | ⟨g, cap, cur, hv, hbase, hg2, h3⟩
  · exact .inl h1
  · refine .inr ⟨g, cap, cur, hv, hbase, (hg.block g (row_lt hg2) (fun e => ?_)).trans hg2, h3⟩
    obtain ⟨o, ho, hc⟩ := hr g e.symm
    rw [hg2] at ho; cases ho; cases hc
theorem OwI.shape (h : OwI w base v l) : ∃ A n c, v = .slice A n c := by
  rcases h.2 with ⟨e, _⟩ | ⟨g, cap, cur, hv, _⟩
  · exact ⟨_, _, _, e⟩
  · exact ⟨_, _, _, hv⟩
theorem OwI.less (h : OwI w base v l) {b : Nat} (hb : b ≤ base) : OwI w b v l := by
  refine ⟨h.1, ?_⟩
  rcases h.2 with h1 | ⟨g, cap, cur, hv, hbase, hg, h3⟩
  · exact .inl h1
  · exact .inr ⟨g, cap, cur, hv, Nat.le_trans hb hbase, hg, h3⟩
/-- A row stands where a cell below its base turns. -/
theorem OwI.set (h : OwI w base v l) {g : Nat} (hb : g < base) (i : Nat) (u : Value) : OwI (w.setCell ⟨g, i, none⟩ u) base v l := by
  refine ⟨h.1, ?_⟩
  rcases h.2 with h1 | ⟨g2, cap, cur, hv, hbase, hg, h3⟩
  · exact .inl h1
  · exact .inr ⟨g2, cap, cur, hv, hbase, (Below.heap_setCell w ⟨g, i, none⟩ u g2 (show g2 ≠ g by omega)).trans hg, h3⟩
end
theorem cells_keep {W W' : World} {row : Option Nat} {b : Nat} {cs : Array Value} {t : TypeId} (h : W.heap[b]? = some (.cells cs t (0, 0))) (hg : W.grownBy W' row) (hr : ∀ r, row = some r → ∃ o : Obj, W.heap[r]? = some o ∧ o.isCells = false) : W'.heap[b]? = some (.cells cs t (0, 0)) :=
  (hg.block _ (row_lt h) (fun e => by obtain ⟨o, ho, hc⟩ := hr _ e.symm; rw [h] at ho; cases ho; cases hc)).trans h
theorem kf_grown {W W' : World} {row : Option Nat} {B : Nat} (hg : W.grownBy W' row) (hr : ∀ r, row = some r → ∃ cs t, W.heap[r]? = some (.cells cs t (0, 0))) : KeepsFrom B W W' :=
  ⟨hg.size, fun k o _ hk hc => (hg.block k (Array.getElem?_eq_some_iff.1 hk).1 (fun e => by
    obtain ⟨cs, t, h⟩ := hr k e.symm
    rw [hk] at h; cases h; cases hc)).trans hk⟩
theorem kf_set {W : World} {g B : Nat} {cs : Array Value} {t : TypeId} (h : W.heap[g]? = some (.cells cs t (0, 0))) (i : Nat) (u : Value) : KeepsFrom B W (W.setCell ⟨g, i, none⟩ u) :=
  ⟨by simp [World.setCell], fun k o _ hk hc => (Below.heap_setCell W ⟨g, i, none⟩ u k (fun e => by
    have e : k = g := e
    subst e
    rw [hk] at h; cases h; cases hc)).trans hk⟩

theorem plc_end (l : List Fd) : layP 0 (l.take (plcL l).length) = layL l ∧ up8 (layE 0 (l.take (plcL l).length)) = layT l := by
  cases hr : rightL l with
  | false => rw [plcL_wrong hr, layL_wrong hr, layT_wrong hr]; exact ⟨rfl, rfl⟩
  | true => rw [plcL_length hr, List.take_length, layL_right hr, layT_right hr]; exact ⟨rfl, rfl⟩
theorem plc_bd (l : List Fd) : 0 ≤ layE 0 (l.take (plcL l).length) ∧ layE 0 (l.take (plcL l).length) ≤ 1160 := by
  cases hr : rightL l with
  | false => rw [plcL_wrong hr, List.length_nil, List.take_zero]; exact ⟨by decide, by decide⟩
  | true =>
    rw [plcL_length hr, List.take_length]
    have h1 := layN_bounds hr
    have h2 := layE_bounds l 0 (right_may hr) (Int.le_refl _)
    omega
theorem below_put {w W : World} {D : Nat} {o o' : Obj} (h : Below w.heap.size w W) (hD : w.heap.size ≤ D) (hd : W.heap[D]? = some o) (hc : o.isCells = false) : Below w.heap.size w (W.putObj D o') := h.trans (belowKb (m := w.heap.size) (Nat.le_refl _) W D o o' hD hd hc)
/-- What a loop over places knows of its world: a list, and how far it has come. -/
structure LaySt (w W : World) (B : Nat) (l : List Fd) (k : Nat) (v : Value) (z : Int) : Prop where
  cl : W.heap[w.heap.size]? = some (.cells #[v] 28 (0, 0))
  ce : W.heap[w.heap.size + 1]? = some (.cells #[.int .i64 z] 3 (0, 0))
  ow : OwI W B v (layP 0 (l.take k))
  ez : z = layE 0 (l.take k)
  bl : Below w.heap.size w W
  az : B ≤ W.heap.size
theorem LaySt.on {w W W' : World} {B k : Nat} {l : List Fd} {v : Value} {z : Int} (h : LaySt w W B l k v z) (hb : Below W.heap.size W W') : LaySt w W' B l k v z :=
  ⟨(hb.block _ (row_lt h.cl)).trans h.cl, (hb.block _ (row_lt h.ce)).trans h.ce, h.ow.on hb, h.ez, h.bl.trans (hb.mono h.bl.size), Nat.le_trans h.az hb.size⟩
theorem LaySt.keep {w W W' : World} {B k : Nat} {l : List Fd} {v : Value} {z : Int} {row : Option Nat} (h : LaySt w W B l k v z) (hg : W.grownBy W' row) (hr : ∀ r, row = some r → w.heap.size ≤ r ∧ ∃ o : Obj, W.heap[r]? = some o ∧ o.isCells = false) : LaySt w W' B l k v z :=
  ⟨cells_keep h.cl hg (fun r e => (hr r e).2), cells_keep h.ce hg (fun r e => (hr r e).2), h.ow.keep hg (fun r e => (hr r e).2), h.ez, h.bl.grown hg (h.bl.size) (fun r e => (hr r e).1), Nat.le_trans h.az hg.size⟩

end Go.Proofs.Ytjodbopnibdolaa

namespace Go.Proofs.Ytjodbopnibdolaa
open Go.RowKit
set_option linter.unusedVariables false
attribute [local go_sem] Oper.semAt_some

theorem plc_refs (l : List Fd) : refP 0 (l.take (plcL l).length) = refL l := by
  cases hr : rightL l with
  | false => rw [plcL_wrong hr]; show refP 0 (l.take 0) = refL l; rw [List.take_zero]; simp [refL, hr, refP]
  | true => rw [plcL_length hr, List.take_length]; simp [refL, hr]
structure RefSt (w W : World) (B : Nat) (l : List Fd) (k : Nat) (v : Value) : Prop where
  cl : W.heap[w.heap.size]? = some (.cells #[v] 28 (0, 0))
  ow : OwI W B v (refP 0 (l.take k))
  bl : Below w.heap.size w W
  az : B ≤ W.heap.size
theorem RefSt.on {w W W' : World} {B k : Nat} {l : List Fd} {v : Value} (h : RefSt w W B l k v) (hb : Below W.heap.size W W') : RefSt w W' B l k v :=
  ⟨(hb.block _ (row_lt h.cl)).trans h.cl, h.ow.on hb, h.bl.trans (hb.mono h.bl.size), Nat.le_trans h.az hb.size⟩
theorem RefSt.keep {w W W' : World} {B k : Nat} {l : List Fd} {v : Value} {row : Option Nat} (h : RefSt w W B l k v) (hg : W.grownBy W' row) (hr : ∀ r, row = some r → w.heap.size ≤ r ∧ ∃ o : Obj, W.heap[r]? = some o ∧ o.isCells = false) : RefSt w W' B l k v :=
  ⟨cells_keep h.cl hg (fun r e => (hr r e).2), h.ow.keep hg (fun r e => (hr r e).2), h.bl.grown hg (h.bl.size) (fun r e => (hr r e).1), Nat.le_trans h.az hg.size⟩

end Go.Proofs.Ytjodbopnibdolaa

namespace Go.Proofs.Ytjodbopnibdolaa
open Go.RowKit
set_option linter.unusedVariables false
attribute [local go_sem] Oper.semAt_some

theorem run_loadI {P : Program} {w : World} {g : Nat} {ty : TypeId} {v : Value} (hu : P.underlying ty = some (.int .i64)) (h : w.cell? ⟨g, 0, none⟩ = some v) : (loadVar ty ⟨g, 0, none⟩).run P w = .ok v w := by
  have hagg : (isAgg ty).run P w = .ok false w := by
    unfold isAgg
    rw [Sem.run_bind, run_underlying hu w]
    rfl
  simp [loadVar, Sem.run_bind, hagg, h]
theorem run_loadFB {w : World} {b : Nat} {nm : ByteArray} {k g : Int} (h : FB w b nm k g) : (loadVar 24 ⟨b, 0, none⟩).run Try.prog w = .ok (.agg #[.string nm, .int .i64 k, .int .i64 g]) w :=
  run_loadVar_row w b 24 24 #[.string nm, .int .i64 k, .int .i64 g] (0, 0) _ h Try.underlying24 rfl (by kernel_rfl)
theorem FB.frozen {w : World} {b : Nat} {nm : ByteArray} {k g : Int} (h : FB w b nm k g) (i : Nat) : w.frozen? ⟨b, i, none⟩ = false := row_frozen h i
theorem FB.set3 {w : World} {b : Nat} {nm : ByteArray} {k g : Int} (h : FB w b nm k g) (nm' : ByteArray) (k' g' : Int) : FB (((w.setCell ⟨b, 0, none⟩ (.string nm')).setCell ⟨b, 1, none⟩ (.int .i64 k')).setCell ⟨b, 2, none⟩ (.int .i64 g')) b nm' k' g' := row_set (row_set (row_set h 0 _) 1 _) 2 _

/-- What is told of a field that is sought: it, its place, and an error. -/
def seekO (n : Nat) (l : List Fd) (nm : List UInt8) : Fd × Int × Int :=
  if rightL l = true ∧ (n : Int) = layN l then
    match findN l nm with
    | none => (⟨[], 0, 0⟩, 0, 61)
    | some i => match l[i]?, (layP 0 l)[i]? with
      | some f, some p => (f, p, 0)
      | _, _ => (⟨[], 0, 0⟩, 0, 0)
  else (⟨[], 0, 0⟩, 0, 60)
theorem seek_form {n : Nat} {l : List Fd} {nm : List UInt8} (h : ¬ (rightL l = true ∧ (n : Int) = layN l)) : seekO n l nm = (⟨[], 0, 0⟩, 0, 60) := by unfold seekO; rw [if_neg h]
theorem seek_none {n : Nat} {l : List Fd} {nm : List UInt8} (h : rightL l = true ∧ (n : Int) = layN l) (hf : findN l nm = none) : seekO n l nm = (⟨[], 0, 0⟩, 0, 61) := by unfold seekO; rw [if_pos h, hf]
theorem seek_some {n : Nat} {l : List Fd} {nm : List UInt8} (h : rightL l = true ∧ (n : Int) = layN l) {i : Nat} {f : Fd} {p : Int} (hf : findN l nm = some i) (hi : l[i]? = some f) (hp : (layP 0 l)[i]? = some p) : seekO n l nm = (f, p, 0) := by
  unfold seekO; rw [if_pos h, hf]; simp only [hi, hp]
def SeekQ (w : World) (r : Fd × Int × Int) (e : Ending) (w' : World) : Prop := e = .returned (.tuple #[fv r.1, .int .i64 r.2.1, .int .i64 r.2.2]) ∧ Below w.heap.size w w'

/-- The four boxes of seek: the name, and the results. -/
structure SeekB (w W : World) (nm : List UInt8) (f : Fd) (p e : Int) : Prop where
  cn : W.heap[w.heap.size]? = some (.cells #[.string (bs nm)] 9 (0, 0))
  cf : FB W (w.heap.size + 1) (bs f.nm) f.k f.g
  cp : W.heap[w.heap.size + 2]? = some (.cells #[.int .i64 p] 3 (0, 0))
  ce : W.heap[w.heap.size + 3]? = some (.cells #[.int .i64 e] 37 (0, 0))
  bl : Below w.heap.size w W
  az : w.heap.size + 4 ≤ W.heap.size
section
variable {w W W' : World} {nm : List UInt8} {f : Fd} {p e : Int}
theorem SeekB.on (h : SeekB w W nm f p e) (hb : Below W.heap.size W W') : SeekB w W' nm f p e :=
  ⟨(hb.block _ (row_lt h.cn)).trans h.cn, h.cf.on hb, (hb.block _ (row_lt h.cp)).trans h.cp, (hb.block _ (row_lt h.ce)).trans h.ce, h.bl.trans (hb.mono h.bl.size), Nat.le_trans h.az hb.size⟩
theorem SeekB.keep {row : Option Nat} (h : SeekB w W nm f p e) (hg : W.grownBy W' row) (hr : ∀ r, row = some r → w.heap.size ≤ r ∧ ∃ o : Obj, W.heap[r]? = some o ∧ o.isCells = false) : SeekB w W' nm f p e :=
  ⟨cells_keep h.cn hg (fun r e => (hr r e).2), cells_keep h.cf hg (fun r e => (hr r e).2), cells_keep h.cp hg (fun r e => (hr r e).2), cells_keep h.ce hg (fun r e => (hr r e).2), h.bl.grown hg h.bl.size (fun r e => (hr r e).1), Nat.le_trans h.az hg.size⟩
/-- All three results are set. -/
theorem SeekB.set (h : SeekB w W nm f p e) (f' : Fd) (p' e' : Int) :
    SeekB w (((((W.setCell ⟨w.heap.size + 1, 0, none⟩ (.string (bs f'.nm))).setCell ⟨w.heap.size + 1, 1, none⟩ (.int .i64 f'.k)).setCell ⟨w.heap.size + 1, 2, none⟩ (.int .i64 f'.g)).setCell ⟨w.heap.size + 2, 0, none⟩ (.int .i64 p')).setCell ⟨w.heap.size + 3, 0, none⟩ (.int .i64 e')) nm f' p' e' := by
  have ne : ∀ {V : World} {b : Nat} {o : Option Obj} (a i : Nat) (u : Value), b ≠ a → V.heap[b]? = o → (V.setCell ⟨a, i, none⟩ u).heap[b]? = o := fun a i u hne ho => (Below.heap_setCell _ ⟨a, i, none⟩ u _ hne).trans ho
  refine ⟨?_, ?_, ?_, ?_, ?_, by simp only [size_set]; exact h.az⟩
  · exact ne _ _ _ (by omega) (ne _ _ _ (by omega) (ne _ _ _ (by omega) (ne _ _ _ (by omega) (ne _ _ _ (by omega) h.cn))))
  · exact ne _ _ _ (by omega) (ne _ _ _ (by omega) (h.cf.set3 _ _ _))
  · exact ne _ _ _ (by omega) (row_set (ne _ _ _ (by omega) (ne _ _ _ (by omega) (ne _ _ _ (by omega) h.cp))) 0 _)
  · exact row_set (ne _ _ _ (by omega) (ne _ _ _ (by omega) (ne _ _ _ (by omega) (ne _ _ _ (by omega) h.ce)))) 0 _
  · exact ((((h.bl.setCell (p := ⟨w.heap.size + 1, 0, none⟩) (show w.heap.size ≤ w.heap.size + 1 by omega) _).setCell (p := ⟨w.heap.size + 1, 1, none⟩) (show w.heap.size ≤ w.heap.size + 1 by omega) _).setCell (p := ⟨w.heap.size + 1, 2, none⟩) (show w.heap.size ≤ w.heap.size + 1 by omega) _).setCell (p := ⟨w.heap.size + 2, 0, none⟩) (show w.heap.size ≤ w.heap.size + 2 by omega) _).setCell (p := ⟨w.heap.size + 3, 0, none⟩) (show w.heap.size ≤ w.heap.size + 3 by omega) _
/-- What is read behind a return. -/
theorem SeekB.results (h : SeekB w W nm f p e) {fn : Func} {x y z : Tmp} (hf : fn.results = #[.cell x 24, .cell y 3, .cell z 37]) {tmps : Array Value}
    (hx : tmps.getD x undef = .pointer (some ⟨w.heap.size + 1, 0, none⟩)) (hy : tmps.getD y undef = .pointer (some ⟨w.heap.size + 2, 0, none⟩)) (hz : tmps.getD z undef = .pointer (some ⟨w.heap.size + 3, 0, none⟩)) :
    (Go.results fn tmps).run Try.prog W = .ok (.tuple #[fv f, .int .i64 p, .int .i64 e]) W := by
  have c2 : W.cell? ⟨w.heap.size + 2, 0, none⟩ = some (.int .i64 p) := by rw [row_cell h.cp]; rfl
  have c3 : W.cell? ⟨w.heap.size + 3, 0, none⟩ = some (.int .i64 e) := by rw [row_cell h.ce]; rfl
  have l1 := run_loadFB h.cf
  have l2 := run_loadI (P := Try.prog) Try.underlying3 c2
  have l3 := run_loadI (P := Try.prog) Try.underlying37 c3
  have hx' : tmps[x]?.getD undef = .pointer (some ⟨w.heap.size + 1, 0, none⟩) := by simpa using hx
  have hy' : tmps[y]?.getD undef = .pointer (some ⟨w.heap.size + 2, 0, none⟩) := by simpa using hy
  have hz' : tmps[z]?.getD undef = .pointer (some ⟨w.heap.size + 3, 0, none⟩) := by simpa using hz
  simp [Go.results, hf, hx', hy', hz', asAddr, Sem.run_bind, Result.andThen, l1, l2, l3, fv]
end

theorem blk4 (V : World) (o1 o2 o3 o4 : Obj) : ((((V.alloc o1).alloc o2).alloc o3).alloc o4).heap[V.heap.size]? = some o1 ∧ ((((V.alloc o1).alloc o2).alloc o3).alloc o4).heap[V.heap.size + 1]? = some o2 ∧ ((((V.alloc o1).alloc o2).alloc o3).alloc o4).heap[V.heap.size + 2]? = some o3 ∧ ((((V.alloc o1).alloc o2).alloc o3).alloc o4).heap[V.heap.size + 3]? = some o4 := by
  have n2 := heap_alloc_new (V.alloc o1) o2
  have n3 := heap_alloc_new ((V.alloc o1).alloc o2) o3
  have n4 := heap_alloc_new (((V.alloc o1).alloc o2).alloc o3) o4
  simp only [World.size_alloc] at n2 n3 n4
  refine ⟨?_, ?_, ?_, n4⟩
  · exact (Below.heap_alloc _ _ _ (by simp; omega)).trans ((Below.heap_alloc _ _ _ (by simp; omega)).trans ((Below.heap_alloc _ _ _ (by simp)).trans (heap_alloc_new V o1)))
  · exact (Below.heap_alloc _ _ _ (by simp)).trans ((Below.heap_alloc _ _ _ (by simp)).trans n2)
  · exact (Below.heap_alloc _ _ _ (by simp)).trans n3
end Go.Proofs.Ytjodbopnibdolaa

namespace Go.Proofs.Ytjodbopnibdolaa
open Go.RowKit
set_option linter.unusedVariables false

theorem Rd.sub {w : World} {B b off n c p m : Nat} {s : List UInt8} (h : Rd w B (some ⟨b, off, none⟩) n c s) (hp : p + m ≤ n) (hc : p < c) : Rd w B (some ⟨b, off + p, none⟩) m (c - p) ((s.drop p).take m) := by
  have h1 := h.drop (k := p) (by omega)
  rw [if_neg (by omega)] at h1
  have h2 := h1.take (m := m) (by omega)
  simpa [add_plain] using h2
/-- What is sought, and what is got of it. -/
theorem seek_get {s : List UInt8} {n : Nat} (hn : s.length = n) (l : List Fd) (nm : List UInt8) :
    (∃ x : Int, x ≠ 0 ∧ seekO n l nm = (⟨[], 0, 0⟩, 0, x) ∧ getR s l nm = .tuple #[.agg #[.int .i64 0, .int .u64 0, .string ⟨#[]⟩], .int .i64 x] ∧ (x = 60 ∨ x = 61) ∧ ∀ vk k t, setS6 s l nm vk k t = ([], x)) ∨
    (∃ (f : Fd) (p m : Nat), seekO n l nm = (f, (p : Int), 0) ∧ (m : Int) = longF f.k f.g ∧ 1 ≤ m ∧ m ≤ 64 ∧ p + m ≤ n ∧ n ≤ 1160 ∧ f.may = true ∧ f ∈ l ∧ getR s l nm = decR ((s.drop p).take m) f.k f.g ∧
      ∀ vk k t, setS6 s l nm vk k t = if rightF vk k t.size f.k f.g then (setL s p (encB vk k t f.k f.g), 0) else ([], 50)) := by
  subst hn
  by_cases hc : rightL l = true ∧ (s.length : Int) = layN l
  · cases hf : findN l nm with
    | none => exact .inl ⟨61, by decide, seek_none hc hf, getR_none hc hf, .inr rfl, fun vk k t => set_none hc hf⟩
    | some i =>
      obtain ⟨f, hi, _, _⟩ := findN_get hf
      obtain ⟨p, hp⟩ : ∃ p, (layP 0 l)[i]? = some p := ⟨_, layP_get hi 0⟩
      have hbd := lay_in hc.1 hi hp
      have hmm := right_may hc.1 f (List.mem_of_getElem? hi)
      have hlp := long_pos hmm
      have hlb := layN_bounds hc.1
      have hfl : f.long = longF f.k f.g := rfl
      refine .inr ⟨f, p.toNat, f.long.toNat, ?_, by omega, by omega, by omega, by omega, by omega, hmm, List.mem_of_getElem? hi, getR_some hc hf hi hp, fun vk k t => set_some hc hf hi hp⟩
      rw [seek_some hc hf hi hp]
      congr 2
      omega
  · exact .inl ⟨60, by decide, seek_form hc, getR_form hc, .inl rfl, fun vk k t => set_form hc⟩

end Go.Proofs.Ytjodbopnibdolaa

namespace Go.Proofs.Ytjodbopnibdolaa
open Go.RowKit
set_option linter.unusedVariables false

def SetO (w : World) (r : List UInt8 × Int) (e : Ending) (w' : World) : Prop := ∃ v, e = .returned (.tuple #[v, .int .i64 r.2]) ∧ Own w' w.heap.size v r.1 ∧ Below w.heap.size w w'

end Go.Proofs.Ytjodbopnibdolaa

namespace Go.Proofs.Ytjodbopnibdolaa
open Go.RowKit
set_option linter.unusedVariables false

theorem wpList_appG {P : Program} {w w' : World} {ops : Array Oper} {rest : List Oper} {o : Oper} {a : Act} {Q : Exit → Act → World → Prop} {v v' u : Value} {t1 t2 : TypeId} (hgd : o.guard = none) (s x : Operand)
    (hop : o.op = .call { callee := .builtin .append, args := #[s, x], argTypes := #[t1, t2] }) (hs : a.eval s = v) (hx : a.eval x = u)
    (hrun : (Builtin.append_ #[t1, t2] o.type #[v, u]).run P w = .ok v' w') (hk : wpList P ops Q rest (a.put o.dst v') w') : wpList P ops Q (o :: rest) a w := by
  refine wpList_plain hgd fun K hK => ?_
  unfold Oper.wp execOp
  simp only [hop, resolve, invoke, builtin, Sem.run_bind, Sem.run_pure, Result.andThen_ok, List.map_toArray, List.map_cons, List.map_nil, hs, hx, hrun]
  exact hK _ _ hk
theorem strCells_bs (x : List UInt8) : Lib.strCells (bs x) = x.map bv := by
  simp [Lib.strCells, bv]
/-- append(v, s...) of a text. -/
theorem run_appS8 {w : World} {base : Nat} {v : Value} {xs : List UInt8} (ho : Own w base v xs) (x : List UInt8) (hb : base ≤ w.heap.size) (hlen : xs.length + x.length ≤ 140737488355328) (ty : TypeId) :
    ∃ v' w', (Builtin.append_ #[106, 9] ty #[v, .string (bs x)]).run Try.prog w = .ok v' w' ∧ Own w' base v' (xs ++ x) ∧ w.grownBy w' v.ownBlock := by
  have hi8 := info8
  cases hi : Try.prog.info? 5 with
  | none => rw [hi] at hi8; cases hi8
  | some i =>
    rw [hi] at hi8
    simp only [Option.map_some, Option.some.injEq, Prod.mk.injEq] at hi8
    obtain ⟨hz, hs, hby⟩ := hi8
    have hsz : (bs x).size = x.length := rfl
    obtain ⟨v', w', hr, how, hg, _⟩ := Lib.run_append_own_string (P := Try.prog) (w := w) base 106 9 ty 5 i Try.underlying106 Try.underlying9 hi hz hs hby v xs.length (xs.map bv) ho (bs x) (by rw [hsz]; unfold maxLen; omega) (by rw [hsz]; omega) hb
    refine ⟨v', w', hr, ?_, hg⟩
    unfold Own; rw [List.length_append, List.map_append, ← strCells_bs, ← hsz]; exact how
section
variable {w w' : World} {base : Nat} {v : Value} {l : List UInt8}
theorem Own.blk2 (h : Own w base v l) : ∀ r, v.ownBlock = some r → base ≤ r ∧ ∃ cs, w.heap[r]? = some (.cells cs 5 (0, 0)) := by
  intro j hj
  rcases h.2 with ⟨e, _⟩ | ⟨g, cap, cur, e, hbase, hg, _⟩
  · rw [e] at hj; simp [Value.ownBlock] at hj
  · rw [e] at hj; simp [Value.ownBlock] at hj; subst hj; exact ⟨hbase, _, hg⟩
theorem Own.shape2 (h : Own w base v l) : ∃ A n c, v = .slice A n c := by
  rcases h.2 with ⟨e, _⟩ | ⟨g, cap, cur, hv, _⟩
  · exact ⟨_, _, _, e⟩
  · exact ⟨_, _, _, hv⟩
end

/-- What the loop of Encode knows of its world. -/
structure ES (w W : World) (q : Nat) (f : Fd) (v : Value) (X : List UInt8) : Prop where
  ow : Own W w.heap.size v X
  fb : FB W q (bs f.nm) f.k f.g
  bl : Below w.heap.size w W
section
variable {w W W' : World} {q : Nat} {f : Fd} {v v' : Value} {X Y : List UInt8}
theorem ES.on (h : ES w W q f v X) (hb : Below W.heap.size W W') : ES w W' q f v X := ⟨h.ow.grown hb, h.fb.on hb, h.bl.trans (hb.mono h.bl.size)⟩
theorem ES.app (h : ES w W q f v X) (hg : W.grownBy W' v.ownBlock) (ho : Own W' w.heap.size v' Y) : ES w W' q f v' Y :=
  ⟨ho, (hg.block q h.fb.lt (fun e => by
    obtain ⟨_, cs, hc⟩ := h.ow.blk2 q e.symm
    have := h.fb; unfold FB at this; rw [hc] at this; cases this)).trans h.fb, h.bl.grown hg h.bl.size (fun j e => (h.ow.blk2 j e).1)⟩
end

end Go.Proofs.Ytjodbopnibdolaa

namespace Go.Proofs.Ytjodbopnibdolaa
open Go.RowKit
set_option linter.unusedVariables false

section
variable {w w' : World} {b b' B : Nat} {v1 v2 v3 v : Value} {ty : TypeId}
theorem TBx.frozen (h : TBx w b v1 v2 v3 ty) (i : Nat) : w.frozen? ⟨b, i, none⟩ = false := row_frozen h i
theorem TBx.set0 (h : TBx w b v1 v2 v3 ty) (v : Value) : TBx (w.setCell ⟨b, 0, none⟩ v) b v v2 v3 ty := row_set h 0 _
theorem TBx.set1 (h : TBx w b v1 v2 v3 ty) (v : Value) : TBx (w.setCell ⟨b, 1, none⟩ v) b v1 v v3 ty := row_set h 1 _
theorem TBx.set2 (h : TBx w b v1 v2 v3 ty) (v : Value) : TBx (w.setCell ⟨b, 2, none⟩ v) b v1 v2 v ty := row_set h 2 _
theorem TBx.set3 (h : TBx w b v1 v2 v3 ty) (u1 u2 u3 : Value) : TBx (((w.setCell ⟨b, 0, none⟩ u1).setCell ⟨b, 1, none⟩ u2).setCell ⟨b, 2, none⟩ u3) b u1 u2 u3 ty := ((h.set0 u1).set1 u2).set2 u3
theorem TBx.other (h : TBx w b v1 v2 v3 ty) (hne : b ≠ b') (i : Nat) (u : Value) : TBx (w.setCell ⟨b', i, none⟩ u) b v1 v2 v3 ty := (Below.heap_setCell w ⟨b', i, none⟩ u b hne).trans h
theorem TBx.other3 (h : TBx w b v1 v2 v3 ty) (hne : b ≠ b') (u1 u2 u3 : Value) : TBx (((w.setCell ⟨b', 0, none⟩ u1).setCell ⟨b', 1, none⟩ u2).setCell ⟨b', 2, none⟩ u3) b v1 v2 v3 ty := ((h.other hne 0 u1).other hne 1 u2).other hne 2 u3
theorem MB.frozen {m : Mv} (h : MB w b m ty) (i : Nat) : w.frozen? ⟨b, i, none⟩ = false := row_frozen h i
theorem MB.other {m : Mv} (h : MB w b m ty) (hne : b ≠ b') (i : Nat) (u : Value) : MB (w.setCell ⟨b', i, none⟩ u) b m ty := (Below.heap_setCell w ⟨b', i, none⟩ u b hne).trans h
theorem RdF.set {A : Option Addr} {n c : Nat} {l : List Fd} (h : RdF w B A n c l) {g : Nat} (hg : B ≤ g) (i : Nat) (u : Value) : RdF (w.setCell ⟨g, i, none⟩ u) B A n c l := h.below ((Below.refl B w).setCell (p := ⟨g, i, none⟩) hg u)
theorem RdM.set {A : Option Addr} {n c : Nat} {l : List Mv} (h : RdM w B A n c l) {g : Nat} (hg : B ≤ g) (i : Nat) (u : Value) : RdM (w.setCell ⟨g, i, none⟩ u) B A n c l := h.below ((Below.refl B w).setCell (p := ⟨g, i, none⟩) hg u)
/-- A row made since stands where cells of another block turn. -/
theorem TBx.grown {row : Option Nat} (h : TBx w b v1 v2 v3 ty) (hg : w.grownBy w' row) (hne : some b ≠ row) : TBx w' b v1 v2 v3 ty := (hg.block _ (row_lt h) hne).trans h
end
theorem ret_TB7 {fn : Func} {p : Tmp} (hf : fn.results = #[.cell p 43]) {R : Ending → World → Prop} {a : Act} {w : World} {b : Nat} {v1 v2 v3 : Value} (hp : a.tmps.getD p undef = .pointer (some ⟨b, 0, none⟩)) (hv : TBx w b v1 v2 v3 43)
    (hd : a.defers = []) (hR : R (.returned (.agg #[v1, v2, v3])) w) : bodyPost Try.prog fn R .ret a w :=
  bodyPost_ret_by (results_cell_row hf a.tmps w b 43 _ (0, 0) _ hp hv Try.underlying43 rfl (by kernel_rfl)) hd hR
theorem run_loadTB7 {w : World} {b : Nat} {v1 v2 v3 : Value} (h : TBx w b v1 v2 v3 43) : (loadVar 43 ⟨b, 0, none⟩).run Try.prog w = .ok (.agg #[v1, v2, v3]) w :=
  run_loadVar_row w b 43 43 #[v1, v2, v3] (0, 0) _ h Try.underlying43 rfl (by kernel_rfl)
theorem ret_TB7e {fn : Func} {p u : Tmp} (hf : fn.results = #[.cell p 43, .tmp u]) {R : Ending → World → Prop} {a : Act} {w : World} {b : Nat} {v1 v2 v3 x : Value} (hp : a.tmps.getD p undef = .pointer (some ⟨b, 0, none⟩)) (hv : TBx w b v1 v2 v3 43)
    (hx : a.tmps.getD u undef = x) (hd : a.defers = []) (hR : R (.returned (.tuple #[.agg #[v1, v2, v3], x])) w) : bodyPost Try.prog fn R .ret a w :=
  bodyPost_ret_by (by rw [results_cell_tmp hf, hp, hx]; simp [asAddr, Result.andThen, run_loadTB7 hv]) hd hR
theorem RdT.nil (w : World) (B : Nat) : RdT w B (.agg #[.slice none 0 0, .slice none 0 0, .slice none 0 0]) Tb.none := ⟨Option.none, 0, 0, Option.none, 0, 0, Option.none, 0, 0, rfl, RdF.nil _ _, RdF.nil _ _, RdM.nil _ _⟩

/-- A table that a loop makes: block q holds it, its moves are the call's own. -/
structure MkT (w W : World) (q : Nat) (ty me : TypeId) (v1 v2 v : Value) (B : Nat) (l : List Mv) : Prop where
  tb : TBx W q v1 v2 v ty
  ow : OwM W B me v l
  bl : Below w.heap.size w W
  qb : q < B
  wq : w.heap.size ≤ q
  az : B ≤ W.heap.size
section
variable {w W W' : World} {q B : Nat} {ty me : TypeId} {v1 v2 v v' : Value} {l l' : List Mv}
theorem MkT.on (h : MkT w W q ty me v1 v2 v B l) (hb : Below W.heap.size W W') : MkT w W' q ty me v1 v2 v B l :=
  ⟨h.tb.on hb, h.ow.on hb, h.bl.trans (hb.mono h.bl.size), h.qb, h.wq, Nat.le_trans h.az hb.size⟩
theorem MkT.app (h : MkT w W q ty me v1 v2 v B l) (hg : W.grownBy W' v.ownBlock) (ho : OwM W' B me v' l') : MkT w (W'.setCell ⟨q, 2, none⟩ v') q ty me v1 v2 v' B l' :=
  ⟨(h.tb.grown hg (fun e => by have := (h.ow.blk2 q e.symm).1; have := h.qb; omega)).set2 v', ho.set h.qb 2 _,
    ((h.bl.grown hg h.bl.size (fun j e => Nat.le_trans (Nat.le_trans h.wq (Nat.le_of_lt h.qb)) (h.ow.blk2 j e).1)).setCell (p := ⟨q, 2, none⟩) h.wq _), h.qb, h.wq, by simp only [size_set]; exact Nat.le_trans h.az hg.size⟩
end

/-- Numbers of moves are whole numbers. -/
theorem self_I64 {n : Nat} (h : n ≤ 1000000) : ∀ m ∈ selfL n, I64 m.fr ∧ I64 m.k ∧ U64 m.n := fun m hm => by
  simp only [selfL, List.mem_map, List.mem_range] at hm
  obtain ⟨i, hi, rfl⟩ := hm
  exact ⟨i64_iff.2 ⟨by show (-9223372036854775808 : Int) ≤ (i : Int); omega, by show (i : Int) ≤ 9223372036854775807; omega⟩, i64_iff.2 ⟨by show (-9223372036854775808 : Int) ≤ 0; omega, by show (0 : Int) ≤ 9223372036854775807; omega⟩, ⟨Int.le_refl _, by show (0 : Int) < pw 8; decide⟩⟩

end Go.Proofs.Ytjodbopnibdolaa
