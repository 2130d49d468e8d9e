/-
  wal: lists of steps: bring, save.
-/
import Derived.Test.YteggkojlpgkhbaaGreatWalB
namespace Go.Proofs.YteggkojlpgkhbaaGreat
open Go.RowKit Go.Maps Go.Shelf
set_option linter.unusedVariables false
attribute [local go_sem] Oper.semAt_some

/-- v owns a row of the values of the steps ss. -/
def StR (W : World) (lo d base : Nat) (v : Value) (ss : List Stp) : Prop :=
  ∃ vs : List Value, W.ownsRow base 1 1 v ss.length vs ∧ ∀ (i : Nat) (s : Stp), ss[i]? = some s → ∃ u, vs[i]? = some u ∧ StepV W lo d u s
theorem infoF : (Tryz.prog.info? 1).map (fun i => (i.zero, i.size, i.bytes)) = some (some .nilFunc, 1, 8) := by kernel_rfl
theorem StepV.one {w : World} {lo d : Nat} {v : Value} {s : Stp} (h : StepV w lo d v s) : v.oneCell' = true := by
  cases s with
  | wr at_ l => obtain ⟨r, a, b, q, off, c, x, y, rfl, _⟩ := h; rfl
  | fl at_ n => obtain ⟨r, a, b, x, y, rfl, _⟩ := h; rfl
  | fe => obtain rfl := h; rfl
section
variable {W W' : World} {lo d base : Nat} {v v' : Value} {ss ss' : List Stp}
theorem StR.nil (W : World) (lo d base : Nat) : StR W lo d base (.slice none 0 0) [] := ⟨[], World.ownsRow_nil _ _ _ _, fun i s h => by simp at h⟩
theorem StR.shape (h : StR W lo d base v ss) : ∃ A c, v = .slice A ss.length c := by
  obtain ⟨vs, ⟨_, h1⟩, _⟩ := h
  rcases h1 with ⟨rfl, h0⟩ | ⟨g, c, cur, rfl, _⟩
  · exact ⟨none, 0, by rw [h0]⟩
  · exact ⟨_, c, rfl⟩
theorem StR.row (h : StR W lo d base v ss) : ∀ j, v.ownBlock = some j → base ≤ j ∧ ∃ cs, W.heap[j]? = some (.cells cs 1 (0, 0)) := by
  intro j hj
  obtain ⟨vs, ⟨_, h1⟩, _⟩ := h
  rcases h1 with ⟨rfl, h0⟩ | ⟨g, c, cur, rfl, hb, hg, _⟩
  · simp [Value.ownBlock] at hj
  · simp [Value.ownBlock] at hj; subst hj; exact ⟨hb, _, hg⟩
/-- What is kept: the row, and what steps speak of. -/
theorem StR.keep (h : StR W lo d base v ss) (hk : KeepT lo W W') (hr : ∀ j cs, v.ownBlock = some j → W.heap[j]? = some (.cells cs 1 (0, 0)) → W'.heap[j]? = some (.cells cs 1 (0, 0))) : StR W' lo d base v ss := by
  obtain ⟨vs, ⟨h0, h1⟩, h2⟩ := h
  refine ⟨vs, ⟨h0, ?_⟩, fun i s hi => by obtain ⟨u, h3, h4⟩ := h2 i s hi; exact ⟨u, h3, h4.keep hk⟩⟩
  rcases h1 with h3 | ⟨g, c, cur, hv, hb, hg, h3⟩
  · exact .inl h3
  · exact .inr ⟨g, c, cur, hv, hb, hr g cur (by rw [hv]; rfl) hg, h3⟩
theorem StR.on (h : StR W lo d base v ss) (hb : Below W.heap.size W W') : StR W' lo d base v ss :=
  h.keep (KeepT.below hb) (fun j cs _ hj => (hb.block j (row_lt hj)).trans hj)
theorem StR.fr (h : StR W lo d base v ss) {g lb fb : Nat} (hf : Fr g lb fb W W') (h1 : g < lo) (h2 : lb < lo) (h3 : fb < lo) (hl : lo ≤ base) : StR W' lo d base v ss :=
  h.keep (KeepT.fr hf h1 h2 h3) (fun j cs hv hj => by
    have := (h.row j hv).1
    exact (hf.block j (row_lt hj) (by omega) (by omega) (by omega)).trans hj)
theorem StR.less {base' : Nat} (h : StR W lo d base v ss) (hb : base' ≤ base) : StR W lo d base' v ss := by
  obtain ⟨vs, ⟨h0, h1⟩, h2⟩ := h
  refine ⟨vs, ⟨h0, ?_⟩, h2⟩
  rcases h1 with h3 | ⟨g, c, cur, hv, hb', hg⟩
  · exact .inl h3
  · exact .inr ⟨g, c, cur, hv, Nat.le_trans hb hb', hg⟩
theorem StR.non (h : StR W lo d base v ss) {row : Option Nat} (hg : W.grownBy W' row) (hr : ∀ r, row = some r → ∃ o : Obj, W.heap[r]? = some o ∧ o.isCells = false) : StR W' lo d base v ss :=
  h.keep (fun k cs t hk _ _ => blk_keep hk hg hr) (fun j cs _ hj => blk_keep hj hg hr)
theorem KeepT.own (h : StR W lo d base v ss) (hg : W.grownBy W' v.ownBlock) : KeepT lo W W' := fun k cs t hk _ ht => (hg.block k (row_lt hk) (fun e => by
  obtain ⟨_, cs', hc⟩ := h.row k e.symm
  rw [hc] at hk; cases hk; revert ht; decide)).trans hk

theorem run_appF (h : StR W lo d base v ss) {q m c : Nat} {news : List Value} (hl : news.length = m) (hnews : ∀ (j : Nat) (u : Value), news[j]? = some u → W.cell? ⟨q, j, none⟩ = some u) (h1 : ∀ u ∈ news, u.oneCell' = true) (hlen : ss.length + m ≤ 1000000) (hb : base ≤ W.heap.size)
    (hs : ss'.length = m) (hv : ∀ (i : Nat) (s : Stp), ss'[i]? = some s → ∃ u, news[i]? = some u ∧ StepV W lo d u s) (ty : TypeId) :
    ∃ v' W', (Builtin.append_ #[43, 43] ty #[v, .slice (some ⟨q, 0, none⟩) m c]).run Tryz.prog W = .ok v' W' ∧ StR W' lo d base v' (ss ++ ss') ∧ W.grownBy W' v.ownBlock := by
  have hi8 := infoF
  cases hi : Tryz.prog.info? 1 with
  | none => rw [hi] at hi8; cases hi8
  | some i =>
    rw [hi] at hi8
    simp only [Option.map_some, Option.some.injEq, Prod.mk.injEq] at hi8
    obtain ⟨hz, hsz, hby⟩ := hi8
    obtain ⟨vs, how, hst⟩ := h
    have hvl : vs.length = ss.length := by have := how.1; omega
    obtain ⟨v', W', hr, ho, hg, hnil⟩ := run_append_own (P := Tryz.prog) W base 43 ty 1 i .nilFunc 1 8 Tryz.underlying43 hi hz hsz hby rfl (by omega) v ss.length vs how ⟨q, 0, none⟩ m c news (by omega) (fun j u hj => by rw [add_plain, Nat.zero_add]; exact hnews j u hj) h1 (by unfold maxLen; omega) (by omega) hb
    have hk : KeepT lo W W' := KeepT.own ⟨vs, how, hst⟩ hg
    refine ⟨v', W', hr, ⟨vs ++ news, ?_, fun j s hj => ?_⟩, hg⟩
    · have e : (ss ++ ss').length = ss.length + m := by simp [hs]
      rw [e]; exact ho
    · by_cases hlt : j < ss.length
      · rw [List.getElem?_append_left hlt] at hj
        obtain ⟨u, hu, hsv⟩ := hst j s hj
        exact ⟨u, by rw [List.getElem?_append_left (by omega)]; exact hu, hsv.keep hk⟩
      · rw [List.getElem?_append_right (by omega)] at hj
        obtain ⟨u, hu, hsv⟩ := hv _ s hj
        exact ⟨u, by rw [List.getElem?_append_right (by omega), hvl]; exact hu, hsv.keep hk⟩
end
theorem step_appF {w w' : World} {o : Oper} {a : Act} {K : Act → World → Prop} {Q : Exit → Act → World → Prop} {y : Nat → Option Bool} {v v' u : Value} (hgd : o.guard = none) (s x : Operand)
    (hop : o.op = .call { callee := .builtin .append, args := #[s, x], argTypes := #[43, 43] }) (hs : a.eval s = v) (hx : a.eval x = u)
    (hrun : (Builtin.append_ #[43, 43] o.type #[v, u]).run Tryz.prog w = .ok v' w') (hk : K (a.put o.dst v') w') :
    if Region.wanted o y = true then Oper.wp Tryz.prog o a w K Q else K (a.put o.dst undef) w := by
  simp only [Region.wanted, hgd, if_true]
  unfold Oper.wp execOp
  simp only [hop, resolve, invoke, builtin, Sem.run_bind, Sem.run_pure, Result.andThen_ok, List.map_toArray, List.map_cons, List.map_nil, hs, hx, hrun]
  exact hk
theorem wpList_appF {w w' : World} {ops : Array Oper} {rest : List Oper} {o : Oper} {a : Act} {Q : Exit → Act → World → Prop} {v v' u : Value} (hgd : o.guard = none) (s x : Operand)
    (hop : o.op = .call { callee := .builtin .append, args := #[s, x], argTypes := #[43, 43] }) (hs : a.eval s = v) (hx : a.eval x = u)
    (hrun : (Builtin.append_ #[43, 43] o.type #[v, u]).run Tryz.prog w = .ok v' w') (hk : wpList Tryz.prog ops Q rest (a.put o.dst v') w') : wpList Tryz.prog ops Q (o :: rest) a w := by
  refine wpList_plain hgd fun K hK => ?_
  unfold Oper.wp execOp
  simp only [hop, resolve, invoke, builtin, Sem.run_bind, Sem.run_pure, Result.andThen_ok, List.map_toArray, List.map_cons, List.map_nil, hs, hx, hrun]
  exact hK _ _ hk

/-- The makers of steps, with what they make. -/
theorem write_step {w : World} {lo : Nat} (hlo : lo ≤ w.heap.size) (d : Nat) (x y at_ : Int) {q off c : Nat} {l : List UInt8} (hl : l.length = 8) (hc : 8 ≤ c) (hcm : c ≤ maxLen) (hq : lo ≤ q) {cs : Array Value} (hb : w.heap[q]? = some (.cells cs 5 (0, 0))) (hcs : ∀ i (h : i < l.length), cs[off + i]? = some (bv l[i])) :
    Calls Tryz.prog 70 #[.agg (regC d x y), .int .i64 at_, .slice (some ⟨q, off, none⟩) 8 c] w fun e w' => ∃ r a b : Nat, e = .returned (.func (.func 85) #[] #[.pointer (some ⟨r, 0, none⟩), .pointer (some ⟨a, 0, none⟩), .pointer (some ⟨b, 0, none⟩)]) ∧
      StepV w' lo d (.func (.func 85) #[] #[.pointer (some ⟨r, 0, none⟩), .pointer (some ⟨a, 0, none⟩), .pointer (some ⟨b, 0, none⟩)]) (.wr at_ l) ∧ Below w.heap.size w w' := by
  refine (write_make d x y at_ _ _ _).mono ?_
  rintro e w' ⟨rfl, rfl⟩
  obtain ⟨W, hW, hs, hB, h1, h2, h3⟩ := alloc3 w (.cells (regC d x y) 73) (.cells #[.int .i64 at_] 3) (.cells #[.slice (some ⟨q, off, none⟩) 8 c] 22)
  rw [← hW]
  exact ⟨_, _, _, rfl, ⟨_, _, _, q, off, c, x, y, rfl, hlo, by omega, by omega, hq, h1, h2, h3, hl, hc, hcm, cs, (hB.block _ (row_lt hb)).trans hb, hcs⟩, hB⟩
theorem flush_step {w : World} {lo : Nat} (hlo : lo ≤ w.heap.size) (d : Nat) (x y at_ m : Int) :
    Calls Tryz.prog 71 #[.agg (regC d x y), .int .i64 at_, .int .i64 m] w fun e w' => ∃ r a b : Nat, e = .returned (.func (.func 86) #[] #[.pointer (some ⟨r, 0, none⟩), .pointer (some ⟨a, 0, none⟩), .pointer (some ⟨b, 0, none⟩)]) ∧
      StepV w' lo d (.func (.func 86) #[] #[.pointer (some ⟨r, 0, none⟩), .pointer (some ⟨a, 0, none⟩), .pointer (some ⟨b, 0, none⟩)]) (.fl at_ m) ∧ Below w.heap.size w w' := by
  refine (flush_make d x y at_ m).mono ?_
  rintro e w' ⟨rfl, rfl⟩
  obtain ⟨W, hW, hs, hB, h1, h2, h3⟩ := alloc3 w (.cells (regC d x y) 73) (.cells #[.int .i64 at_] 3) (.cells #[.int .i64 m] 3)
  rw [← hW]
  exact ⟨_, _, _, rfl, ⟨_, _, _, x, y, rfl, hlo, by omega, by omega, h1, h2, h3⟩, hB⟩

/-- Where bring and save are: their box bx holds v, a list of the steps ss. -/
structure SSt (w W2 W : World) (B bx lo d base : Nat) (v : Value) (ss : List Stp) : Prop where
  bo : W.heap[bx]? = some (.cells #[v] 43 (0, 0))
  bw : w.heap.size ≤ bx
  ba : w.heap.size ≤ base
  az : base ≤ W.heap.size
  ow : StR W lo d base v ss
  bl : Below w.heap.size w W
  kf : KeepsFrom B W2 W
  b2 : Below w.heap.size W2 W
  kc : KeepC W2 W
section
variable {w W2 W W' : World} {B bx lo d base : Nat} {v v' : Value} {ss ss' : List Stp}
theorem SSt.cell (h : SSt w W2 W B bx lo d base v ss) : W.cell? ⟨bx, 0, none⟩ = some v := by rw [row_cell h.bo]; rfl
theorem SSt.lt (h : SSt w W2 W B bx lo d base v ss) : w.heap.size ≤ W.heap.size := h.bl.size
theorem SSt.on (h : SSt w W2 W B bx lo d base v ss) (hb : Below W.heap.size W W') : SSt w W2 W' B bx lo d base v ss :=
  ⟨(hb.block _ (row_lt h.bo)).trans h.bo, h.bw, h.ba, Nat.le_trans h.az hb.size, h.ow.on hb, h.bl.trans (hb.mono h.lt), h.kf.trans (kf_below hb), h.b2.trans (hb.mono h.lt), h.kc.trans (KeepC.below hb)⟩
theorem SSt.not (h : SSt w W2 W B bx lo d base v ss) : some bx ≠ v.ownBlock := fun e => by
  obtain ⟨_, cs, hc⟩ := h.ow.row _ e.symm
  have := h.bo; rw [hc] at this; cases this
theorem SSt.app (h : SSt w W2 W B bx lo d base v ss) (hg : W.grownBy W' v.ownBlock) (ho : StR W' lo d base v' ss') : SSt w W2 (W'.setCell ⟨bx, 0, none⟩ v') B bx lo d base v' ss' ∧ W'.cell? ⟨bx, 0, none⟩ = some v ∧ W'.frozen? ⟨bx, 0, none⟩ = false := by
  have b1 : W'.heap[bx]? = some (.cells #[v] 43 (0, 0)) := (hg.block _ (row_lt h.bo) h.not).trans h.bo
  have k1 : KeepsFrom B W W' := ⟨hg.size, fun k o _ hk ho => (hg.block k (Array.getElem?_eq_some_iff.1 hk).1 (fun e => by
    obtain ⟨_, cs, hc⟩ := h.ow.row k e.symm; rw [hc] at hk; cases hk; cases ho)).trans hk⟩
  have k2 : Below w.heap.size W W' := (Below.refl _ W).grown hg h.lt (fun j hj => Nat.le_trans h.ba (h.ow.row j hj).1)
  have k3 : KeepC W W' := ⟨hg.size, fun k cs t hk h1 _ _ => (hg.block k (row_lt hk) (fun e => by
    obtain ⟨_, cs', hc⟩ := h.ow.row k e.symm; rw [hc] at hk; cases hk; exact h1 rfl)).trans hk⟩
  have s1 := grownBy_setCell' W' bx v'
  have nb : ∀ (k : Nat) (cs : Array Value) (t : TypeId), W'.heap[k]? = some (.cells cs t (0, 0)) → t ≠ 43 → some k ≠ some bx := fun k cs t hk ht e => by
    cases e; rw [b1] at hk; cases hk; exact ht rfl
  refine ⟨⟨row_set b1 0 v', h.bw, h.ba, ?_, ?_, (h.bl.trans k2).setCell (p := ⟨bx, 0, none⟩) h.bw _, (h.kf.trans k1).trans ((KeepsOthers.setCell _ _ _).from _), (h.b2.trans k2).setCell (p := ⟨bx, 0, none⟩) h.bw _, (h.kc.trans k3).trans ⟨s1.size, fun k cs t hk h1 h2 _ => (s1.block k (row_lt hk) (nb k cs t hk h2)).trans hk⟩⟩, by rw [row_cell b1]; rfl, row_frozen b1 0⟩
  · rw [size_set]; exact Nat.le_trans h.az hg.size
  · exact ho.keep (fun k cs t hk _ ht => (s1.block k (row_lt hk) (nb k cs t hk (fun e => by subst e; revert ht; decide))).trans hk) (fun j cs _ hj => (s1.block j (row_lt hj) (nb j cs _ hj (by decide))).trans hj)
end
end Go.Proofs.YteggkojlpgkhbaaGreat
