/-
  The document's answer for layer 4: Recover.
  The document's answer for layer 4: rows of calls; put once more.
-/
import Derived.Test.YteggkojlpgkhbaaGreatM15

namespace Go.Proofs.YteggkojlpgkhbaaGreat
open Go.RowKit Go.Maps Go.Shelf
set_option linter.unusedVariables false

def putO (a : Int) (A : Option Addr) (c : Nat) (l : List UInt8) : OpV := ⟨0, 8 * a, 0, A, l.length, c, l, none, 0, 0, []⟩
def flO (a m : Int) : OpV := ⟨2, 8 * a, 8 * m, none, 0, 0, [], none, 0, 0, []⟩
def feO : OpV := ⟨3, 0, 0, none, 0, 0, [], none, 0, 0, []⟩
theorem opD_put {D : DS} {a : Int} {A : Option Addr} {c : Nat} {l : List UInt8} (h : (Stp.wr a l).ok D.S.length) : opD D (putO a A c l) = (Stp.wr a l).on D := by
  obtain ⟨h0, h1, h2⟩ := h
  have he : hE D.S.length (8 * a) l.length = 0 := by unfold hE; rw [if_neg (by omega), if_neg (by omega)]
  have ea : spA (8 * a) (l.length : Int) = a := by unfold spA; rw [if_neg (by omega)]; omega
  have eb : spB (8 * a) (l.length : Int) = a + 1 := by unfold spB; rw [if_neg (by omega)]; omega
  unfold opD putO
  simp only [if_true, he, ea, eb]
  show (⟨_, _, _⟩ : DS) = ⟨_, _, _⟩
  rw [show (8 * a).toNat = (a * 8).toNat by omega]
theorem opD_fl {D : DS} {a m : Int} (h : (Stp.fl a m).ok D.S.length) : opD D (flO a m) = (Stp.fl a m).on D := by
  obtain ⟨h0, h1, h2⟩ := h
  have he : hE D.S.length (8 * a) (8 * m) = 0 := by unfold hE; rw [if_neg (by omega), if_neg (by omega)]
  have ea : spA (8 * a) (8 * m) = a := by unfold spA; rw [if_neg (by omega)]; omega
  have eb : spB (8 * a) (8 * m) = a + m := by unfold spB; rw [if_neg (by omega)]; omega
  unfold opD flO
  simp only [if_true, he, ea, eb]
  rw [if_neg (by simp)]
  rfl
theorem opD_fe {D : DS} : opD D feO = Stp.fe.on D := by
  unfold opD feO
  rw [if_neg (by simp), if_neg (by simp), if_pos rfl]
  rfl
theorem put_ok {w : World} {a : Int} {A : Option Addr} {c : Nat} {l : List UInt8} (h0 : 0 ≤ a) (h1 : a ≤ 8192) (hr : Rd w w.heap.size A l.length c l) : (putO a A c l).ok w w.heap.size :=
  ⟨i64_iff.2 (by simp [putO]), i64_iff.2 (by simp [putO]; omega), i64_iff.2 (by simp [putO]), hr, RdI.nil _ _⟩
theorem fl_ok {w : World} {a m : Int} (h0 : 0 ≤ a) (h1 : a ≤ 8192) (h2 : 0 ≤ m) (h3 : m ≤ 8192) : (flO a m).ok w w.heap.size :=
  ⟨i64_iff.2 (by simp [flO]), i64_iff.2 (by simp [flO]; omega), i64_iff.2 (by simp [flO]; omega), Rd.nil _ _, RdI.nil _ _⟩
theorem fe_ok {w : World} : feO.ok w w.heap.size := ⟨i64_iff.2 (by simp [feO]), i64_iff.2 (by simp [feO]), i64_iff.2 (by simp [feO]), Rd.nil _ _, RdI.nil _ _⟩
theorem step_good {D : DS} {s : Stp} (hg : D.good) (h : s.ok D.S.length) : (s.on D).good := by
  have hl := Stp.on_length h
  refine ⟨by rw [hl]; exact hg.len, fun k x hx => ?_⟩
  rw [hl]
  cases s with
  | wr a l =>
    obtain ⟨h0, h1, h2⟩ := h
    have hx : wrL D.S D.L a (a + 1) k = some x := hx
    unfold wrL at hx
    by_cases c : a ≤ k ∧ k < a + 1
    · rw [if_pos c] at hx
      refine ⟨by omega, by omega, ?_⟩
      cases hx
      cases e : D.L k with
      | none => exact wordOf_length (by omega) (by omega)
      | some y => exact (hg.keyL k y e).2.2
    · rw [if_neg c] at hx; exact hg.keyL k x hx
  | fl a m => exact hg.keyL k x hx
  | fe =>
    have hx : feL D.L D.F k = some x := hx
    unfold feL at hx
    split at hx
    · cases hx
    · exact hg.keyL k x hx

theorem bringP_take2 {xs : List (Int × Int)} {k : Nat} {x : Int × Int} (h : xs[k]? = some x) : bringP (xs.take (k + 1)) = bringP (xs.take k) ++ [.wr x.1 (le x.2 8), .fl x.1 1] := by
  unfold bringP; rw [List.take_add_one, h]; simp [setS]
theorem runS_snoc (D : DS) (ss : List Stp) (s : Stp) : runS D (ss ++ [s]) = s.on (runS D ss) := by unfold runS; rw [List.foldl_append]; rfl
theorem runS_two (D : DS) (ss : List Stp) (s t : Stp) : runS D (ss ++ [s, t]) = t.on (s.on (runS D ss)) := by unfold runS; rw [List.foldl_append]; rfl
def RevPost (w : World) (base : Nat) (D' : DS) (q : Int) (e : Ending) (w' : World) : Prop := ∃ v, e = .returned (.tuple #[v, .int .i64 q]) ∧ OwW w' base v (wordsOf D') ∧ Below w.heap.size w w'
end Go.Proofs.YteggkojlpgkhbaaGreat

namespace Go.Proofs.YteggkojlpgkhbaaGreat
open Go.RowKit Go.Maps Go.Shelf
set_option linter.unusedVariables false

def cellsP (o : OpV) : List Value := [.int .i64 o.kind, .int .i64 o.at_, .int .i64 o.long, .slice o.ab o.nb o.cb, .slice o.ak o.nk o.ck]
def cellsO (os : List OpV) : List Value := (os.map cellsP).flatten
theorem cellsO_length (os : List OpV) : (cellsO os).length = os.length * 5 := by
  induction os with
  | nil => rfl
  | cons o os ih => have : cellsO (o :: os) = cellsP o ++ cellsO os := rfl; rw [this, List.length_append, ih]; simp [cellsP]; omega
theorem cellsO_append (a b : List OpV) : cellsO (a ++ b) = cellsO a ++ cellsO b := by simp [cellsO]
theorem cellsO_get : ∀ (os : List OpV) (i : Nat) (o : OpV), os[i]? = some o → ∀ j, j < 5 → (cellsO os)[i * 5 + j]? = (cellsP o)[j]? := by
  intro os
  induction os with
  | nil => intro i o h; simp at h
  | cons x os ih =>
    intro i o h j hj
    have e : cellsO (x :: os) = cellsP x ++ cellsO os := rfl
    have hl : (cellsP x).length = 5 := rfl
    rw [e]
    cases i with
    | zero =>
      simp at h; subst h
      rw [List.getElem?_append_left (by omega), Nat.zero_mul, Nat.zero_add]
    | succ i =>
      rw [List.getElem?_append_right (by omega), hl, show (i + 1) * 5 + j - 5 = i * 5 + j by omega]
      exact ih i o (by simpa using h) j hj
theorem cellsO_one : ∀ (l : List OpV), ∀ u ∈ cellsO l, u.oneCell' = true := by
  intro l u hu
  unfold cellsO at hu
  rw [List.mem_flatten] at hu
  obtain ⟨k, hk, hu⟩ := hu
  obtain ⟨x, _, rfl⟩ := List.mem_map.1 hk
  simp [cellsP] at hu
  rcases hu with rfl | rfl | rfl | rfl | rfl <;> rfl

/-- Block q, from lo on, begins with these bytes. -/
def Bk (w : World) (lo q : Nat) (l : List UInt8) : Prop := lo ≤ q ∧ ∃ cs f, w.heap[q]? = some (.cells cs 5 f) ∧ ∀ i (h : i < l.length), cs[i]? = some (bv l[i])
/-- o is the call of a step. -/
def OpS (w : World) (lo : Nat) (o : OpV) : Stp → Prop
  | .wr a l => ∃ q c, o = putO a (some ⟨q, 0, none⟩) c l ∧ l.length ≤ c ∧ c ≤ maxLen ∧ Bk w lo q l
  | .fl a m => o = flO a m
  | .fe => o = feO
/-- v owns a row of the calls of the steps ss. -/
def StO (w : World) (lo base : Nat) (v : Value) (ss : List Stp) : Prop :=
  ∃ os : List OpV, w.ownsRow base 54 5 v ss.length (cellsO os) ∧ os.length = ss.length ∧ ∀ (i : Nat) (s : Stp), ss[i]? = some s → ∃ o, os[i]? = some o ∧ OpS w lo o s
def KeepU (lo : Nat) (w w' : World) : Prop := ∀ k cs f, w.heap[k]? = some (.cells cs 5 f) → lo ≤ k → w'.heap[k]? = some (.cells cs 5 f)
theorem blk_lt {w : World} {k : Nat} {o : Obj} (h : w.heap[k]? = some o) : k < w.heap.size := by
  by_cases hlt : k < w.heap.size
  · exact hlt
  · rw [Array.getElem?_eq_none (by omega)] at h; cases h
theorem KeepU.below {lo : Nat} {w w' : World} (h : Below w.heap.size w w') : KeepU lo w w' := fun k cs t hk _ => (h.block k (blk_lt hk)).trans hk
theorem KeepU.fr {lo g lb fb : Nat} {w w' : World} (h : Fr g lb fb w w') (h1 : g < lo) (h2 : lb < lo) (h3 : fb < lo) : KeepU lo w w' :=
  fun k cs t hk hl => (h.block k (blk_lt hk) (by omega) (by omega) (by omega)).trans hk
theorem Bk.keep {lo q : Nat} {w w' : World} {l : List UInt8} (h : Bk w lo q l) (hk : KeepU lo w w') : Bk w' lo q l := by
  obtain ⟨h1, cs, f, h2, h3⟩ := h
  exact ⟨h1, cs, f, hk _ _ _ h2 h1, h3⟩
theorem OpS.keep {lo : Nat} {w w' : World} {o : OpV} {s : Stp} (h : OpS w lo o s) (hk : KeepU lo w w') : OpS w' lo o s := by
  cases s with
  | wr a l => obtain ⟨q, c, h1, h2, h3, h4⟩ := h; exact ⟨q, c, h1, h2, h3, h4.keep hk⟩
  | fl a m => exact h
  | fe => exact h
theorem Bk.rd {lo q : Nat} {w : World} {l : List UInt8} {c : Nat} (h : Bk w lo q l) (h1 : l.length ≤ c) (h2 : c ≤ maxLen) : Rd w w.heap.size (some ⟨q, 0, none⟩) l.length c l := by
  obtain ⟨h0, cs, f, h3, h4⟩ := h
  exact ⟨rfl, h1, h2, (fun h => by cases h), fun _ => ⟨q, 0, rfl, blk_lt h3, fun i hi => by rw [cell_of_row w q _ cs _ f h3, Nat.zero_add]; exact h4 i hi⟩⟩
section
variable {w w' : World} {lo base : Nat} {v v' : Value} {ss ss' : List Stp}
theorem StO.shape (h : StO w lo base v ss) : ∃ A c, v = .slice A ss.length c := by
  obtain ⟨os, ⟨_, h1⟩, _⟩ := h
  rcases h1 with ⟨rfl, h0⟩ | ⟨g, c, cur, rfl, _⟩
  · exact ⟨none, 0, by rw [h0]⟩
  · exact ⟨_, c, rfl⟩
theorem StO.row (h : StO w lo base v ss) : ∀ j, v.ownBlock = some j → base ≤ j ∧ ∃ cs, w.heap[j]? = some (.cells cs 54 (0, 0)) := by
  intro j hj
  obtain ⟨vs, ⟨_, h1⟩, _⟩ := h
  rcases h1 with ⟨rfl, h0⟩ | ⟨g, c, cur, rfl, hb, hg, _⟩
  · simp [Value.ownBlock] at hj
  · simp [Value.ownBlock] at hj; subst hj; exact ⟨hb, _, hg⟩
theorem StO.keep (h : StO w lo base v ss) (hk : KeepU lo w w') (hr : ∀ j cs, v.ownBlock = some j → w.heap[j]? = some (.cells cs 54 (0, 0)) → w'.heap[j]? = some (.cells cs 54 (0, 0))) : StO w' lo base v ss := by
  obtain ⟨os, ⟨h0, h1⟩, hl, h2⟩ := h
  refine ⟨os, ⟨h0, ?_⟩, hl, fun i s hi => by obtain ⟨u, h3, h4⟩ := h2 i s hi; exact ⟨u, h3, h4.keep hk⟩⟩
  rcases h1 with h3 | ⟨g, c, cur, hv, hb, hg, h3⟩
  · exact .inl h3
  · exact .inr ⟨g, c, cur, hv, hb, hr g cur (by rw [hv]; rfl) hg, h3⟩
theorem StO.on (h : StO w lo base v ss) (hb : Below w.heap.size w w') : StO w' lo base v ss :=
  h.keep (KeepU.below hb) (fun j cs _ hj => (hb.block j (row_lt hj)).trans hj)
theorem StO.heapEq (h : StO w lo base v ss) (he : w'.heap = w.heap) : StO w' lo base v ss :=
  h.keep (fun k cs f hk _ => by rw [he]; exact hk) (fun j cs _ hj => by rw [he]; exact hj)
theorem StO.fr (h : StO w lo base v ss) {g lb fb : Nat} (hf : Fr g lb fb w w') (h1 : g < lo) (h2 : lb < lo) (h3 : fb < lo) (hl : lo ≤ base) : StO w' lo base v ss :=
  h.keep (KeepU.fr hf h1 h2 h3) (fun j cs hv hj => by
    have := (h.row j hv).1
    exact (hf.block j (row_lt hj) (by omega) (by omega) (by omega)).trans hj)
theorem StO.less {base' : Nat} (h : StO w lo base v ss) (hb : base' ≤ base) : StO w lo base' v ss := by
  obtain ⟨vs, ⟨h0, h1⟩, h2⟩ := h
  refine ⟨vs, ⟨h0, ?_⟩, h2⟩
  rcases h1 with h3 | ⟨g, c, cur, hv, hb', hg⟩
  · exact .inl h3
  · exact .inr ⟨g, c, cur, hv, Nat.le_trans hb hb', hg⟩
theorem KeepU.own (h : StO w lo base v ss) (hg : w.grownBy w' v.ownBlock) : KeepU lo w w' := fun k cs f hk _ => (hg.block k (blk_lt hk) (fun e => by
  obtain ⟨_, cs', hc⟩ := h.row k e.symm
  rw [hc] at hk; simp at hk)).trans hk
theorem infoO : (Tryz.prog.info? 54).map (fun i => (i.zero, i.size, i.bytes)) = some (some (.agg #[.int .i64 0, .int .i64 0, .int .i64 0, .slice none 0 0, .slice none 0 0]), 5, 72) := by kernel_rfl
/-- append(v, news...), v of the call's own. -/
theorem run_appO (h : StO w lo base v ss) {q m c : Nat} {news : List OpV} (hl : news.length = m) (hq : w.heap[q]? = some (.cells (cellsO news).toArray 54 (0, 0))) (hlen : ss.length + m ≤ 1000000) (hb : base ≤ w.heap.size)
    (hs : ss'.length = m) (hv : ∀ (i : Nat) (s : Stp), ss'[i]? = some s → ∃ o, news[i]? = some o ∧ OpS w lo o s) (ty : TypeId) :
    ∃ v' w', (Builtin.append_ #[23, 23] ty #[v, .slice (some ⟨q, 0, none⟩) m c]).run Tryz.prog w = .ok v' w' ∧ StO w' lo base v' (ss ++ ss') ∧ w.grownBy w' v.ownBlock := by
  have hi8 := infoO
  cases hi : Tryz.prog.info? 54 with
  | none => rw [hi] at hi8; cases hi8
  | some i =>
    rw [hi] at hi8
    simp only [Option.map_some, Option.some.injEq, Prod.mk.injEq] at hi8
    obtain ⟨hz, hsz, hby⟩ := hi8
    obtain ⟨os, how, hol, hst⟩ := h
    obtain ⟨v', W', hr, ho, hg, hnil⟩ := run_append_own (P := Tryz.prog) w base 23 ty 54 i (.agg #[.int .i64 0, .int .i64 0, .int .i64 0, .slice none 0 0, .slice none 0 0]) 5 72 Tryz.underlying23 hi hz hsz hby rfl (by omega) v ss.length (cellsO os) how ⟨q, 0, none⟩ m c (cellsO news) (by rw [cellsO_length, hl]) (fun j u hj => by rw [add_plain, Nat.zero_add, row_cell hq]; simpa using hj) (cellsO_one news) (by unfold maxLen; omega) (by omega) hb
    have hk : KeepU lo w W' := KeepU.own ⟨os, how, hol, hst⟩ hg
    refine ⟨v', W', hr, ⟨os ++ news, ?_, by simp [hol, hl, hs], fun j s hj => ?_⟩, hg⟩
    · have e : (ss ++ ss').length = ss.length + m := by simp [hs]
      rw [e, cellsO_append]; exact ho
    · by_cases hlt : j < ss.length
      · rw [List.getElem?_append_left hlt] at hj
        obtain ⟨u, hu, hsv⟩ := hst j s hj
        exact ⟨u, by rw [List.getElem?_append_left (by omega)]; exact hu, hsv.keep hk⟩
      · rw [List.getElem?_append_right (by omega)] at hj
        obtain ⟨u, hu, hsv⟩ := hv _ s hj
        exact ⟨u, by rw [List.getElem?_append_right (by omega), hol]; exact hu, hsv.keep hk⟩
theorem Bk.less {q : Nat} {l : List UInt8} {lo' : Nat} (h : Bk w lo q l) (hl : lo' ≤ lo) : Bk w lo' q l := ⟨Nat.le_trans hl h.1, h.2⟩
theorem Bk.on {q : Nat} {l : List UInt8} (h : Bk w lo q l) (hb : Below w.heap.size w w') : Bk w' lo q l := h.keep (KeepU.below hb)
/-- append of calls that have just been laid in a row. -/
theorem appO (h : StO w lo base v ss) (hb : base ≤ w.heap.size) (hlen : ss.length ≤ 100000) {cs : Array Value} {news : List OpV} {m : Nat} (hm : news.length = m) (hm1 : m ≤ 100) (hs : ss'.length = m) (hcs : (cellsO news).toArray = cs) (hv : ∀ (i : Nat) (s : Stp), ss'[i]? = some s → ∃ o, news[i]? = some o ∧ OpS w lo o s) (ty : TypeId) :
    ∃ v' w', (Builtin.append_ #[23, 23] ty #[v, .slice (some ⟨w.heap.size, 0, none⟩) m m]).run Tryz.prog (w.alloc (.cells cs 54)) = .ok v' w' ∧ StO w' lo base v' (ss ++ ss') ∧ Below base (w.alloc (.cells cs 54)) w' := by
  have hk : Below w.heap.size w (w.alloc (.cells cs 54)) := B1 _ _
  obtain ⟨v', w', hrun, hst, hg⟩ := run_appO (c := m) (h.on hk) hm (by rw [hcs]; exact heap_alloc_new w _) (by omega) (Nat.le_trans hb hk.size) hs (fun i s hi => by obtain ⟨o, h1, h2⟩ := hv i s hi; exact ⟨o, h1, h2.keep (KeepU.below hk)⟩) ty
  exact ⟨v', w', hrun, hst, (Below.refl _ _).grown hg (Nat.le_trans hb hk.size) (fun j hj => (h.row j hj).1)⟩
/-- A new row. -/
theorem StO.new {q : Nat} {news : List OpV} {m : Nat} (hl : news.length = m) (hm : m ≤ 1000) (hq : w.heap[q]? = some (.cells (cellsO news).toArray 54 (0, 0))) (hb : base ≤ q) (hs : ss.length = m)
    (hv : ∀ (i : Nat) (s : Stp), ss[i]? = some s → ∃ o, news[i]? = some o ∧ OpS w lo o s) : StO w lo base (.slice (some ⟨q, 0, none⟩) m m) ss := by
  refine ⟨news, ⟨by rw [cellsO_length, hl, hs], .inr ⟨q, m, _, by rw [hs], hb, hq, by omega, by unfold maxLen; omega, ?_, ?_⟩⟩, by omega, hv⟩
  · simp [cellsO_length, hl]
  · rw [hs, List.toList_toArray, List.take_of_length_le (by rw [cellsO_length, hl]; exact Nat.le_refl _)]
end
theorem step_appO {w w' : World} {o : Oper} {a : Act} {K : Act → World → Prop} {Q : Exit → Act → World → Prop} {y : Nat → Option Bool} {v v' u : Value} (hgd : o.guard = none) (s x : Operand)
    (hop : o.op = .call { callee := .builtin .append, args := #[s, x], argTypes := #[23, 23] }) (hs : a.eval s = v) (hx : a.eval x = u)
    (hrun : (Builtin.append_ #[23, 23] o.type #[v, u]).run Tryz.prog w = .ok v' w') (hk : K (a.put o.dst v') w') :
    if Region.wanted o y = true then Oper.wp Tryz.prog o a w K Q else K (a.put o.dst undef) w := by
  simp only [Region.wanted, hgd, if_true]
  unfold Oper.wp execOp
  simp only [hop, resolve, invoke, builtin, Sem.run_bind, Sem.run_pure, Result.andThen_ok, List.map_toArray, List.map_cons, List.map_nil, hs, hx, hrun]
  exact hk
theorem wpList_appO {w w' : World} {ops : Array Oper} {rest : List Oper} {o : Oper} {a : Act} {Q : Exit → Act → World → Prop} {v v' u : Value} (hgd : o.guard = none) (s x : Operand)
    (hop : o.op = .call { callee := .builtin .append, args := #[s, x], argTypes := #[23, 23] }) (hs : a.eval s = v) (hx : a.eval x = u)
    (hrun : (Builtin.append_ #[23, 23] o.type #[v, u]).run Tryz.prog w = .ok v' w') (hk : wpList Tryz.prog ops Q rest (a.put o.dst v') w') : wpList Tryz.prog ops Q (o :: rest) a w := by
  refine wpList_plain hgd fun K hK => ?_
  unfold Oper.wp execOp
  simp only [hop, resolve, invoke, builtin, Sem.run_bind, Sem.run_pure, Result.andThen_ok, List.map_toArray, List.map_cons, List.map_nil, hs, hx, hrun]
  exact hK _ _ hk

theorem run_bytesB (w : World) (l : List UInt8) (hl : l.length ≤ 1000000) : ∃ c w', (convert 9 22 (.string ⟨l.toArray⟩)).run Tryz.prog w = .ok (.slice (some ⟨w.heap.size, 0, none⟩) l.length c) w' ∧ Bk w' w.heap.size w.heap.size l ∧ l.length ≤ c ∧ c ≤ maxLen ∧ Below w.heap.size w w' := by
  refine ⟨_, _, Lib.run_convert_string_bytes (P := Tryz.prog) w 9 22 5 ⟨l.toArray⟩ Tryz.underlying9 Tryz.underlying22 Tryz.underlying5, ⟨Nat.le_refl _, _, _, Lib.bytesWorld_at_new _ _ _, fun i hi => ?_⟩, grownCap_ge _ _ _ _, grownCap_le_maxLen _ _ _ _ (by show l.length ≤ maxLen; unfold maxLen; omega), ?_⟩
  · simp [Lib.bytesCells, Array.getElem?_append, hi]; rfl
  · exact ⟨rfl, rfl, rfl, by rw [Lib.bytesWorld_size]; omega, fun i hi => Lib.bytesWorld_at_old w 5 ⟨l.toArray⟩ i hi⟩
set_option maxHeartbeats 1000000 in
theorem rputop2_any {w : World} (a : Int) (h0 : 0 ≤ a) (h1 : a ≤ 8192) (l : List UInt8) (m : Nat) (hlm : l.length = m) (hl : m ≤ 1000000) :
    Calls Tryz.prog 39 #[.int .i64 a, .string ⟨l.toArray⟩] w fun e w' => ∃ q c, e = .returned (.agg #[.int .i64 0, .int .i64 (8 * a), .int .i64 0, .slice (some ⟨q, 0, none⟩) m c, .slice none 0 0]) ∧ Bk w' w.heap.size q l ∧ m ≤ c ∧ c ≤ maxLen ∧ Below w.heap.size w w' := by
  subst hlm
  obtain ⟨w1, hw1⟩ : ∃ w1, w1 = w.alloc (.cells #[.int .i64 0, .int .i64 0, .int .i64 0, .slice none 0 0, .slice none 0 0] 54) := ⟨_, rfl⟩
  obtain ⟨c, w2, hrun, hbk, hc1, hc2, hb2⟩ := run_bytesB w1 l hl
  have hs1 : w1.heap.size = w.heap.size + 1 := by rw [hw1]; simp
  have hbl : w2.heap[w.heap.size]? = some (.cells #[.int .i64 0, .int .i64 0, .int .i64 0, .slice none 0 0, .slice none 0 0] 54 (0, 0)) := by
    rw [hb2.block _ (by omega), hw1]; exact heap_alloc_new _ _
  have f0 := row_cell hbl 0; have f1 := row_cell hbl 1; have f2 := row_cell hbl 2; have f3 := row_cell hbl 3; have f4 := row_cell hbl 4
  have g0 := row_frozen hbl
  have hlt := row_lt hbl
  have HBL := hid hbl
  rw [hs1] at hrun hbk
  rw [hw1] at hrun
  have HBK := hid hbk; have HC1 := hid hc1; have HC2 := hid hc2
  have HB2 : Hid (Below w.heap.size w w2) := Bt (by rw [hw1]; exact B1 _ _) hb2
  clear hbk hc1 hc2 hb2 hbl hw1 hs1
  go_enter Tryz.func39, Tryz.ntmps39
  go_wp2_with fail
  have hrow := row_set (row_set (row_set (row_set (row_set HBL.out 0 (.int .i64 0)) 1 (.int .i64 (8 * a))) 2 (.int .i64 0)) 3 (.slice (some ⟨w.heap.size + 1, 0, none⟩) l.length c)) 4 (.slice none 0 0)
  have r0 := row_cell hrow 0; have r1 := row_cell hrow 1; have r2 := row_cell hrow 2; have r3 := row_cell hrow 3; have r4 := row_cell hrow 4
  simp at r0 r1 r2 r3 r4
  refine bodyPost_ret (v := .agg #[.int .i64 0, .int .i64 (8 * a), .int .i64 0, .slice (some ⟨w.heap.size + 1, 0, none⟩) l.length c, .slice none 0 0]) (by simp [results, Tryz.results39, go_sem, r0, r1, r2, r3, r4]) rfl ⟨w.heap.size + 1, c, rfl, ?_, HC1.out, HC2.out, ?_⟩
  · obtain ⟨b1, cs, f, b2, b3⟩ := HBK.out
    refine ⟨by omega, cs, f, ?_, b3⟩
    rw [Below.heap_setCell _ _ _ _ (by simp), Below.heap_setCell _ _ _ _ (by simp), Below.heap_setCell _ _ _ _ (by simp), Below.heap_setCell _ _ _ _ (by simp), Below.heap_setCell _ _ _ _ (by simp)]
    exact b2
  · exact ((((HB2.out.setCell (Nat.le_refl _) _).setCell (Nat.le_refl _) _).setCell (Nat.le_refl _) _).setCell (Nat.le_refl _) _).setCell (Nat.le_refl _) _
end Go.Proofs.YteggkojlpgkhbaaGreat
