/-
  The document's Refs and Get of layer 6.
  The program's Layout of layer 6.
-/
import Derived.Test.YtggfcbncjkpkgaaM7
import Derived.Test.YtggfcbncjkpkgaaM3
import Derived.Test.YtggfcbncjkpkgaaM9

namespace Go.Proofs.Ytggfcbncjkpkgaa
open Go.RowKit
set_option linter.unusedVariables false

def refP : Int → List Fd → List Int
  | _, [] => []
  | a, f :: l => (if f.k = 11 then [placeF a f] else []) ++ refP (placeF a f + f.long) l
def refL (l : List Fd) : List Int := if rightL l then refP 0 l else []
theorem refP_append : ∀ (l l' : List Fd) (a : Int), refP a (l ++ l') = refP a l ++ refP (layE a l) l' := by
  intro l; induction l with
  | nil => intro l' a; rfl
  | cons f l ih => intro l' a; have := ih l' (placeF a f + f.long); show _ ++ refP (placeF a f + f.long) (l ++ l') = (_ ++ refP (placeF a f + f.long) l) ++ refP (layE (placeF a f + f.long) l) l'; rw [this, List.append_assoc]
theorem refP_take {l : List Fd} {i : Nat} {f : Fd} (h : l[i]? = some f) (a : Int) : refP a (l.take (i + 1)) = refP a (l.take i) ++ (if f.k = 11 then [placeF (layE a (l.take i)) f] else []) := by
  rw [List.take_add_one, h, refP_append]; simp [refP]
theorem refP_le : ∀ (l : List Fd) (a : Int), (refP a l).length ≤ l.length := by
  intro l; induction l with
  | nil => intro a; simp [refP]
  | cons f l ih => intro a; have := ih (placeF a f + f.long); show ((if f.k = 11 then [placeF a f] else []) ++ refP (placeF a f + f.long) l).length ≤ _; rw [List.length_append]; split <;> simp <;> omega
theorem lay_bd {l : List Fd} {x : Int} (hx : x ∈ layL l) : 0 ≤ x ∧ x ≤ 1160 := by
  unfold layL at hx
  cases hr : rightL l with
  | false => rw [hr] at hx; cases hx
  | true =>
    rw [hr] at hx
    have hx : x ∈ layP 0 l := hx
    obtain ⟨i, hi⟩ := List.mem_iff_getElem?.1 hx
    have hil : i < l.length := by
      by_cases c : i < l.length
      · exact c
      · rw [List.getElem?_eq_none (by rw [layP_length]; omega)] at hi; cases hi
    have h1 := lay_in hr (List.getElem?_eq_getElem hil) hi
    have h2 := layN_bounds hr
    have h3 := long_pos (right_may hr _ (List.getElem_mem hil))
    omega
theorem refP_sub : ∀ (l : List Fd) (a : Int), ∀ x ∈ refP a l, x ∈ layP a l := by
  intro l; induction l with
  | nil => intro a x hx; cases hx
  | cons f l ih =>
    intro a x hx
    have hx : x ∈ (if f.k = 11 then [placeF a f] else []) ++ refP (placeF a f + f.long) l := hx
    show x ∈ placeF a f :: layP (placeF a f + f.long) l
    rcases List.mem_append.1 hx with h | h
    · split at h
      · rw [List.mem_singleton] at h; rw [h]; exact List.mem_cons_self
      · cases h
    · exact List.mem_cons_of_mem _ (ih _ x h)
theorem ref_bd {l : List Fd} {x : Int} (hx : x ∈ refL l) : 0 ≤ x ∧ x ≤ 1160 := by
  refine lay_bd (l := l) ?_
  unfold refL at hx; unfold layL
  cases hr : rightL l with
  | false => rw [hr] at hx; cases hx
  | true => rw [hr] at hx; exact refP_sub l 0 x hx
theorem lay_I64 {l : List Fd} : ∀ x ∈ layL l, I64 x := fun x hx => by have := lay_bd hx; exact i64_iff.2 (by omega)
theorem layL_right {l : List Fd} (h : rightL l = true) : layL l = layP 0 l := by unfold layL; rw [h]; rfl
theorem layT_right {l : List Fd} (h : rightL l = true) : layT l = layN l := by unfold layT; rw [h]; rfl
theorem layL_wrong {l : List Fd} (h : rightL l = false) : layL l = [] := by unfold layL; rw [h]; rfl
theorem layT_wrong {l : List Fd} (h : rightL l = false) : layT l = 0 := by unfold layT; rw [h]; rfl
theorem layT_bd (l : List Fd) : 0 ≤ layT l ∧ layT l ≤ 1160 := by
  cases hr : rightL l with
  | false => rw [layT_wrong hr]; omega
  | true => rw [layT_right hr]; have := layN_bounds hr; omega

set_option maxHeartbeats 2000000 in
theorem r6refs_any {w : World} {A : Option Addr} {n c : Nat} {l : List Fd} (h : RdF w w.heap.size A n c l) (hs : short l) :
    Calls Try.prog 19 #[.slice A n c] w fun e w' => ∃ v, e = .returned v ∧ OwI w' w.heap.size v (refL l) ∧ Below w.heap.size w w' := by
  have HL := hid h.1
  have H := hid h; have HS := hid hs; clear h hs
  go_enter Try.func19, Try.ntmps19
  go_wp2_with fail
  refine (r6layout_any H.out HS.out).mono ?_
  rintro e w1 ⟨v1, rfl, ho1, hb1⟩
  obtain ⟨A1, c1, rfl, hr1⟩ := ho1.rd lay_I64
  obtain ⟨M, hM⟩ : ∃ M, M = (layL l).length := ⟨_, rfl⟩
  rw [← hM] at hr1 ⊢
  have HR1 := hid hr1; have HM := hid hM; have HB1 := hid hb1
  have hM16 : (M : Int) ≤ 16 := by
    rw [hM]
    cases hr : rightL l with
    | false => rw [layL_wrong hr]; simp
    | true => rw [layL_right hr, layP_length]; have := right_len hr; omega
  have HE : Hid (refL l = refP 0 (l.take M)) := by
    show _ = _
    rw [hM]
    cases hr : rightL l with
    | false => rw [layL_wrong hr]; simp [refL, hr, refP]
    | true => rw [layL_right hr, layP_length, List.take_length]; simp [refL, hr]
  have HRM : Hid (0 < M → rightL l = true) := fun h0 => by
    cases hr : rightL l with
    | true => rfl
    | false => rw [hM, layL_wrong hr] at h0; simp at h0
  have HMn : Hid (M ≤ n) := by
    show _ ≤ _
    rw [hM]
    cases hr : rightL l with
    | false => rw [layL_wrong hr]; simp
    | true => rw [layL_right hr, layP_length, HL.out]; exact Nat.le_refl _
  clear ho1 hr1 hM hb1
  go_wp2_with fail
  go_loopw [3, 6] (fun v i wr => ∃ j : Nat, j ≤ M ∧ i = .int .i64 j ∧ Hid (OwI wr w1.heap.size v (refP 0 (l.take j))) ∧ Hid (Below w1.heap.size w1 wr)) (fun _ i _ => M - (intOf i).toNat)
  case atStart => exact ⟨0, by omega, rfl, hid (OwI.nil _ _), hid (B0 _)⟩
  case round =>
    obtain ⟨j, hj, rfl, HO, HB⟩ := hrel
    have HBW := hid (Bt HB1.out HB.out)
    by_cases hlt : j < M
    · have hjl : j < l.length := by have := HMn.out; have := HL.out; omega
      obtain ⟨f, hf⟩ : ∃ f, l[j]? = some f := ⟨_, List.getElem?_eq_getElem hjl⟩
      obtain ⟨hjn, _, _, _, b, off, rfl, hc⟩ := H.out.at hf
      have HF := hid hf
      obtain ⟨c0, cc1, cc2⟩ := hc wr HBW.out
      obtain ⟨b2, off2, rfl, hbl2, hc2⟩ := (HR1.out.below HB.out).2.2.2.2 (by omega)
      have hpl : j < (layL l).length := by rw [← HM.out]; exact hlt
      obtain ⟨p, hp⟩ : ∃ p, p = (layL l)[j] := ⟨_, rfl⟩
      have hcp := hc2 j hpl
      rw [← hp] at hcp
      have HPF : Hid (p = placeF (layE 0 (l.take j)) f) := by
        have hr := HRM.out (by omega)
        have h1 : (layL l)[j]? = some p := by rw [hp]; exact List.getElem?_eq_getElem hpl
        rw [layL_right hr, layP_get hf] at h1
        cases h1; rfl
      have hji : (j : Int) < M := by omega
      have hjni : (j : Int) < n := by omega
      have hj0 : (0 : Int) ≤ j := by omega
      clear hc hc2 hf hp
      by_cases h11 : f.k = 11
      · have t1 : (f.k == 11) = true := by rw [h11]; rfl
        have H11 := hid h11
        obtain ⟨v', w3, hrun, hown, hbw⟩ := run_appI HO.out p (by have := refP_le (l.take j) 0; rw [List.length_take] at this; omega) HB.out.size 25
        have HRUN := hid hrun; have HOW := hid hown
        have HB3 : Hid (Below w1.heap.size w1 w3) := HB.out.trans (((Below.refl _ _).alloc HB.out.size _).trans hbw)
        clear hrun hown hbw h11
        go_wp2_with (at_builtin; refine wpList_appI rfl _ _ rfl rfl rfl HRUN.out ?_)
        go_roundw
        case rel => exact ⟨j + 1, by omega, by simp, hid (by rw [refP_take HF.out, if_pos H11.out, ← HPF.out]; exact HOW.out), HB3⟩
        case measure => simp [intOf]; omega
      · have t1 : (f.k == 11) = false := by simpa using h11
        have H11 := hid h11
        clear h11
        go_wp2_with fail
        exact ⟨⟨j + 1, by omega, by go_num, hid (by rw [refP_take HF.out, if_neg H11.out, List.append_nil]; exact HO.out), HB⟩, by simp [intOf]; omega⟩
    · obtain rfl : j = M := by omega
      go_wp2_with fail
      go_ret
      refine ⟨_, rfl, ?_, HBW.out⟩
      rw [HE.out]
      have := HO.out
      refine ⟨this.1, ?_⟩
      rcases this.2 with h1 | ⟨g, cap, cur, hv, hbase, hg⟩
      · exact .inl h1
      · exact .inr ⟨g, cap, cur, hv, Nat.le_trans HB1.out.size hbase, hg⟩
end Go.Proofs.Ytggfcbncjkpkgaa

namespace Go.Proofs.Ytggfcbncjkpkgaa
open Go.RowKit
set_option linter.unusedVariables false
attribute [local go_sem] Oper.semAt_some

theorem wpListIn_app {P : Program} {l n : Nat} {w w' : World} {ops : Array Oper} {rest : List Oper} {o : Oper} {a : Act} {Q : Exit → Act → World → Prop} {v v' u : Value} {t1 t2 : TypeId} (hgd : o.guard = none) (s x : Operand)
    (hop : o.op = .call { callee := .builtin .append, args := #[s, x], argTypes := #[t1, t2] }) (hs : a.eval s = v) (hx : a.eval x = u)
    (hrun : (Builtin.append_ #[t1, t2] o.type #[v, u]).run P w = .ok v' w') (hk : wpListIn (Fence.wide.inRound l) n P ops Q rest (a.put o.dst v') w') : wpListIn (Fence.wide.inRound l) n P ops Q (o :: rest) a w := by
  refine wpListIn_plain hgd fun K hK => ⟨fun _ _ => trivial, ?_⟩
  rw [Oper.semAt_eq _ _ _ (by rw [hop]; intro c h; cases h)]
  unfold execOp
  simp only [hop, resolve, invoke, builtin, Sem.run_bind, Sem.run_pure, Result.andThen_ok, List.map_toArray, List.map_cons, List.map_nil, hs, hx, hrun]
  exact hK _ _ hk
/-- append(v, x), and what it turns. -/
theorem run_appI2 {w : World} {base : Nat} {v : Value} {l : List Int} (h : OwI w base v l) (x : Int) (hlen : l.length ≤ 1000000) (hb : base ≤ w.heap.size) (ty : TypeId) :
    ∃ v' w', (Builtin.append_ #[25, 25] ty #[v, .slice (some ⟨w.heap.size, 0, none⟩) 1 1]).run Try.prog (w.alloc (.cells #[.int .i64 x] 3)) = .ok v' w' ∧ OwI w' base v' (l ++ [x]) ∧ (w.alloc (.cells #[.int .i64 x] 3)).grownBy w' v.ownBlock := by
  have hi8 := infoI
  have hk : Below w.heap.size w (w.alloc (.cells #[.int .i64 x] 3)) := B1 _ _
  cases hi : Try.prog.info? 3 with
  | none => rw [hi] at hi8; cases hi8
  | some i =>
    rw [hi] at hi8
    simp only [Option.map_some, Option.some.injEq, Prod.mk.injEq] at hi8
    obtain ⟨hz, hsz, hby⟩ := hi8
    obtain ⟨v', W', hr, ho, hg, hnil⟩ := run_append_own (P := Try.prog) (w.alloc (.cells #[.int .i64 x] 3)) base 25 ty 3 i (.int .i64 0) 1 8 Try.underlying25 hi hz hsz hby rfl (by omega) v l.length (l.map iv) (h.on hk) ⟨w.heap.size, 0, none⟩ 1 1 [iv x] rfl (fun j u hj => by rw [add_plain, Nat.zero_add, row_cell (heap_alloc_new w _)]; match j, hj with | 0, h => exact h) (by intro u hu; simp at hu; subst hu; rfl) (by unfold maxLen; omega) (by omega) (Nat.le_trans hb hk.size)
    refine ⟨v', W', hr, ?_, hg⟩
    unfold OwI
    rw [List.length_append, List.map_append]; exact ho
section
variable {w w' : World} {base : Nat} {v : Value} {l : List Int} {row : Option Nat}
/-- The row that a slice of the call's own stands in. -/
theorem OwI.blk2 (h : OwI w base v l) : ∀ r, v.ownBlock = some r → base ≤ r ∧ ∃ cs, w.heap[r]? = some (.cells cs 3 (0, 0)) := by
  intro j hj
  rcases h.2 with ⟨e, _⟩ | ⟨g, cap, cur, e, hbase, hg, _⟩
  · rw [e] at hj; simp [Value.ownBlock] at hj
  · rw [e] at hj; simp [Value.ownBlock] at hj; subst hj; exact ⟨hbase, _, hg⟩
theorem OwI.keep (h : OwI w base v l) (hg : w.grownBy w' row) (hr : ∀ r, row = some r → ∃ o : Obj, w.heap[r]? = some o ∧ o.isCells = false) : OwI w' base v l := by
  refine ⟨h.1, ?_⟩
  rcases h.2 with h1 | ⟨g, cap, cur, hv, hbase, hg2, h3⟩
  · exact .inl h1
  · refine .inr ⟨g, cap, cur, hv, hbase, (hg.block g (row_lt hg2) (fun e => ?_)).trans hg2, h3⟩
    obtain ⟨o, ho, hc⟩ := hr g e.symm
    rw [hg2] at ho; cases ho; cases hc
theorem OwI.shape (h : OwI w base v l) : ∃ A n c, v = .slice A n c := by
  rcases h.2 with ⟨e, _⟩ | ⟨g, cap, cur, hv, _⟩
  · exact ⟨_, _, _, e⟩
  · exact ⟨_, _, _, hv⟩
theorem OwI.less (h : OwI w base v l) {b : Nat} (hb : b ≤ base) : OwI w b v l := by
  refine ⟨h.1, ?_⟩
  rcases h.2 with h1 | ⟨g, cap, cur, hv, hbase, hg, h3⟩
  · exact .inl h1
  · exact .inr ⟨g, cap, cur, hv, Nat.le_trans hb hbase, hg, h3⟩
/-- A row stands where a cell below its base turns. -/
theorem OwI.set (h : OwI w base v l) {g : Nat} (hb : g < base) (i : Nat) (u : Value) : OwI (w.setCell ⟨g, i, none⟩ u) base v l := by
  refine ⟨h.1, ?_⟩
  rcases h.2 with h1 | ⟨g2, cap, cur, hv, hbase, hg, h3⟩
  · exact .inl h1
  · exact .inr ⟨g2, cap, cur, hv, hbase, (Below.heap_setCell w ⟨g, i, none⟩ u g2 (show g2 ≠ g by omega)).trans hg, h3⟩
end
theorem cells_keep {W W' : World} {row : Option Nat} {b : Nat} {cs : Array Value} {t : TypeId} (h : W.heap[b]? = some (.cells cs t (0, 0))) (hg : W.grownBy W' row) (hr : ∀ r, row = some r → ∃ o : Obj, W.heap[r]? = some o ∧ o.isCells = false) : W'.heap[b]? = some (.cells cs t (0, 0)) :=
  (hg.block _ (row_lt h) (fun e => by obtain ⟨o, ho, hc⟩ := hr _ e.symm; rw [h] at ho; cases ho; cases hc)).trans h
theorem kf_grown {W W' : World} {row : Option Nat} {B : Nat} (hg : W.grownBy W' row) (hr : ∀ r, row = some r → ∃ cs t, W.heap[r]? = some (.cells cs t (0, 0))) : KeepsFrom B W W' :=
  ⟨hg.size, fun k o _ hk hc => (hg.block k (Array.getElem?_eq_some_iff.1 hk).1 (fun e => by
    obtain ⟨cs, t, h⟩ := hr k e.symm
    rw [hk] at h; cases h; cases hc)).trans hk⟩
theorem kf_set {W : World} {g B : Nat} {cs : Array Value} {t : TypeId} (h : W.heap[g]? = some (.cells cs t (0, 0))) (i : Nat) (u : Value) : KeepsFrom B W (W.setCell ⟨g, i, none⟩ u) :=
  ⟨by simp [World.setCell], fun k o _ hk hc => (Below.heap_setCell W ⟨g, i, none⟩ u k (fun e => by
    have e : k = g := e
    subst e
    rw [hk] at h; cases h; cases hc)).trans hk⟩

theorem places_any (w : World) (A : Option Addr) (n c : Nat) :
    Calls Try.prog 36 #[.slice A n c] w fun e w' => e = .returned (.func (.func 51) #[] #[.pointer (some ⟨w.heap.size, 0, none⟩)]) ∧ w' = w.alloc (.cells #[.slice A n c] 22) := by
  go_enter Try.func36, Try.ntmps36
  go_wp2_with fail
  go_ret
  exact ⟨rfl, rfl⟩

theorem plc_end (l : List Fd) : layP 0 (l.take (plcL l).length) = layL l ∧ up8 (layE 0 (l.take (plcL l).length)) = layT l := by
  cases hr : rightL l with
  | false => rw [plcL_wrong hr, layL_wrong hr, layT_wrong hr]; exact ⟨rfl, rfl⟩
  | true => rw [plcL_length hr, List.take_length, layL_right hr, layT_right hr]; exact ⟨rfl, rfl⟩
theorem plc_bd (l : List Fd) : 0 ≤ layE 0 (l.take (plcL l).length) ∧ layE 0 (l.take (plcL l).length) ≤ 1160 := by
  cases hr : rightL l with
  | false => rw [plcL_wrong hr, List.length_nil, List.take_zero]; exact ⟨by decide, by decide⟩
  | true =>
    rw [plcL_length hr, List.take_length]
    have h1 := layN_bounds hr
    have h2 := layE_bounds l 0 (right_may hr) (Int.le_refl _)
    omega
theorem below_put {w W : World} {D : Nat} {o o' : Obj} (h : Below w.heap.size w W) (hD : w.heap.size ≤ D) (hd : W.heap[D]? = some o) (hc : o.isCells = false) : Below w.heap.size w (W.putObj D o') := h.trans (belowKb (m := w.heap.size) (Nat.le_refl _) W D o o' hD hd hc)
/-- What a loop over places knows of its world: a list, and how far it has come. -/
structure LaySt (w W : World) (B : Nat) (l : List Fd) (k : Nat) (v : Value) (z : Int) : Prop where
  cl : W.heap[w.heap.size]? = some (.cells #[v] 25 (0, 0))
  ce : W.heap[w.heap.size + 1]? = some (.cells #[.int .i64 z] 3 (0, 0))
  ow : OwI W B v (layP 0 (l.take k))
  ez : z = layE 0 (l.take k)
  bl : Below w.heap.size w W
  az : B ≤ W.heap.size
theorem LaySt.on {w W W' : World} {B k : Nat} {l : List Fd} {v : Value} {z : Int} (h : LaySt w W B l k v z) (hb : Below W.heap.size W W') : LaySt w W' B l k v z :=
  ⟨(hb.block _ (row_lt h.cl)).trans h.cl, (hb.block _ (row_lt h.ce)).trans h.ce, h.ow.on hb, h.ez, h.bl.trans (hb.mono h.bl.size), Nat.le_trans h.az hb.size⟩
theorem LaySt.keep {w W W' : World} {B k : Nat} {l : List Fd} {v : Value} {z : Int} {row : Option Nat} (h : LaySt w W B l k v z) (hg : W.grownBy W' row) (hr : ∀ r, row = some r → w.heap.size ≤ r ∧ ∃ o : Obj, W.heap[r]? = some o ∧ o.isCells = false) : LaySt w W' B l k v z :=
  ⟨cells_keep h.cl hg (fun r e => (hr r e).2), cells_keep h.ce hg (fun r e => (hr r e).2), h.ow.keep hg (fun r e => (hr r e).2), h.ez, h.bl.grown hg (h.bl.size) (fun r e => (hr r e).1), Nat.le_trans h.az hg.size⟩

set_option maxRecDepth 100000 in
set_option maxHeartbeats 8000000 in
theorem p6layout_any {w : World} {A : Option Addr} {n c : Nat} {l : List Fd} (h : RdF w w.heap.size A n c l) (hs : short l) : Calls Try.prog 13 #[.slice A n c] w (LayQ w l) := by
  have HL := hid h.1
  have H := hid h; have HS := hid hs; clear h hs
  refine (callsIn_wide (n := 5)).1 (callsIn_of_wp_marks Try.func13 rfl trivial ?_ rfl)
  simp only [Try.ntmps13, List.size_toArray, List.length_cons, List.length_nil, Nat.reduceAdd, Nat.reduceSub, Array.replicate_succ, Array.replicate_zero, List.push_toArray, List.append_toArray, List.nil_append, List.cons_append]
  gi_wp2_with (fail)
  obtain ⟨w2, hw2⟩ : ∃ w2, w2 = (w.alloc (.cells #[.slice none 0 0] 25)).alloc (.cells #[.int .i64 0] 3) := ⟨_, rfl⟩
  rw [← hw2]
  have hs2 : w2.heap.size = w.heap.size + 2 := by rw [hw2]; simp
  have hb2 : Below w.heap.size w w2 := by rw [hw2]; exact Ba (B1 w _) _
  have y0 : w2.heap[w.heap.size]? = some (.cells #[.slice none 0 0] 25 (0, 0)) := by rw [hw2]; exact (Below.heap_alloc _ _ _ (by simp)).trans (heap_alloc_new w _)
  have y1 : w2.heap[w.heap.size + 1]? = some (.cells #[.int .i64 0] 3 (0, 0)) := by
    rw [hw2]; have := heap_alloc_new (w.alloc (.cells #[.slice none 0 0] 25)) (.cells #[.int .i64 0] 3); simpa using this
  clear hw2
  refine ⟨trivial, callsIn_wide.2 ((places_any _ _ _ _).mono ?_)⟩
  rintro e W0 ⟨rfl, hW0⟩
  have hs0 : W0.heap.size = w.heap.size + 3 := by rw [hW0]; simp [hs2]
  have hb0 : Below w2.heap.size w2 W0 := by rw [hW0]; exact B1 _ _
  have z0 := (hb0.block _ (row_lt y0)).trans y0
  have z1 := (hb0.block _ (row_lt y1)).trans y1
  have yB : W0.heap[w2.heap.size]? = some (.cells #[.slice A n c] 22 (0, 0)) := by rw [hW0]; exact heap_alloc_new _ _
  have hB0 : Below w.heap.size w W0 := Bt hb2 hb0
  have hit := places_iter (w := W0) yB (H.out.below hB0) HS.out (by omega)
  have hL0 : LaySt w W0 W0.heap.size l 0 (.slice none 0 0) 0 := ⟨z0, z1, OwI.nil _ _, rfl, hB0, Nat.le_refl _⟩
  have HS0 := hid hs0
  clear hW0 y0 y1 z0 z1 hb2 hb0 yB hs2
  gi_wp2_with (fail)
  obtain ⟨I, HI1⟩ : ∃ I : Nat → World → Prop, Hid (I = fun k W => ∃ v z, LaySt w W W0.heap.size l k v z) := ⟨_, hid rfl⟩
  refine range_any (gf := 51) (lb := #[.pointer (some ⟨w2.heap.size, 0, none⟩)]) rfl (enters_of Try.func51 (by kernel_rfl) rfl)
    hit (fun h k => KeepF.trans h k) (fun W l o o' hl h hc => KeepF.put (by have := HS0.out; omega) W l o o' hl h hc) (fun _ => rfl) I (fun _ _ _ => False)
    (by
      rw [HI1.out]
      rintro s A C row ⟨v, z, hs⟩ hg hr
      exact ⟨v, z, hs.keep hg (fun r e => ⟨by have := (hr r e).1; have := HS0.out; omega, (hr r e).2⟩)⟩)
    (fun c s A C row hs _ _ => hs)
    (by rw [HI1.out]; exact ⟨_, _, hL0⟩) ?_ ?_ ?_
  · rintro ll k x W1 hki hi1 hll hll2
    obtain ⟨f, P⟩ := x
    obtain ⟨hrt, hfk, hpk, hPe⟩ := plcL_at hki
    dsimp only at hfk hpk hPe
    have HRT := hid hrt; have HFK := hid hfk; have HPK := hid hpk; have HPE := hid hPe
    clear hrt hfk hpk hPe hki
    have hi1' := hi1
    rw [HI1.out] at hi1'
    obtain ⟨v1, z1, hst1⟩ := hi1'
    dsimp only [fv]
    gi_wp2_with (fail)
    refine ⟨kf_below (B1 _ _), KeepF.below (B1 _ _) (by have := hst1.bl.size; omega), by rw [HI1.out]; exact ⟨_, _, hst1.on (B1 _ _)⟩, ?_⟩
    rintro W2 hg2 hi2
    rw [HI1.out] at hi2
    obtain ⟨v, z, hst⟩ := hi2
    have hfb : FB W2 W1.heap.size (bs f.nm) f.k f.g := (hg2.block _ (by simp) (by simp; omega)).trans (heap_alloc_new W1 _)
    obtain ⟨q, hq⟩ : ∃ q, q = W1.heap.size := ⟨_, rfl⟩
    rw [← hq] at hfb ⊢
    have HQQ := hid hq
    clear hq
    have hrt := HRT.out; have hfk := HFK.out; have hpk := HPK.out; have hPe := HPE.out
    have hlen : (layP 0 (l.take k)).length ≤ 1000000 := by
      rw [layP_length, List.length_take]; have := right_len hrt; omega
    obtain ⟨v3, w3, hrun, hown, hgr⟩ := run_appI2 hst.ow P hlen hst.az 25
    obtain ⟨A3, n3, cc3, rfl⟩ := hown.shape
    have c0 : W2.cell? ⟨w.heap.size, 0, none⟩ = some v := by rw [row_cell hst.cl]; rfl
    -- behind the append
    have hb3 : Below W2.heap.size W2 (W2.alloc (.cells #[.int .i64 P] 3)) := B1 _ _
    have hrow : ∀ r, v.ownBlock = some r → W0.heap.size ≤ r ∧ ∃ cs, (W2.alloc (.cells #[.int .i64 P] 3)).heap[r]? = some (.cells cs 3 (0, 0)) := fun r e => by
      obtain ⟨h1, cs, h2⟩ := hst.ow.blk2 r e
      exact ⟨h1, cs, (hb3.block _ (row_lt h2)).trans h2⟩
    have hsz3 : W2.heap.size + 1 ≤ w3.heap.size := by have := hgr.size; simpa using this
    have hcl3 : w3.heap[w.heap.size]? = some (.cells #[v] 25 (0, 0)) := (hgr.block _ (by have := row_lt hst.cl; simp; omega) (fun e => by have := (hrow _ e.symm).1; have := HS0.out; omega)).trans ((hb3.block _ (row_lt hst.cl)).trans hst.cl)
    have hce3 : w3.heap[w.heap.size + 1]? = some (.cells #[.int .i64 z] 3 (0, 0)) := (hgr.block _ (by have := row_lt hst.ce; simp; omega) (fun e => by have := (hrow _ e.symm).1; have := HS0.out; omega)).trans ((hb3.block _ (row_lt hst.ce)).trans hst.ce)
    have hfb3 : FB w3 q (bs f.nm) f.k f.g := (hgr.block _ (by have := hfb.lt; simp; omega) (fun e => by
      obtain ⟨_, cs, hc⟩ := hrow _ e.symm
      have h1 := (hb3.block _ (row_lt hfb)).trans hfb
      rw [hc] at h1; cases h1)).trans ((hb3.block _ (row_lt hfb)).trans hfb)
    have hkf3 : KeepsFrom W0.heap.size W2 w3 := (kf_below hb3).trans (kf_grown hgr (fun r e => by obtain ⟨_, cs, hc⟩ := hrow r e; exact ⟨_, _, hc⟩))
    have hkp3 : KeepF w.heap.size W2 w3 := (KeepF.below hb3 (by have := hst.bl.size; omega)).trans (KeepF.grown hgr (fun r e => by obtain ⟨h1, cs, hc⟩ := hrow r e; exact ⟨by have := HS0.out; omega, _, _, hc, by decide⟩) (by have := hst.bl.size; simp; omega))
    obtain ⟨w4, hw4⟩ : ∃ w4, w4 = w3.setCell ⟨w.heap.size, 0, none⟩ (.slice A3 n3 cc3) := ⟨_, rfl⟩
    have fz3 := row_frozen hcl3 0
    have cz3 : w3.cell? ⟨w.heap.size, 0, none⟩ = some v := by rw [row_cell hcl3]; rfl
    have hcl4 : w4.heap[w.heap.size]? = some (.cells #[.slice A3 n3 cc3] 25 (0, 0)) := by rw [hw4]; exact row_set hcl3 0 _
    have hce4 : w4.heap[w.heap.size + 1]? = some (.cells #[.int .i64 z] 3 (0, 0)) := by rw [hw4]; exact (Below.heap_setCell w3 ⟨w.heap.size, 0, none⟩ (.slice A3 n3 cc3) (w.heap.size + 1) (show w.heap.size + 1 ≠ w.heap.size by omega)).trans hce3
    have hqn : q ≠ w.heap.size := by
      intro e; rw [e] at hfb3; have h1 := hfb3; unfold FB at h1; rw [hcl3] at h1; cases h1
    have hfb4 : FB w4 q (bs f.nm) f.k f.g := by rw [hw4]; exact (Below.heap_setCell w3 ⟨w.heap.size, 0, none⟩ (.slice A3 n3 cc3) q hqn).trans hfb3
    have hkf4 : KeepsFrom W0.heap.size W2 w4 := by rw [hw4]; exact hkf3.trans (kf_set hcl3 0 _)
    have hkp4 : KeepF w.heap.size W2 w4 := by rw [hw4]; exact hkp3.trans (KeepF.set hcl3 (Nat.le_refl _) (by decide) 0 _)
    have how4 : OwI w4 W0.heap.size (.slice A3 n3 cc3) (layP 0 (l.take (k + 1))) := by
      rw [hw4, layP_take hfk, ← hPe]; exact hown.set (by have := HS0.out; omega) 0 _
    have HRUN := hid hrun; have HW4 := hid hw4
    have HCE4 := hid hce4; have HCL4 := hid hcl4; have HFB4 := hid hfb4; have HKF4 := hid hkf4; have HKP4 := hid hkp4; have HOW4 := hid how4
    have HST := hid hst
    have hPz := lay_in hrt hfk hpk
    have hlb := layN_bounds hrt
    have hlp := long_pos (right_may hrt f (List.mem_of_getElem? hfk))
    obtain ⟨L, hL⟩ : ∃ L, L = longF f.k f.g := ⟨_, rfl⟩
    have q1 : IntKind.i64.wrap (P + L) = P + L := by
      rw [IntKind.wrap_i64, hL]; have : f.long = longF f.k f.g := rfl; omega
    have HEZ : Hid (P + L = layE 0 (l.take (k + 1))) := by
      show _ = _; rw [layE_take hfk, ← hPe, hL]; rfl
    have HLL := hid hL
    have hfb4' := hfb4
    rw [hw4] at hfb4'
    obtain ⟨g0, g1, g2⟩ := hfb4'.cells
    clear hfb4'
    clear hrun hown hgr hb3 hrow hcl3 hce3 hfb3 hkf3 hkp3 hw4 hcl4 hce4 hfb4 hkf4 hkp4 how4 hst hfb hPz hlb hlp hL hg2 hi1 hst1 hlen hrt hfk hpk hPe hL0 hB0 hit hsz3
    gi_wp2_with (gi_at_builtin; refine wpListIn_app rfl _ _ rfl rfl rfl HRUN.out ?_)
    rw [← HW4.out]
    refine ⟨trivial, calls_in ((klong_any (bs f.nm) f.k f.g w4).mono ?_)⟩
    rintro e w5 ⟨rfl, hb5⟩
    rw [← HLL.out]
    have HB5 := hid hb5
    have hce5 := (hb5.block _ (row_lt HCE4.out)).trans HCE4.out
    have hcl5 := (hb5.block _ (row_lt HCL4.out)).trans HCL4.out
    have fz5 := row_frozen hce5 0
    have cz5 : w5.cell? ⟨w.heap.size + 1, 0, none⟩ = some (.int .i64 z) := by rw [row_cell hce5]; rfl
    have HCE5 := hid hce5; have HCL5 := hid hcl5
    clear hb5 hce5 hcl5 g0 g1 g2 fz3 cz3 c0
    gi_wp2_with (fail)
    have hbl : Below w.heap.size w w5 := (HST.out.bl.trans HKP4.out.1).trans (HB5.out.mono (by have := HST.out.bl.size; have := HKP4.out.1.size; omega))
    refine ⟨(HKF4.out.trans (kf_below HB5.out)).trans (kf_set HCE5.out 0 _), (HKP4.out.trans (KeepF.below HB5.out (by have := HST.out.bl.size; have := HKP4.out.1.size; omega))).trans (KeepF.set HCE5.out (by omega) (by decide) 0 _), ?_⟩
    rw [HI1.out]
    exact ⟨_, P + L, ⟨(Below.heap_setCell w5 ⟨w.heap.size + 1, 0, none⟩ _ w.heap.size (show w.heap.size ≠ w.heap.size + 1 by omega)).trans HCL5.out, row_set HCE5.out 0 _, (HOW4.out.on HB5.out).set (by have := HS0.out; omega) 0 _, HEZ.out, hbl.setCell (p := ⟨w.heap.size + 1, 0, none⟩) (show w.heap.size ≤ w.heap.size + 1 by omega) _, by have := HST.out.az; have := HKP4.out.1.size; have := HB5.out.size; simp; omega⟩⟩
  · rintro D W1 hD hi1 hdf
    rw [HI1.out] at hi1
    obtain ⟨v, z, hst⟩ := hi1
    obtain ⟨A3, n3, cc3, rfl⟩ := hst.ow.shape
    have hzb : 0 ≤ z ∧ z ≤ 1160 := by rw [hst.ez]; exact plc_bd l
    obtain ⟨hz0, hz1⟩ := hzb
    have HST := hid hst
    have HDF := hid hdf
    have HUP : Hid (upI z 8 = layT l) := by show _ = _; rw [up_up8, hst.ez]; exact (plc_end l).2
    have HLE : Hid (layP 0 (l.take (plcL l).length) = layL l) := (plc_end l).1
    clear hst hdf hL0 hit
    gi_wp2_with (fail)
    refine wpIn_wide.2 ?_
    refine reg_begin (by kernel_rfl) (fun w0z hx0z hHeld => ?_)
    have c1 : ∀ w', Ext w0z w' → w'.cell? ⟨w.heap.size, 0, none⟩ = some (.slice A3 n3 cc3) := fun w' h => by rw [row_cell ((HST.out.on (hx0z.trans h)).cl)]; rfl
    have c2 : ∀ w', Ext w0z w' → w'.cell? ⟨w.heap.size + 1, 0, none⟩ = some (.int .i64 z) := fun w' h => by rw [row_cell ((HST.out.on (hx0z.trans h)).ce)]; rfl
    refine reg_take 0 (v := ?vb0) at0 (by kernel_rfl) (by kernel_rfl) (by kernel_rfl) (by rfl) ?hyb0 hHeld ?restb0
    case hyb0 => (intro w' hSw; go_simp; try with_reducible rfl)
    try simp only [Act.put, List.setIfInBounds_toArray, List.set_cons_zero, List.set_cons_succ]
    refine reg_take 1 (v := ?vb1) (atS at0) (by kernel_rfl) (by kernel_rfl) (by kernel_rfl) (by rfl) ?hyb1 hHeld ?restb1
    case hyb1 => (intro w' hSw; go_simp; try with_reducible rfl)
    try simp only [Act.put, List.setIfInBounds_toArray, List.set_cons_zero, List.set_cons_succ]
    refine wpAnyH_ready (rs := [2]) (by kernel_rfl) (by simp) ?_
    refine AllReadyH.cons (atS (atS at0)) (fun K hK => ?_) AllReadyH.nil
    go_simp
    refine (up_any z 8 _ hz0 (by omega) (by omega) (by omega)).mono ?_
    rintro e w5 ⟨rfl, rfl⟩
    rw [HUP.out]
    go_wp2_with fail
    refine hK.out _ _ (Ext.refl _) (fun hHeld => ?_)
    clear hK K
    try simp only [Act.put, List.setIfInBounds_toArray, List.set_cons_zero, List.set_cons_succ]
    refine reg_take 3 (v := ?vb3) (atS (atS (atS at0))) (by kernel_rfl) (by kernel_rfl) (by kernel_rfl) (by rfl) ?hyb3 hHeld ?restb3
    case hyb3 => (intro w' hSw; go_simp; try with_reducible rfl)
    try simp only [Act.put, List.setIfInBounds_toArray, List.set_cons_zero, List.set_cons_succ]
    refine reg_take 4 (v := ?vb4) (atS (atS (atS (atS at0)))) (by kernel_rfl) (by kernel_rfl) (by kernel_rfl) (by rfl) ?hyb4 hHeld ?restb4
    case hyb4 => (intro w' hSw; go_simp; try with_reducible rfl)
    try simp only [Act.put, List.setIfInBounds_toArray, List.set_cons_zero, List.set_cons_succ]
    refine wpAnyH_done (by kernel_rfl) ?_ _
    refine NoPanic.normal ?_
    have hdf3 : w0z.heap[D]? = some (.deferred (some [])) := (Below.block hx0z D (Array.getElem?_eq_some_iff.1 HDF.out).1).trans HDF.out
    gi_wp2_with (fail)
    refine ⟨by simp, .inl ⟨_, _, rfl, run_takeDeferred hdf3, ?_⟩⟩
    refine ⟨_, results_tmp2 rfl _ _ _, _, rfl, ?_, below_put (HST.out.on hx0z).bl (by have := HS0.out; omega) hdf3 rfl⟩
    rw [← HLE.out]
    exact ((HST.out.on hx0z).ow.keep (grownBy_putObj' _ D (.deferred none)) (fun r e => by cases e; exact ⟨_, hdf3, rfl⟩)).less (by have := HS0.out; omega)
  · rintro D c k W1 hD hk hi1 hdf
    exact hi1.elim
end Go.Proofs.Ytggfcbncjkpkgaa
