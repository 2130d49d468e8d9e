/-
  A range over a function: what is asked of the value that is ranged over, and of the loop's body; regions of a round by the laws of plain regions.
  The program's places of layer 6: what it yields, one field behind the other.
-/
import Derived.Test.YtaegencmnmjgbaaGreatM3
import Derived.RangeFuncNested
import Derived.RangeFuncLeaves
import Derived.Shelf.Abstract
import Derived.OwnWalkIn
import Derived.TacticsInMore
import Derived.LoopNIn
import Derived.LoopIn
import Derived.Test.YtaegencmnmjgbaaGreatM12

namespace Go.Proofs.YtaegencmnmjgbaaGreat
open Go.RowKit
set_option linter.unusedVariables false
section
variable {P : Program} {ops : Array Oper} {Q : Exit → Act → World → Prop} {l n : Nat}
theorem calls_in {m : Nat} {f : FuncId} {args : Array Value} {w : World} {R : Ending → World → Prop} (h : Calls P f args w R) : CallsIn (Fence.wide.inRound l) m P f args w R :=
  CallsIn.inRound l (callsIn_wide.2 h)
end
def Iter {α : Type} (P : Program) (g : Nat) (lb : Array Value) (encs : α → Array Value) (xs : List α) (Kp : World → World → Prop) (w : World) : Prop :=
  ∀ (l : Nat) (J Jx : Nat → World → Prop) (W : World), Below w.heap.size w W → OwnFrom W.heap.size J → OwnFrom W.heap.size Jx →
    (∀ k x W1, xs[k]? = some x → J k W1 → YieldAt Fence.wide 0 P l (encs x) W1 fun e W' =>
      KeepsFrom W.heap.size W1 W' ∧ ((e = .returned (.bool true) ∧ J (k + 1) W' ∧ Kp W1 W') ∨ (e = .returned (.bool false) ∧ Jx k W'))) →
    J 0 W →
    Calls P g (#[.func (.yield l) #[] #[]] ++ lb) W fun e W' => (∃ v, e = .returned v) ∧ (J xs.length W' ∨ ∃ k, k < xs.length ∧ Jx k W')
theorem Iter.later {α : Type} {P : Program} {g : Nat} {lb : Array Value} {encs : α → Array Value} {xs : List α} {Kp : World → World → Prop} {w w' : World} (h : Iter P g lb encs xs Kp w) (hb : Below w.heap.size w w') : Iter P g lb encs xs Kp w' :=
  fun l J Jx W hW hJ hJx hY h0 => h l J Jx W (hb.trans (hW.mono hb.size)) hJ hJx hY h0
theorem yield_any {P : Program} {l m m' : Nat} {args : Array Value} {W : World} {R : Ending → World → Prop} (h : YieldAt Fence.wide m P l args W R) : YieldAt Fence.wide m' P l args W R := by
  obtain ⟨fn, tmps, assign, body, hy, hR⟩ := h
  exact ⟨fn, tmps, assign, body, hy, hR.1, fun c cs _ => hR.2 c cs (room_wide _)⟩
theorem kf_mono {B B' : Nat} {W W' : World} (h : KeepsFrom B W W') (hB : B ≤ B') : KeepsFrom B' W W' := ⟨h.size, fun k o hk ho hc => h.same k o (Nat.le_trans hB hk) ho hc⟩
theorem kf_below {B : Nat} {W W' : World} (h : Below W.heap.size W W') : KeepsFrom B W W' := ⟨h.size, fun k o _ hk _ => (h.block k (Array.getElem?_eq_some_iff.1 hk).1).trans hk⟩
def rPost (B : Nat) (Kp : World → World → Prop) (I : Nat → World → Prop) (Ix : Code → Nat → World → Prop) (k : Nat) (W : World) : Exit → Act → World → Prop
  | .normal, _, W' => KeepsFrom B W W' ∧ Kp W W' ∧ I (k + 1) W'
  | .ret, _, W' => KeepsFrom B W W' ∧ Ix .ret k W'
  | .exit id, _, W' => KeepsFrom B W W' ∧ Ix (.exit id) k W'
  | .goto t, _, W' => KeepsFrom B W W' ∧ Ix (.goto t) k W'
  | _, _, _ => False
theorem belowKb {n₀ m : Nat} (hn : n₀ ≤ m) (W : World) (l : Nat) (o o' : Obj) (hl : m ≤ l) (h : W.heap[l]? = some o) (_ : o.isCells = false) : Below n₀ W (W.putObj l o') :=
  (Below.refl n₀ W).grown (grownBy_putObj' W l o') (by have := (Array.getElem?_eq_some_iff.1 h).1; omega) (fun k e => by cases e; omega)
theorem KeepsFrom.put {B : Nat} {W : World} {l : Nat} (o : Obj) (h : l < B) : KeepsFrom B W (W.putObj l o) := KeepsFrom.of_grownBy (grownBy_putObj' W l o) (fun j e => by cases e; exact h)
theorem range_any {α : Type} {P : Program} {n : Nat} {g : Operand} {ps : Array Tmp} {assign body : Code} {Q : Exit → Act → World → Prop} {a : Act} {w : World} {gf : Nat} {lb : Array Value}
    (hg : a.eval g = .func (.func gf) #[] lb) (eg : ∀ args w, (callFunc gf args).run P w = .ok (.enter gf args) w)
    {encs : α → Array Value} {xs : List α} {Kp : World → World → Prop} (hit : Iter P gf lb encs xs Kp w) (hKt : ∀ {A B C : World}, Kp A B → Kp B C → Kp A C)
    (hKb : ∀ (W : World) (l : Nat) (o o' : Obj), w.heap.size ≤ l → W.heap[l]? = some o → o.isCells = false → Kp W (W.putObj l o')) (hps : ∀ x, (encs x).size = ps.size)
    (I : Nat → World → Prop) (Ix : Code → Nat → World → Prop) (hI : OwnFrom w.heap.size I) (hIx : ∀ c, OwnFrom w.heap.size (Ix c)) (h0 : I 0 w)
    (hround : ∀ (l k : Nat) (x : α) (W : World), xs[k]? = some x → I k W → w.heap.size < l → l < W.heap.size →
      assign.wpIn (Fence.wide.inRound l) n P (Exit.then (fun a' W' => KeepsFrom w.heap.size W W' ∧ Kp W W' ∧ I k W' ∧
          ∀ W2, W'.grownBy W2 (some l) → I k W2 → body.wpIn (Fence.wide.inRound l) n P (rPost w.heap.size Kp I Ix k W2) a' W2) (fun _ _ _ => False))
        { tmps := (ps.zip (encs x)).foldl (fun t (p, v) => t.setIfInBounds p v) a.tmps, defers := [] } W)
    (hdone : ∀ (D : Nat) (W : World), w.heap.size ≤ D → I xs.length W → W.heap[D]? = some (.deferred (some [])) → Q .normal { a with defers := { target := .collected D, args := #[] } :: a.defers } W)
    (hstop : ∀ (D : Nat) (c : Code) (k : Nat) (W : World), w.heap.size ≤ D → k < xs.length → Ix c k W → W.heap[D]? = some (.deferred (some [])) → c.wpIn Fence.wide n P Q { a with defers := { target := .collected D, args := #[] } :: a.defers } W) :
    (Code.rangeFunc g ps assign body).wpIn Fence.wide n P Q a w := by
  refine wpIn_rangeFunc fun fn hfn => ?_
  -- the two blocks that the loop lays
  let rec0 : LoopState → Option Code → Loop := fun st pe => { state := st, pending := pe, fn := fn, tmps := a.tmps, params := ps, assign := assign, body := body, defers := w.heap.size }
  obtain ⟨W1, hW1⟩ : ∃ W1, W1 = (w.alloc (.deferred (some []))).alloc (.loop (rec0 .ready none)) := ⟨_, rfl⟩
  have hsz : W1.heap.size = w.heap.size + 2 := by rw [hW1]; simp
  have hL : W1.heap[w.heap.size + 1]? = some (.loop (rec0 .ready none)) := by
    rw [hW1]; have := World.alloc_heap_new (w.alloc (.deferred (some []))) (.loop (rec0 .ready none)); rwa [World.size_alloc] at this
  have hD : W1.heap[w.heap.size]? = some (.deferred (some [])) := by
    rw [hW1]; exact (Below.heap_alloc _ _ _ (by simp)).trans (World.alloc_heap_new w _)
  have hB1 : Below w.heap.size w W1 := by rw [hW1]; exact ((Below.refl _ w).alloc (Nat.le_refl _) _).alloc (by simp) _
  -- what the two blocks hold between two rounds, and where a round has left the loop
  let J : Nat → World → Prop := fun k W => I k W ∧ W.heap[w.heap.size + 1]? = some (.loop (rec0 .ready none)) ∧ W.heap[w.heap.size]? = some (.deferred (some []))
  let Jx : Nat → World → Prop := fun k W => ∃ c, Ix c k W ∧ W.heap[w.heap.size + 1]? = some (.loop (rec0 .done (some c))) ∧ W.heap[w.heap.size]? = some (.deferred (some []))
  have two : ∀ {A C : World} {row : Option Nat} {j : Nat} {o : Obj}, A.grownBy C row → (∀ r, row = some r → W1.heap.size ≤ r ∧ ∃ o : Obj, A.heap[r]? = some o ∧ o.isCells = false) → j < W1.heap.size → A.heap[j]? = some o → C.heap[j]? = some o :=
    fun hgr hr hj ho => (hgr.block _ (Array.getElem?_eq_some_iff.1 ho).1 (fun e => by have := (hr _ e.symm).1; omega)).trans ho
  have hJ : OwnFrom W1.heap.size J := fun k A C row hs hgr hr =>
    ⟨hI k A C row hs.1 hgr (fun r e => ⟨by have := (hr r e).1; omega, (hr r e).2⟩), two hgr hr (by omega) hs.2.1, two hgr hr (by omega) hs.2.2⟩
  have hJx : OwnFrom W1.heap.size Jx := fun k A C row hs hgr hr => by
    obtain ⟨c, h1, h2, h3⟩ := hs
    exact ⟨c, hIx c k A C row h1 hgr (fun r e => ⟨by have := (hr r e).1; omega, (hr r e).2⟩), two hgr hr (by omega) h2, two hgr hr (by omega) h3⟩
  refine ⟨w.heap.size + 1, [{ target := .collected w.heap.size, args := #[] }], W1, { target := .fn (.func gf) lb, args := #[.func (.yield (w.heap.size + 1)) #[] #[]] }, W1, gf,
    #[.func (.yield (w.heap.size + 1)) #[] #[]] ++ lb, W1, ?_, ?_, fun _ _ => trivial, ?_, (fun h => by cases h), ?_⟩
  · rw [hW1]; exact run_enterLoop_outer _ _ _ _ _
  · simp only [resolve, hg]; simp [go_sem]
  · simp [invoke, go_sem, eg]
  refine callsIn_wide.2 ((hit (w.heap.size + 1) J Jx W1 hB1 hJ hJx ?_ ⟨by rw [hW1]; exact hI.alloc _ (hI.alloc _ h0), hL, hD⟩).mono ?_)
  · -- a round
    rintro k x W hx ⟨hi, hl, hd⟩
    have hlt : w.heap.size + 1 < W.heap.size := (Array.getElem?_eq_some_iff.1 hl).1
    refine yield_any (m := n) ⟨fn, _, assign, body, run_yield hl (hps x), roundIn_of_wpIn trivial (wpIn_mono (hround (w.heap.size + 1) k x W hx hi (by omega) hlt) ?_)⟩
    rintro e a' W' he
    cases e with
    | normal =>
      obtain ⟨hk1, hb1, hi1, hbody⟩ := he
      have hl1 := hk1.same _ _ (by omega) hl rfl
      have hd1 := hk1.same _ _ (Nat.le_refl _) hd rfl
      have hlt1 : w.heap.size + 1 < W'.heap.size := (Array.getElem?_eq_some_iff.1 hl1).1
      refine ⟨_, run_beginRound hl1 rfl, ?_⟩
      obtain ⟨W2, hW2⟩ : ∃ W2, W2 = W'.putObj (w.heap.size + 1) (.loop { rec0 .ready none with state := .busy }) := ⟨_, rfl⟩
      have hg2 : W'.grownBy W2 (some (w.heap.size + 1)) := by rw [hW2]; exact grownBy_putObj' _ _ _
      have hi2 : I k W2 := by rw [hW2]; exact hI.putObj _ hi1 (by omega) hl1 rfl
      have hl2 : W2.heap[w.heap.size + 1]? = some (.loop (rec0 .busy none)) := by rw [hW2]; exact World.putObj_heap_same hlt1
      have hd2 : W2.heap[w.heap.size]? = some (.deferred (some [])) := by rw [hW2]; exact (World.putObj_heap_other (by omega)).trans hd1
      have hb2 : Kp W' W2 := by rw [hW2]; exact hKb _ _ _ _ (by omega) hl1 rfl
      rw [← hW2]
      refine wpIn_mono (hbody W2 hg2 hi2) ?_
      have hkA : KeepsFrom W1.heap.size W W2 := (kf_mono hk1 (by omega)).trans (by rw [hW2]; exact KeepsFrom.put _ (by omega))
      have hkZ : ∀ (o : Obj) (W3 : World), KeepsFrom w.heap.size W2 W3 → KeepsFrom W1.heap.size W (W3.putObj (w.heap.size + 1) o) := fun o W3 h3 =>
        (hkA.trans (kf_mono h3 (by omega))).trans (KeepsFrom.put _ (by omega))
      have fin : ∀ (jump : Option Code) (W3 : World), KeepsFrom w.heap.size W2 W3 →
          (Instr.endRound (w.heap.size + 1) jump).run P W3 = .ok (.bool jump.isNone) (W3.putObj (w.heap.size + 1) (.loop (rec0 (if jump.isNone then .ready else .done) jump))) ∧
          W3.heap[w.heap.size + 1]? = some (.loop (rec0 .busy none)) ∧
          (W3.putObj (w.heap.size + 1) (.loop (rec0 (if jump.isNone then .ready else .done) jump))).heap[w.heap.size + 1]? = some (.loop (rec0 (if jump.isNone then .ready else .done) jump)) ∧
          (W3.putObj (w.heap.size + 1) (.loop (rec0 (if jump.isNone then .ready else .done) jump))).heap[w.heap.size]? = some (.deferred (some [])) := fun jump W3 hk3 => by
        have hl3 := hk3.same _ _ (by omega) hl2 rfl
        exact ⟨run_endRound jump hl3, hl3, World.putObj_heap_same (Array.getElem?_eq_some_iff.1 hl3).1, (World.putObj_heap_other (by omega)).trans (hk3.same _ _ (Nat.le_refl _) hd2 rfl)⟩
      rintro e a3 W3 hp
      cases e with
      | normal =>
        obtain ⟨hk3, hb3, hi3⟩ := hp
        obtain ⟨hr, hl3, hl4, hd4⟩ := fin none W3 hk3
        have hlt3 : w.heap.size + 1 < W3.heap.size := (Array.getElem?_eq_some_iff.1 hl3).1
        exact ⟨_, _, hr, hkZ _ _ hk3, .inl ⟨rfl, ⟨hI.putObj _ hi3 (by omega) hl3 rfl, hl4, hd4⟩, hKt (hKt (hKt hb1 hb2) hb3) (hKb _ _ _ _ (by omega) hl3 rfl)⟩⟩
      | ret =>
        obtain ⟨hk3, hi3⟩ := hp
        obtain ⟨hr, hl3, hl4, hd4⟩ := fin (some .ret) W3 hk3
        exact ⟨_, _, hr, hkZ _ _ hk3, .inr ⟨rfl, .ret, (hIx _).putObj _ hi3 (by omega) hl3 rfl, hl4, hd4⟩⟩
      | exit id =>
        obtain ⟨hk3, hi3⟩ := hp
        obtain ⟨hr, hl3, hl4, hd4⟩ := fin (some (.exit id)) W3 hk3
        exact ⟨_, _, hr, hkZ _ _ hk3, .inr ⟨rfl, .exit id, (hIx _).putObj _ hi3 (by omega) hl3 rfl, hl4, hd4⟩⟩
      | goto t =>
        obtain ⟨hk3, hi3⟩ := hp
        obtain ⟨hr, hl3, hl4, hd4⟩ := fin (some (.goto t)) W3 hk3
        exact ⟨_, _, hr, hkZ _ _ hk3, .inr ⟨rfl, .goto t, (hIx _).putObj _ hi3 (by omega) hl3 rfl, hl4, hd4⟩⟩
      | panic ch => exact hp.elim
      | outgrown => exact hp.elim
    | _ => exact he.elim
  · -- behind the iterator
    rintro e W2 ⟨⟨v, rfl⟩, (⟨hi, hl, hd⟩ | ⟨k, hk, c, hi, hl, hd⟩)⟩
    · exact ⟨none, _, run_endLoop hl (by simp [rec0]), hdone _ _ (Nat.le_refl _) (hI.putObj _ hi (by omega) hl rfl) ((World.putObj_heap_other (by omega)).trans hd)⟩
    · exact ⟨some c, _, run_endLoop hl (by simp [rec0]), hstop _ c k _ (Nat.le_refl _) hk ((hIx c).putObj _ hi (by omega) hl rfl) ((World.putObj_heap_other (by omega)).trans hd)⟩
end Go.Proofs.YtaegencmnmjgbaaGreat

namespace Go.Proofs.YtaegencmnmjgbaaGreat
open Go.RowKit
set_option linter.unusedVariables false
attribute [local go_sem] Oper.semAt_some
def fv (f : Fd) : Value := .agg #[.string (bs f.nm), .int .i64 f.k, .int .i64 f.g]
def plcL (l : List Fd) : List (Fd × Int) := if rightL l then l.zip (layP 0 l) else []
theorem plcL_wrong {l : List Fd} (h : rightL l = false) : plcL l = [] := by unfold plcL; rw [h]; rfl
theorem plcL_right {l : List Fd} (h : rightL l = true) : plcL l = l.zip (layP 0 l) := by unfold plcL; rw [h]; rfl
theorem plcL_length {l : List Fd} (h : rightL l = true) : (plcL l).length = l.length := by rw [plcL_right h]; simp [layP_length]
theorem plcL_get {l : List Fd} (h : rightL l = true) {i : Nat} {f : Fd} (hi : l[i]? = some f) : (plcL l)[i]? = some (f, placeF (layE 0 (l.take i)) f) := by
  rw [plcL_right h, List.getElem?_zip_eq_some]; exact ⟨hi, layP_get hi 0⟩
theorem plcL_at {l : List Fd} {i : Nat} {x : Fd × Int} (hi : (plcL l)[i]? = some x) : rightL l = true ∧ l[i]? = some x.1 ∧ (layP 0 l)[i]? = some x.2 ∧ x.2 = placeF (layE 0 (l.take i)) x.1 := by
  cases hr : rightL l with
  | false => rw [plcL_wrong hr] at hi; simp at hi
  | true =>
    rw [plcL_right hr, List.getElem?_zip_eq_some] at hi
    refine ⟨rfl, hi.1, hi.2, ?_⟩
    exact Option.some.inj (hi.2.symm.trans (layP_get hi.1 0))
def KeepF (n₀ : Nat) (W W' : World) : Prop := Below n₀ W W' ∧ ∀ (k : Nat) (cs : Array Value), W.heap[k]? = some (.cells cs 68 (0, 0)) → W'.heap[k]? = some (.cells cs 68 (0, 0))
theorem KeepF.refl (n₀ : Nat) (W : World) : KeepF n₀ W W := ⟨Below.refl _ _, fun _ _ h => h⟩
theorem KeepF.trans {n₀ : Nat} {A B C : World} (h : KeepF n₀ A B) (k : KeepF n₀ B C) : KeepF n₀ A C := ⟨h.1.trans k.1, fun i cs hi => k.2 i cs (h.2 i cs hi)⟩
theorem KeepF.below {n₀ : Nat} {W W' : World} (h : Below W.heap.size W W') (hn : n₀ ≤ W.heap.size) : KeepF n₀ W W' := ⟨h.mono hn, fun k cs hk => (h.block k (row_lt hk)).trans hk⟩
theorem KeepF.put {n₀ m : Nat} (hn : n₀ ≤ m) (W : World) (l : Nat) (o o' : Obj) (hl : m ≤ l) (h : W.heap[l]? = some o) (hc : o.isCells = false) : KeepF n₀ W (W.putObj l o') :=
  ⟨belowKb hn W l o o' hl h hc, fun k cs hk => ((grownBy_putObj' W l o').block k (row_lt hk) (fun e => by cases e; rw [hk] at h; cases h; cases hc)).trans hk⟩
theorem KeepF.set {n₀ g : Nat} {W : World} {cs : Array Value} {t : TypeId} (h : W.heap[g]? = some (.cells cs t (0, 0))) (hn : n₀ ≤ g) (ht : t ≠ 68) (i : Nat) (u : Value) : KeepF n₀ W (W.setCell ⟨g, i, none⟩ u) :=
  ⟨(Below.refl _ _).setCell (p := ⟨g, i, none⟩) hn u, fun k cs' hk => (Below.heap_setCell W ⟨g, i, none⟩ u k (fun e => by
    have e : k = g := e
    subst e
    rw [hk] at h; cases h; exact ht rfl)).trans hk⟩
theorem KeepF.grown {n₀ : Nat} {W W' : World} {row : Option Nat} (hg : W.grownBy W' row) (h1 : ∀ r, row = some r → n₀ ≤ r ∧ ∃ cs t, W.heap[r]? = some (.cells cs t (0, 0)) ∧ t ≠ 68) (hn : n₀ ≤ W.heap.size) : KeepF n₀ W W' :=
  ⟨(Below.refl _ _).grown hg hn (fun j e => (h1 j e).1), fun k cs hk => (hg.block k (row_lt hk) (fun e => by
    obtain ⟨_, cs', t, hc, ht⟩ := h1 k e.symm
    rw [hk] at hc; cases hc; exact ht rfl)).trans hk⟩
theorem ownFrom_on {β : Type} {B : Nat} {I : β → World → Prop} (h : OwnFrom B I) {s : β} {W W' : World} (hs : I s W) (hb : Below W.heap.size W W') : I s W' :=
  h s W W' none hs ⟨hb.os, hb.tape, hb.output, hb.size, fun k hk _ => hb.block k hk⟩ (fun r e => by cases e)
set_option maxRecDepth 100000 in
set_option maxHeartbeats 4000000 in
theorem places_iter {w : World} {n₀ Bs n c : Nat} {A : Option Addr} {l : List Fd} (hb : w.heap[Bs]? = some (.cells #[.slice A n c] 32 (0, 0))) (h : RdF w n₀ A n c l) (hs : short l) (hn0 : n₀ ≤ w.heap.size) :
    Iter Tryz.prog 160 #[.pointer (some ⟨Bs, 0, none⟩)] (fun x : Fd × Int => #[fv x.1, .int .i64 x.2]) (plcL l) (KeepF n₀) w := by
  intro lo J Jx W hW hJ hJx hY h0
  have gB := (hW.block _ (row_lt hb)).trans hb
  have hBs : W.cell? ⟨Bs, 0, none⟩ = some (.slice A n c) := by rw [row_cell gB]; rfl
  have hr := h.below (hW.mono hn0)
  have hN0 : n₀ ≤ W.heap.size := Nat.le_trans hn0 hW.size
  have HL := hid h.1
  have HR := hid hr; have HS := hid hs; have HGB := hid gB; have HN0 := hid hN0
  clear h hr hb hs gB hN0 hn0
  cases hrt : rightL l with
  | false =>
    have HRT := hid hrt
    have HP := hid (plcL_wrong hrt)
    clear hrt
    refine (callsIn_wide (n := 5)).1 (callsIn_of_wp Tryz.func160 rfl trivial ?_ rfl)
    simp only [Tryz.ntmps160, List.size_toArray, List.length_cons, List.length_nil, Nat.reduceAdd, Nat.reduceSub, Array.replicate_succ, Array.replicate_zero, List.push_toArray, List.append_toArray, List.nil_append, List.cons_append]
    gi_wp2_with (fail)
    refine ⟨trivial, callsIn_wide.2 ((p6right_any (HR.out.more HN0.out) HS.out).mono ?_)⟩
    rintro e w1 ⟨rfl, hb1⟩
    rw [HRT.out]
    have HJ1 := hid (ownFrom_on hJ h0 hb1)
    clear hb1
    gi_wp2_with (fail)
    refine bodyPost_ret (results_none rfl _ _ _) rfl ?_
    exact ⟨⟨_, rfl⟩, .inl (by rw [HP.out]; exact HJ1.out)⟩
  | true =>
    have HRT := hid hrt
    have HPL := hid (plcL_length hrt)
    have hn16 : n ≤ 16 := by have := right_len hrt; have := HL.out; omega
    have HBD : Hid (∀ j, 0 ≤ layE 0 (l.take j) ∧ layE 0 (l.take j) ≤ 1152) := fun j => by
      have h1 := layE_bounds (l.take j) 0 (fun f hf => right_may hrt f (List.mem_of_mem_take hf)) (Int.le_refl _)
      have h2 : (l.take j).length ≤ 16 := by have := right_len hrt; rw [List.length_take]; omega
      omega
    clear hrt
    refine (callsIn_wide (n := 5)).1 (callsIn_of_wp Tryz.func160 rfl trivial ?_ rfl)
    simp only [Tryz.ntmps160, List.size_toArray, List.length_cons, List.length_nil, Nat.reduceAdd, Nat.reduceSub, Array.replicate_succ, Array.replicate_zero, List.push_toArray, List.append_toArray, List.nil_append, List.cons_append]
    gi_wp2_with (fail)
    refine ⟨trivial, callsIn_wide.2 ((p6right_any (HR.out.more HN0.out) HS.out).mono ?_)⟩
    rintro e w1 ⟨rfl, hb1⟩
    rw [HRT.out]
    have HJ1 := hid (ownFrom_on hJ h0 hb1)
    have HB1 := hid (hb1.mono HN0.out)
    have hBs1 : w1.cell? ⟨Bs, 0, none⟩ = some (.slice A n c) := by rw [row_cell ((hb1.block _ (row_lt HGB.out)).trans HGB.out)]; rfl
    have HSZ : Hid (n₀ ≤ w1.heap.size) := Nat.le_trans HN0.out hb1.size
    clear hb1 hBs
    gi_wp2_with (fail)
    gi_loopw [3, 12] (fun a i wr => ∃ (k : Nat) (z : Int), k ≤ n ∧ i = .int .i64 k ∧ a = .int .i64 z ∧ Hid (z = layE 0 (l.take k)) ∧ Hid (J k wr) ∧ Hid (Below n₀ W wr)) (fun _ i _ => n - (intOf i).toNat)
    case atStart => exact ⟨0, 0, Nat.zero_le _, rfl, rfl, hid rfl, HJ1, HB1⟩
    case round =>
      obtain ⟨k, z, hk, rfl, rfl, HZ, HJS, HB⟩ := hrel
      by_cases hlt : k < n
      · have hjl : k < l.length := by have := HL.out; omega
        obtain ⟨f, hf⟩ : ∃ f, l[k]? = some f := ⟨_, List.getElem?_eq_getElem hjl⟩
        obtain ⟨_, hk64, hg64, hnl, b, off, rfl, hc⟩ := HR.out.at hf
        obtain ⟨c0, c1, c2⟩ := hc wr HB.out
        have HF := hid hf
        have hfm := right_may HRT.out f (List.mem_of_getElem? hf)
        have hst := step_bd hfm
        have hz0 : 0 ≤ z ∧ z ≤ 1152 := by rw [HZ.out]; exact HBD.out k
        obtain ⟨hz00, hz01⟩ := hz0
        obtain ⟨S, hS⟩ : ∃ S, S = stepF f := ⟨_, rfl⟩
        obtain ⟨P, hP⟩ : ∃ P, P = placeF z f := ⟨_, rfl⟩
        obtain ⟨L, hL⟩ : ∃ L, L = longF f.k f.g := ⟨_, rfl⟩
        have hpg := place_ge hfm hz00
        have hlp : 1 ≤ L ∧ L ≤ 64 := by rw [hL]; exact long_pos hfm
        rw [← hP] at hpg
        rw [← hS] at hst
        have HU := hid (up_any z S · hz00 (by omega) hst.1 hst.2)
        have HUE : Hid (upI z S = P) := by show _ = _; rw [hS, hP]; exact up_place z f
        have HP := hid hP; have HLL := hid hL; have HSS := hid hS
        obtain ⟨hl1, hl64⟩ := hlp
        have hP0 : z ≤ P := hpg.1
        have hP1 : P < z + 8 := hpg.2.1
        have q1 : IntKind.i64.wrap (P + L) = P + L := by rw [IntKind.wrap_i64]; omega
        have hji : (k : Int) < n := by omega
        have hj0 : (0 : Int) ≤ k := by omega
        obtain ⟨wv, hwv⟩ : ∃ wv, wv = wr.alloc (.cells #[.string (bs f.nm), .int .i64 f.k, .int .i64 f.g] 68) := ⟨_, rfl⟩
        obtain ⟨q, hq⟩ : ∃ q, q = wr.heap.size := ⟨_, rfl⟩
        have HWV := hid hwv; have HQ := hid hq
        have HFB : Hid (FB wv q (bs f.nm) f.k f.g) := by rw [hwv, hq]; exact fb_new wr _ _ _
        have hwrs : n₀ ≤ wr.heap.size := by
          by_cases c : n₀ ≤ wr.heap.size
          · exact c
          · have := HB.out.size; have := HN0.out; omega
        have HBV : Hid (Below n₀ W wv) := by rw [hwv]; exact HB.out.alloc hwrs _
        have HJV : Hid (J k wv) := by rw [hwv]; exact hJ.alloc _ HJS.out
        have HSV : Hid (n₀ ≤ wv.heap.size) := by rw [hwv]; show n₀ ≤ _; simp; omega
        obtain ⟨v0, vv1, vv2⟩ := HFB.out.cells
        clear hc hf hfm hst hS hP hL hpg hk64 hg64 hnl hjl hwv hq hwrs
        gi_wp2_with (fail)
        rw [← HWV.out, ← HQ.out]
        refine ⟨trivial, callsIn_wide.2 ((step_any f wv).mono ?_)⟩
        rintro e w2 ⟨rfl, hb2⟩
        rw [← HSS.out]
        have HF2 := hid (HFB.out.on hb2)
        have HJ2 := hid (ownFrom_on hJ HJV.out hb2)
        have HB2 := hid (HBV.out.trans (hb2.mono HSV.out))
        have HS2 : Hid (n₀ ≤ w2.heap.size) := Nat.le_trans HSV.out hb2.size
        obtain ⟨v0, vv1, vv2⟩ := HF2.out.cells
        clear hb2 c0 c1 c2
        gi_wp2_with (fail)
        refine ⟨trivial, callsIn_wide.2 ((HU.out w2).mono ?_)⟩
        rintro e w3 ⟨rfl, rfl⟩
        rw [HUE.out]
        obtain ⟨fn, tmps, assign, body, hy, hR⟩ := hY k (f, P) w2 (by rw [HP.out, HZ.out]; exact plcL_get HRT.out HF.out) HJ2.out
        have hR' : RoundIn Fence.wide 4 Tryz.prog lo fn tmps assign body _ _ := ⟨hR.1, fun c cs _ => hR.2 c cs (room_wide _)⟩
        dsimp only [fv] at hy
        gi_wp2_with (fail)
        refine hR'.mono ?_
        rintro e W3 ⟨_, (⟨rfl, hJ3, hk3⟩ | ⟨rfl, hJx3⟩)⟩
        · have HF3 : Hid (FB W3 q (bs f.nm) f.k f.g) := hk3.2 _ _ HF2.out
          have HJ3 := hid hJ3
          have HB3 := hid (HB2.out.trans hk3.1)
          have HS3 : Hid (n₀ ≤ W3.heap.size) := Nat.le_trans HS2.out hk3.1.size
          obtain ⟨v0, vv1, vv2⟩ := HF3.out.cells
          clear hk3 hJ3
          gi_wp2_with (fail)
          refine ⟨trivial, callsIn_wide.2 ((klong_any (bs f.nm) f.k f.g W3).mono ?_)⟩
          rintro e w4 ⟨rfl, hb4⟩
          rw [← HLL.out]
          have HJ4 := hid (ownFrom_on hJ HJ3.out hb4)
          have HB4 := hid (HB3.out.trans (hb4.mono HS3.out))
          clear hb4 v0 vv1 vv2
          gi_wp2_with (fail)
          go_roundw
          case rel => exact ⟨k + 1, P + L, by omega, by simp, rfl, hid (by rw [layE_take HF.out, ← HZ.out, ← HP.out, HLL.out]; rfl), HJ4, HB4⟩
          case measure => simp [intOf]; omega
        · have HJX := hid hJx3
          have HKP : Hid (k < (plcL l).length) := by show k < _; rw [HPL.out, HL.out]; exact hlt
          clear hJx3
          gi_wp2_with (fail)
          refine bodyPost_ret (results_none rfl _ _ _) rfl ?_
          exact ⟨⟨_, rfl⟩, .inr ⟨k, HKP.out, HJX.out⟩⟩
      · obtain rfl : k = n := by omega
        gi_wp2_with (fail)
        go_end0
        exact ⟨⟨_, rfl⟩, .inl (by rw [HPL.out, HL.out]; exact HJS.out)⟩
end Go.Proofs.YtaegencmnmjgbaaGreat
