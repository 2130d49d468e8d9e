/-
  The document's put and with of layer 9.
  The document's with, Fields, Define of layer 9.
  A history's methods: newest, fields, since; begin; has.
-/
import Derived.Test.YtaegencmnmjgbaaGreatM49
import Derived.Test.YtaegencmnmjgbaaGreatM26
import Derived.Test.YtaegencmnmjgbaaGreatM17
import Derived.Deep.Cut
import Derived.BigQuiet

namespace Go.Proofs.YtaegencmnmjgbaaGreat
open Go.RowKit Go.Maps
set_option linter.unusedVariables false
set_option linter.unusedSimpArgs false
theorem tyLen (p : TyP) : (tyCel p).length = 4 := rfl
theorem ty1 (p : TyP) (h : slv p.2.1 ∧ slv p.2.2) : ∀ u ∈ tyCel p, u.oneCell' = true := by
  obtain ⟨⟨A, n, c, e⟩, ⟨A2, n2, c2, e2⟩⟩ := h
  intro u hu
  simp only [tyCel, e, e2, List.mem_cons, List.not_mem_nil, or_false] at hu
  rcases hu with rfl | rfl | rfl | rfl <;> rfl
theorem infoTy : (Tryz.prog.info? 60).map (fun i => (i.zero, i.size, i.bytes)) = some (some (.agg #[.string ⟨#[]⟩, .int .i64 0, .slice none 0 0, .slice none 0 0]), 4, 72) := by kernel_rfl
theorem tyP.slv {w : World} {B : Nat} {p : TyP} (h : tyP w B p) : slv p.2.1 ∧ slv p.2.2 := by
  obtain ⟨⟨A, n, c, _, e, _⟩, ⟨A2, n2, c2, _, e2, _⟩⟩ := h
  exact ⟨⟨A, n, c, e⟩, ⟨A2, n2, c2, e2⟩⟩
abbrev OwTy := OwG 60 4 tyCel
def putR (p : TyP) (r : List TyP × Bool) (x : TyP) : List TyP × Bool := if !r.2 && ahead p.1.nm x.1.nm then (r.1 ++ [p] ++ [x], true) else (r.1 ++ [x], r.2)
def putF (p : TyP) (l : List TyP) : List TyP × Bool := l.foldl (putR p) ([], false)
def putE (p : TyP) (r : List TyP × Bool) : List TyP := if r.2 then r.1 else r.1 ++ [p]
theorem putF_true (p : TyP) : ∀ (l acc : List TyP), l.foldl (putR p) (acc, true) = (acc ++ l, true)
  | [], acc => by simp
  | x :: l, acc => by
    rw [List.foldl_cons]
    have : putR p (acc, true) x = (acc ++ [x], true) := rfl
    rw [this, putF_true p l]; simp
theorem putF_false (p : TyP) : ∀ (l acc : List TyP), putE p (l.foldl (putR p) (acc, false)) = acc ++ putE p (putF p l)
  | [], acc => by simp [putE, putF]
  | x :: l, acc => by
    unfold putF
    rw [List.foldl_cons, List.foldl_cons]
    by_cases c : ahead p.1.nm x.1.nm = true
    · have e1 : ∀ acc, putR p (acc, false) x = (acc ++ [p] ++ [x], true) := fun acc => by unfold putR; simp [c]
      rw [e1, e1, putF_true, putF_true]; simp [putE]
    · have e1 : ∀ acc, putR p (acc, false) x = (acc ++ [x], false) := fun acc => by unfold putR; simp [c]
      rw [e1, e1, putF_false p l, putF_false p l ([] ++ [x])]; simp
theorem putE_fst (p : TyP) : ∀ l : List TyP, (putE p (putF p l)).map Prod.fst = putT (l.map Prod.fst) p.1
  | [] => by simp [putE, putF, putT]
  | x :: l => by
    have h := putF_false p l
    unfold putF
    rw [List.foldl_cons, List.map_cons]
    unfold putT
    by_cases c : ahead p.1.nm x.1.nm = true
    · have e1 : putR p ([], false) x = ([p] ++ [x], true) := by unfold putR; simp [c]
      rw [e1, putF_true, if_pos c]; simp [putE]
    · have e1 : putR p ([], false) x = ([x], false) := by unfold putR; simp [c]
      rw [e1, h, if_neg c, List.map_append, putE_fst p l]; simp
theorem putR_mem {p : TyP} {r : List TyP × Bool} {x a : TyP} (h : a ∈ (putR p r x).1) : a = p ∨ a = x ∨ a ∈ r.1 := by
  unfold putR at h
  split at h
  · simp only [List.mem_append, List.mem_singleton] at h
    rcases h with (h | h) | h
    · exact .inr (.inr h)
    · exact .inl h
    · exact .inr (.inl h)
  · simp only [List.mem_append, List.mem_singleton] at h
    rcases h with h | h
    · exact .inr (.inr h)
    · exact .inr (.inl h)
theorem putR_keep {p : TyP} {r : List TyP × Bool} {x : TyP} (h : r.2 = true ∨ ahead p.1.nm x.1.nm = false) : putR p r x = (r.1 ++ [x], r.2) := by
  unfold putR
  rw [if_neg]
  rcases h with h | h <;> simp [h]
theorem putR_ins {p : TyP} {r : List TyP × Bool} {x : TyP} (h : r.2 = false) (h2 : ahead p.1.nm x.1.nm = true) : putR p r x = (r.1 ++ [p] ++ [x], true) := by
  unfold putR
  rw [if_pos]
  simp [h, h2]
theorem putF_take {p : TyP} {l : List TyP} {j : Nat} {x : TyP} (h : l[j]? = some x) : putF p (l.take (j + 1)) = putR p (putF p (l.take j)) x := by
  unfold putF; rw [List.take_add_one, h]; simp [List.foldl_append]
theorem putF_len (p : TyP) (l : List TyP) : (putF p l).1.length ≤ l.length + 1 ∧ ((putF p l).2 = false → (putF p l).1.length = l.length) := by
  have : ∀ (l acc : List TyP), (l.foldl (putR p) (acc, false)).1.length ≤ acc.length + l.length + 1 ∧ ((l.foldl (putR p) (acc, false)).2 = false → (l.foldl (putR p) (acc, false)).1.length = acc.length + l.length) := by
    intro l
    induction l with
    | nil => intro acc; simp
    | cons x l ih =>
      intro acc
      rw [List.foldl_cons]
      by_cases c : ahead p.1.nm x.1.nm = true
      · have e1 : putR p (acc, false) x = (acc ++ [p] ++ [x], true) := by unfold putR; simp [c]
        rw [e1, putF_true]; simp; omega
      · have e1 : putR p (acc, false) x = (acc ++ [x], false) := by unfold putR; simp [c]
        rw [e1]
        have := ih (acc ++ [x])
        simp only [List.length_append, List.length_cons, List.length_nil] at this ⊢
        exact ⟨by omega, fun h => by have := this.2 h; omega⟩
  have := this l []
  simpa [putF] using this
def TBy (w : World) (b : Nat) (p : TyP) : Prop := w.heap[b]? = some (.cells (tyCel p).toArray 60 (0, 0))
section
variable {w w' : World} {b : Nat} {p : TyP}
theorem TBy.on (h : TBy w b p) (hb : Below w.heap.size w w') : TBy w' b p := (hb.block b (row_lt h)).trans h
theorem TBy.cells (h : TBy w b p) : w.cell? ⟨b, 0, none⟩ = some (.string (bs p.1.nm)) ∧ w.cell? ⟨b, 1, none⟩ = some (.int .i64 p.1.lo) ∧ w.cell? ⟨b, 2, none⟩ = some p.2.1 ∧ w.cell? ⟨b, 3, none⟩ = some p.2.2 := ⟨row_cell h 0, row_cell h 1, row_cell h 2, row_cell h 3⟩
theorem TBy.new (w : World) (p : TyP) : TBy (w.alloc (.cells (tyCel p).toArray 60)) w.heap.size p := heap_alloc_new w _
end
theorem run_appTy {w : World} {base : Nat} {v : Value} {l : List TyP} (h : OwTy w base v l) (hl : ∀ p ∈ l, slv p.2.1 ∧ slv p.2.2) (p : TyP) (hp : slv p.2.1 ∧ slv p.2.2) (hlen : l.length ≤ 100000) (hb : base ≤ w.heap.size) (t : TypeId) :
    ∃ v' w', (Builtin.append_ #[26, 26] t #[v, .slice (some ⟨w.heap.size, 0, none⟩) 1 1]).run Tryz.prog (w.alloc (.cells #[.string (bs p.1.nm), .int .i64 p.1.lo, p.2.1, p.2.2] 60)) = .ok v' w' ∧ OwTy w' base v' (l ++ [p]) ∧ (w.alloc (.cells #[.string (bs p.1.nm), .int .i64 p.1.lo, p.2.1, p.2.2] 60)).grownBy w' v.ownBlock := by
  cases hi : Tryz.prog.info? 60 with
  | none => have := infoTy; rw [hi] at this; cases this
  | some i =>
    have hi8 := infoTy
    rw [hi] at hi8
    simp only [Option.map_some, Option.some.injEq, Prod.mk.injEq] at hi8
    obtain ⟨hz8, hsz, hb8⟩ := hi8
    obtain ⟨v', W', hr, ho, hg, _⟩ := run_append_own (P := Tryz.prog) (w.alloc (.cells #[.string (bs p.1.nm), .int .i64 p.1.lo, p.2.1, p.2.2] 60)) base 26 t 60 i _ 4 72 Tryz.underlying26 hi hz8 hsz hb8 rfl (by omega) v l.length (cellsG tyCel l) (h.on (B1 _ _)) ⟨w.heap.size, 0, none⟩ 1 1 (tyCel p) rfl (fun j u hj => by
      rw [add_plain, Nat.zero_add, row_cell (heap_alloc_new w _)]; match j, hj with | 0, h => exact h | 1, h => exact h | 2, h => exact h | 3, h => exact h) (ty1 p hp) (by unfold maxLen; omega) (by omega) (Nat.le_trans hb (by simp))
    refine ⟨v', W', hr, ?_, hg⟩
    show OwG _ _ _ _ _ _ _
    unfold OwG
    rw [List.length_append, cellsG_app]
    have e : cellsG tyCel [p] = tyCel p := by simp [cellsG]
    rw [e]; exact ho
def PutSt (w W : World) (p : TyP) (ps : List TyP) (j : Nat) (d : Bool) (v : Value) : Prop := OwTy W w.heap.size v (putF p (ps.take j)).1 ∧ d = (putF p (ps.take j)).2 ∧ (∀ a ∈ (putF p (ps.take j)).1, a = p ∨ a ∈ ps) ∧ Below w.heap.size w W
set_option maxRecDepth 20000 in
set_option maxHeartbeats 8000000 in
theorem r9put_any {w : World} {A : Option Addr} {n c : Nat} {l : List Ty} (h : DocL w w.heap.size A n c l) (hn : n ≤ 1000) {t : Ty} {A1 A2 : Option Addr} {n1 c1 n2 c2 : Nat} (h1 : FsL w w.heap.size (.slice A1 n1 c1) t.fs) (h2 : TsL w w.heap.size (.slice A2 n2 c2) t.ts) :
    Calls Tryz.prog 46 #[.slice A n c, tyV t.nm t.lo (.slice A1 n1 c1) (.slice A2 n2 c2)] w fun e w' => ∃ A' n' c', e = .returned (.slice A' n' c') ∧ DocL w' w'.heap.size A' n' c' (putT l t) ∧ Below w.heap.size w w' := by
  obtain ⟨ps, hps, rfl⟩ := h
  obtain ⟨p, hp⟩ : ∃ p : TyP, p = (t, .slice A1 n1 c1, .slice A2 n2 c2) := ⟨_, rfl⟩
  have HPV : Hid (tyP w w.heap.size p) := by rw [hp]; exact hid ⟨h1, h2⟩
  have hnm : (n : Int) ≤ 1000 := by omega
  have HL := hid hps.1
  obtain ⟨w0, hw0⟩ : ∃ w0, w0 = w.alloc (.cells #[.string (bs t.nm), .int .i64 t.lo, .slice A1 n1 c1, .slice A2 n2 c2] 60) := ⟨_, rfl⟩
  obtain ⟨q, hq⟩ : ∃ q, q = w.heap.size := ⟨_, rfl⟩
  have HW0 := hid hw0; have HQ := hid hq
  have HB0 : Hid (Below w.heap.size w w0) := by rw [hw0]; exact hid (B1 _ _)
  have HX0 : Hid (TBy w0 q p) := by rw [hw0, hq, hp]; exact hid (TBy.new w (t, .slice A1 n1 c1, .slice A2 n2 c2))
  have H := hid (hps.on tyPB HB0.out)
  have HP := hid hp
  have HSL : Hid (∀ a, a = p ∨ a ∈ ps → slv a.2.1 ∧ slv a.2.2) := hid (fun a ha => by
    rcases ha with rfl | ha
    · exact HPV.out.slv
    · exact (hps.2.2.2.1 a ha).slv)
  have HPS := hid hps
  clear h1 h2 hps hw0 hq hp
  unfold tyV
  go_enter Tryz.func46, Tryz.ntmps46
  go_upto_region 1 with fail
  rw [← HW0.out, ← HQ.out]
  go_wp2_with fail
  go_loopw [5, 6, 7] (fun s d i wr => ∃ (j : Nat) (db : Bool), j ≤ n ∧ i = .int .i64 j ∧ d = .bool db ∧ Hid (PutSt w0 wr p ps j db s)) (fun _ _ i _ => n - (intOf i).toNat)
  case atStart => exact ⟨0, false, by omega, rfl, rfl, hid ⟨OwG.nil _ _, rfl, fun a ha => by simp [putF] at ha, B0 _⟩⟩
  case round =>
    obtain ⟨j, db, hj, rfl, rfl, ⟨ho, hd, hm, hb⟩⟩ := hrel
    have hlen := (putF_len p (ps.take j)).1
    have htk : (ps.take j).length ≤ j := by rw [List.length_take]; omega
    have HO := hid ho; have HD := hid hd; have HM := hid hm; have HB := hid hb; have HLEN := hid (Nat.le_trans hlen (Nat.succ_le_succ htk))
    clear ho hd hm hb hlen htk
    have HXJ := hid (HX0.out.on HB.out)
    by_cases hlt : j < n
    · obtain ⟨x, hx⟩ : ∃ x, ps[j]? = some x := ⟨_, List.getElem?_eq_getElem (by have := HL.out; omega)⟩
      have HX := hid hx
      obtain ⟨_, hxp, b, off, rfl, _, hc⟩ := H.out.at hx
      have hsx := hxp.slv
      obtain ⟨xt, xv1, xv2⟩ := x
      obtain ⟨⟨B1', m1, d1, rfl⟩, ⟨B2', m2, d2, rfl⟩⟩ := hsx
      have HC := hid hc
      have hji : (j : Int) < n := by omega
      have hj0 : (0 : Int) ≤ j := by omega
      have HT := hid (putF_take (p := p) hx)
      have HSX : Hid (slv (Value.slice B1' m1 d1) ∧ slv (Value.slice B2' m2 d2)) := hid ⟨⟨_, _, _, rfl⟩, _, _, _, rfl⟩
      clear hx hc hxp
      obtain ⟨e0, e1, e2, e3⟩ := HXJ.out.cells
      rw [HP.out] at e0 e1 e2 e3
      dsimp only at e0 e1 e2 e3
      obtain ⟨f0, f1, f2, f3⟩ : _ ∧ _ ∧ _ ∧ _ := ⟨HC.out wr (HB.out) 0 (by omega), HC.out wr (HB.out) 1 (by omega), HC.out wr (HB.out) 2 (by omega), HC.out wr (HB.out) 3 (by omega)⟩
      simp only [tyCel, List.getElem?_cons_zero, List.getElem?_cons_succ, Nat.add_zero] at f0 f1 f2 f3
      by_cases hk : db = true ∨ ahead t.nm xt.nm = false
      · obtain ⟨v', w3, hrun, hown, hgr⟩ := run_appTy (w := wr.drew) HO.out (fun a ha => HSL.out a (HM.out a ha)) (xt, .slice B1' m1 d1, .slice B2' m2 d2) HSX.out (by have := HLEN.out; omega) HB.out.size 26
        have HB3 : Hid (Below w0.heap.size w0 w3) := hid (by
          refine Below.grown (Ba (HB.out.drew) _) hgr (by simp; have := HB.out.size; omega) (fun i e => (HO.out.blk i e).1))
        have HR := putR_keep (p := p) (r := putF p (ps.take j)) (x := (xt, .slice B1' m1 d1, .slice B2' m2 d2)) (by rw [← HD.out, HP.out]; exact hk)
        have HST : Hid (PutSt w0 w3 p ps (j + 1) db v') := hid (by
          unfold PutSt
          rw [HT.out, HR]
          refine ⟨hown, HD.out, fun a ha => ?_, HB3.out⟩
          simp only [List.mem_append, List.mem_singleton] at ha
          rcases ha with ha | rfl
          · exact HM.out a ha
          · exact .inr (List.mem_of_getElem? HX.out))
        obtain ⟨A3, c3, rfl⟩ := hown.shape
        obtain ⟨A4, c4, hs4⟩ := HO.out.shape
        subst hs4
        have HRUN := hid hrun
        dsimp only at HRUN
        clear hrun hown hgr HR
        cases db with
        | true =>
          go_wp2_with fail
          go_region
          go_wp2_with (at_builtin; refine wpList_appG rfl _ _ rfl rfl rfl HRUN.out ?_)
          exact ⟨⟨j + 1, true, by omega, by go_num, rfl, by rw [List.length_append] at HST; exact HST⟩, by simp [intOf]; omega⟩
        | false =>
          have t1 : Op.bytesLess t.nm xt.nm = false := by simpa [ahead] using hk
          go_wp2_with fail
          go_region
          go_wp2_with (at_builtin; refine wpList_appG rfl _ _ rfl rfl rfl HRUN.out ?_)
          exact ⟨⟨j + 1, false, by omega, by go_num, rfl, by rw [List.length_append] at HST; exact HST⟩, by simp [intOf]; omega⟩
      · simp only [not_or, Bool.not_eq_true] at hk
        obtain ⟨hdb, hk⟩ := hk
        subst hdb
        have hk1 : ahead t.nm xt.nm = true := by simpa using hk
        obtain ⟨v', w3, hrun, hown, hgr⟩ := run_appTy (w := wr.drew) HO.out (fun a ha => HSL.out a (HM.out a ha)) (t, .slice A1 n1 c1, .slice A2 n2 c2) ⟨⟨_, _, _, rfl⟩, _, _, _, rfl⟩ (by have := HLEN.out; omega) HB.out.size 26
        rw [← HP.out] at hown
        have HB3 : Hid (Below w0.heap.size w0 w3) := hid (by
          refine Below.grown (Ba (HB.out.drew) _) hgr (by simp; have := HB.out.size; omega) (fun i e => (HO.out.blk i e).1))
        have hsl3 : ∀ a ∈ (putF p (ps.take j)).1 ++ [p], slv a.2.1 ∧ slv a.2.2 := fun a ha => by
          rcases List.mem_append.1 ha with ha | ha
          · exact HSL.out a (HM.out a ha)
          · simp at ha; subst ha; exact HSL.out a (.inl rfl)
        obtain ⟨v'', w4, hrun2, hown2, hgr2⟩ := run_appTy (w := w3) hown hsl3 (xt, .slice B1' m1 d1, .slice B2' m2 d2) HSX.out (by have := HLEN.out; rw [List.length_append]; simp; omega) HB3.out.size 26
        have HB4 : Hid (Below w0.heap.size w0 w4) := hid (by
          refine Below.grown (Ba HB3.out _) hgr2 (by simp; have := HB3.out.size; omega) (fun i e => (hown.blk i e).1))
        have HR := putR_ins (p := p) (r := putF p (ps.take j)) (x := (xt, .slice B1' m1 d1, .slice B2' m2 d2)) HD.out.symm (by rw [HP.out]; exact hk1)
        have HST : Hid (PutSt w0 w4 p ps (j + 1) true v'') := hid (by
          unfold PutSt
          rw [HT.out, HR]
          refine ⟨hown2, rfl, fun a ha => ?_, HB4.out⟩
          simp only [List.mem_append, List.mem_singleton] at ha
          rcases ha with (ha | rfl) | rfl
          · exact HM.out a ha
          · exact .inl rfl
          · exact .inr (List.mem_of_getElem? HX.out))
        have HX3 : Hid (Below w0.heap.size w0 w3) := HB3
        obtain ⟨A3, c3, rfl⟩ := hown.shape
        obtain ⟨A5, c5, rfl⟩ := hown2.shape
        obtain ⟨A4, c4, hs4⟩ := HO.out.shape
        subst hs4
        have HRUN := hid hrun; have HRUN2 := hid hrun2
        obtain ⟨g0, g1, g2, g3⟩ : _ ∧ _ ∧ _ ∧ _ := ⟨HC.out w3 (HB3.out) 0 (by omega), HC.out w3 (HB3.out) 1 (by omega), HC.out w3 (HB3.out) 2 (by omega), HC.out w3 (HB3.out) 3 (by omega)⟩
        simp only [tyCel, List.getElem?_cons_zero, List.getElem?_cons_succ, Nat.add_zero] at g0 g1 g2 g3
        rw [List.length_append, List.length_append] at HST
        rw [List.length_append] at HRUN
        rw [List.length_append, List.length_append] at HRUN2
        dsimp only [List.length_cons, List.length_nil, Nat.zero_add] at HRUN HRUN2 HST
        clear hrun hown hgr HR hrun2 hown2 hgr2 hsl3 hk
        have t1 : Op.bytesLess t.nm xt.nm = true := hk1
        clear hk1
        go_wp2_with fail
        go_region
        go_wp2_with (at_builtin; first | refine wpList_appG rfl _ _ rfl rfl rfl HRUN.out ?_ | refine wpList_appG rfl _ _ rfl rfl rfl HRUN2.out ?_)
        exact ⟨⟨j + 1, true, by omega, by go_num, rfl, HST⟩, by simp [intOf]; omega⟩
    · have hje : ps.take j = ps := List.take_of_length_le (by have := HL.out; omega)
      rw [hje] at HO HD HM HLEN
      have HFST := hid (putE_fst p ps)
      have hji : ¬ ((j : Int) < n) := by omega
      obtain ⟨e0, e1, e2, e3⟩ := HXJ.out.cells
      rw [HP.out] at e0 e1 e2 e3
      dsimp only at e0 e1 e2 e3
      have hrdP : ∀ W, Below w0.heap.size w0 W → ∀ a, a = p ∨ a ∈ ps → tyP W W.heap.size a := fun W hb a ha => by
        rcases ha with rfl | ha
        · exact tyPB.on HPV.out (Bt HB0.out hb)
        · exact tyPB.on (HPS.out.2.2.2.1 a ha) (Bt HB0.out hb)
      have HRDP := hid hrdP
      clear hrdP
      cases db with
      | true =>
        obtain ⟨A3, c3, e3', r3⟩ := HO.out.rd tyLen (fun a ha => HRDP.out wr HB.out a (HM.out a ha))
        subst e3'
        have HR3 := hid r3
        clear r3
        go_wp2_with fail
        go_ret
        refine ⟨_, _, _, rfl, ⟨_, HR3.out, ?_⟩, Bt HB0.out HB.out⟩
        have h := HFST.out
        unfold putE at h
        rw [← HD.out, if_pos rfl, HP.out] at h
        rw [HP.out]; exact h
      | false =>
        obtain ⟨v', w3, hrun, hown, hgr⟩ := run_appTy (w := wr) HO.out (fun a ha => HSL.out a (HM.out a ha)) (t, .slice A1 n1 c1, .slice A2 n2 c2) ⟨⟨_, _, _, rfl⟩, _, _, _, rfl⟩ (by have := HLEN.out; omega) HB.out.size 26
        rw [← HP.out] at hown
        have HB3 : Hid (Below w0.heap.size w0 w3) := hid (by
          refine Below.grown (Ba HB.out _) hgr (by simp; have := HB.out.size; omega) (fun i e => (HO.out.blk i e).1))
        obtain ⟨A3, c3, e3', r3⟩ := hown.rd tyLen (fun a ha => HRDP.out w3 HB3.out a (by
          rcases List.mem_append.1 ha with ha | ha
          · exact HM.out a ha
          · simp at ha; exact .inl ha))
        subst e3'
        obtain ⟨A4, c4, hs4⟩ := HO.out.shape
        subst hs4
        have HRUN := hid hrun; have HR3 := hid r3
        rw [List.length_append] at HRUN HR3
        dsimp only [List.length_cons, List.length_nil, Nat.zero_add] at HRUN
        clear hrun hown hgr r3
        go_wp2_with (at_builtin; refine wpList_appG rfl _ _ rfl rfl rfl HRUN.out ?_)
        go_ret
        refine ⟨_, _, _, rfl, ⟨_, HR3.out, ?_⟩, Bt HB0.out HB3.out⟩
        have h := HFST.out
        unfold putE at h
        rw [← HD.out, if_neg (by decide), HP.out] at h
        rw [HP.out]; exact h
end Go.Proofs.YtaegencmnmjgbaaGreat

namespace Go.Proofs.YtaegencmnmjgbaaGreat
open Go.RowKit Go.Maps
set_option linter.unusedVariables false
set_option linter.unusedSimpArgs false
theorem cellsG_set4 {α : Type} {cel : α → List Value} (hk : ∀ a, (cel a).length = 4) : ∀ (l : List α) (i : Nat) (a : α) (x0 x1 x2 x3 : Value), i < l.length → cel a = [x0, x1, x2, x3] →
    cellsG cel (l.set i a) = ((((cellsG cel l).set (i * 4) x0).set (i * 4 + 1) x1).set (i * 4 + 2) x2).set (i * 4 + 3) x3
  | [], i, a, _, _, _, _, h, _ => by simp at h
  | y :: l, 0, a, x0, x1, x2, x3, _, ha => by
    rw [List.set_cons_zero, cellsG_cons, cellsG_cons, ha]
    have hy := hk y
    match hc : cel y, hy with
    | [y0, y1, y2, y3], _ => simp
  | y :: l, i + 1, a, x0, x1, x2, x3, h, ha => by
    rw [List.set_cons_succ, cellsG_cons, cellsG_cons, cellsG_set4 hk l i a x0 x1 x2 x3 (by simpa using h) ha]
    have hy := hk y
    have e : ∀ (j : Nat) (x : Value) (L : List Value), (cel y ++ L).set ((i + 1) * 4 + j) x = cel y ++ L.set (i * 4 + j) x := fun j x L => by
      rw [List.set_append_right _ _ (by omega), hy, show (i + 1) * 4 + j - 4 = i * 4 + j by omega]
    have e0 : ∀ (x : Value) (L : List Value), (cel y ++ L).set ((i + 1) * 4) x = cel y ++ L.set (i * 4) x := fun x L => e 0 x L
    rw [e0, e, e, e]
theorem OwG.put4 {α : Type} {ty : TypeId} {cel : α → List Value} (hk : ∀ a, (cel a).length = 4) {w : World} {B : Nat} {v : Value} {l : List α} (h : OwG ty 4 cel w B v l) {i : Nat} (hi : i < l.length) {a : α} {x0 x1 x2 x3 : Value} (ha : cel a = [x0, x1, x2, x3]) :
    ∃ g cap, v = .slice (some ⟨g, 0, none⟩) l.length cap ∧ B ≤ g ∧ (∃ cs, w.heap[g]? = some (.cells cs ty (0, 0)) ∧ l.length * 4 ≤ cs.size) ∧ OwG ty 4 cel ((((w.setCell ⟨g, i * 4, none⟩ x0).setCell ⟨g, i * 4 + 1, none⟩ x1).setCell ⟨g, i * 4 + 2, none⟩ x2).setCell ⟨g, i * 4 + 3, none⟩ x3) B v (l.set i a) := by
  rcases h.2 with ⟨rfl, hn⟩ | ⟨g, cap, cur, rfl, hbase, hg, hnc, hm, hs, hl⟩
  · rw [List.eq_nil_of_length_eq_zero hn] at hi; simp at hi
  · refine ⟨g, cap, rfl, hbase, ⟨cur, hg, by rw [hs]; exact Nat.mul_le_mul_right 4 hnc⟩, by rw [cellsG_length hk], .inr ⟨g, cap, _, by rw [List.length_set], hbase, row_set (row_set (row_set (row_set hg _ _) _ _) _ _) _ _, by rw [List.length_set]; exact hnc, hm, by simp [hs], ?_⟩⟩
    rw [List.length_set, cellsG_set4 hk l i a x0 x1 x2 x3 hi ha, ← hl]
    simp only [Array.toList_setIfInBounds, List.take_set]
set_option maxRecDepth 20000 in
set_option maxHeartbeats 8000000 in
theorem r9with_any {w : World} {A : Option Addr} {n c : Nat} {l : List Ty} (h : DocL w w.heap.size A n c l) (hn : n ≤ 1000) {k : Nat} (hk : k < n) {t : Ty} {A1 A2 : Option Addr} {n1 c1 n2 c2 : Nat} (h1 : FsL w w.heap.size (.slice A1 n1 c1) t.fs) (h2 : TsL w w.heap.size (.slice A2 n2 c2) t.ts) :
    Calls Tryz.prog 107 #[.slice A n c, .int .i64 (k : Int), tyV t.nm t.lo (.slice A1 n1 c1) (.slice A2 n2 c2)] w fun e w' => ∃ A' n' c', e = .returned (.slice A' n' c') ∧ DocL w' w'.heap.size A' n' c' (l.set k t) ∧ Below w.heap.size w w' := by
  obtain ⟨ps, hps, rfl⟩ := h
  obtain ⟨b, off, rfl, -⟩ := hps.2.2.2.2 (by omega)
  have hki : (k : Int) < n := by omega
  have hk0 : (0 : Int) ≤ k := by omega
  have HL := hid hps.1
  obtain ⟨w0, hw0⟩ : ∃ w0, w0 = (w.alloc (.cells #[.string (bs t.nm), .int .i64 t.lo, .slice A1 n1 c1, .slice A2 n2 c2] 60)).alloc (.cells #[] 60) := ⟨_, rfl⟩
  obtain ⟨q, hq⟩ : ∃ q, q = w.heap.size := ⟨_, rfl⟩
  obtain ⟨g, hg⟩ : ∃ g, g = w.heap.size + 1 := ⟨_, rfl⟩
  have HW0 := hid hw0; have HQ := hid hq; have HG := hid hg
  have HB0 : Hid (Below w.heap.size w w0) := by rw [hw0]; exact hid (Ba (B1 _ _) _)
  have HX0 : Hid (TBy w0 q (t, .slice A1 n1 c1, .slice A2 n2 c2)) := by rw [hw0, hq]; exact hid ((TBy.new w (t, .slice A1 n1 c1, .slice A2 n2 c2)).on (B1 _ _))
  have hnew : w0.heap[g]? = some (.cells #[] 60 (0, 0)) := by
    rw [hw0, hg]
    have := heap_alloc_new (w.alloc (.cells #[.string (bs t.nm), .int .i64 t.lo, .slice A1 n1 c1, .slice A2 n2 c2] 60)) (.cells #[] 60)
    simpa using this
  have hslp : ∀ a ∈ ps, slv a.2.1 ∧ slv a.2.2 := fun a ha => (hps.2.2.2.1 a ha).slv
  -- all of the old ones
  cases hi : Tryz.prog.info? 60 with
  | none => have := infoTy; rw [hi] at this; cases this
  | some i =>
  have hi8 := infoTy
  rw [hi] at hi8
  simp only [Option.map_some, Option.some.injEq, Prod.mk.injEq] at hi8
  obtain ⟨hz8, hsz, hb8⟩ := hi8
  have hpl := hps.1
  obtain ⟨v1, w1, hrun, hown, hgr, _⟩ := run_append_own (P := Tryz.prog) w0 g 26 26 60 i _ 4 72 Tryz.underlying26 hi hz8 hsz hb8 rfl (by omega) (.slice (some ⟨g, 0, none⟩) 0 0) 0 [] (OwG.empty (cel := tyCel) (k := 4) hnew (Nat.le_refl g)) ⟨b, off, none⟩ ps.length c (cellsG tyCel ps) (cellsG_length tyLen ps) (RdG.cells tyLen (hps.on tyPB HB0.out)) (fun u hu => by
    unfold cellsG at hu
    rw [List.mem_flatten] at hu
    obtain ⟨L, hL, hu⟩ := hu
    obtain ⟨a, ha, rfl⟩ := List.mem_map.1 hL
    exact ty1 a (hslp a ha) u hu) (by unfold maxLen; omega) (by omega) (Nat.le_of_lt (row_lt hnew))
  rw [Nat.zero_add, List.nil_append] at hown
  have hown : OwTy w1 g v1 ps := hown
  have HB1 : Hid (Below w.heap.size w w1) := hid (Below.grown HB0.out hgr HB0.out.size (fun j e => by cases e; show w.heap.size ≤ g; omega))
  have HX1 : Hid (TBy w1 q (t, .slice A1 n1 c1, .slice A2 n2 c2)) := hid ((hgr.block q (row_lt HX0.out) (by simp [Value.ownBlock]; omega)).trans HX0.out)
  obtain ⟨g1, cap1, rfl, hg1, ⟨cs1, hcs1, hsz1⟩, hput⟩ := OwG.put4 tyLen hown (i := k) (by omega) (a := (t, .slice A1 n1 c1, .slice A2 n2 c2)) (x0 := .string (bs t.nm)) (x1 := .int .i64 t.lo) (x2 := .slice A1 n1 c1) (x3 := .slice A2 n2 c2) rfl
  obtain ⟨w2, hw2⟩ : ∃ w2, w2 = (((w1.setCell ⟨g1, k * 4, none⟩ (.string (bs t.nm))).setCell ⟨g1, k * 4 + 1, none⟩ (.int .i64 t.lo)).setCell ⟨g1, k * 4 + 2, none⟩ (.slice A1 n1 c1)).setCell ⟨g1, k * 4 + 3, none⟩ (.slice A2 n2 c2) := ⟨_, rfl⟩
  have HW2 := hid hw2
  have hwg : w.heap.size ≤ g1 := by omega
  have HB2 : Hid (Below w.heap.size w w2) := by
    rw [hw2]
    exact hid ((((HB1.out.setCell (p := ⟨g1, k * 4, none⟩) hwg _).setCell (p := ⟨g1, k * 4 + 1, none⟩) hwg _).setCell (p := ⟨g1, k * 4 + 2, none⟩) hwg _).setCell (p := ⟨g1, k * 4 + 3, none⟩) hwg _)
  rw [← hw2] at hput
  obtain ⟨A3, c3, e3, hrd⟩ := hput.rd (P := tyP) tyLen (fun a ha => by
    rcases List.mem_or_eq_of_mem_set ha with ha | rfl
    · exact tyPB.on (hps.2.2.2.1 a ha) HB2.out
    · exact tyPB.on ⟨h1, h2⟩ HB2.out)
  rw [List.length_set] at e3 hrd
  cases e3
  rw [hpl] at hrd
  have HRD := hid hrd
  have HRUN := hid hrun
  rw [hpl] at HRUN
  obtain ⟨y0, y1, y2, y3⟩ := HX1.out.cells
  have hz0 : ∀ j, j < 4 → ∃ u, w1.cell? ⟨g1, k * 4 + j, none⟩ = some u := fun j hj => by rw [row_cell hcs1]; exact ⟨_, Array.getElem?_eq_getElem (by omega)⟩
  obtain ⟨u0, z0⟩ := hz0 0 (by omega)
  obtain ⟨u1, z1⟩ := hz0 1 (by omega)
  obtain ⟨u2, z2⟩ := hz0 2 (by omega)
  obtain ⟨u3, z3⟩ := hz0 3 (by omega)
  rw [Nat.add_zero] at z0
  have f0 := row_frozen hcs1 (k * 4)
  have f1 := row_frozen hcs1 (k * 4 + 1)
  have f2 := row_frozen hcs1 (k * 4 + 2)
  have f3 := row_frozen hcs1 (k * 4 + 3)
  clear hz0 hps h1 h2 hw0 hq hg hnew hslp hi hz8 hsz hb8 hrun hown hgr hput hrd hw2 hcs1 hsz1
  unfold tyV
  go_enter Tryz.func107, Tryz.ntmps107
  go_wp2_with (at_builtin; rw [← HW0.out, ← HG.out, ← HQ.out]; refine wpList_appG rfl _ _ rfl rfl rfl HRUN.out ?_)
  rw [← HW2.out]
  go_ret
  refine ⟨_, _, _, rfl, ⟨_, HRD.out, ?_⟩, HB2.out⟩
  rw [List.map_set]
end Go.Proofs.YtaegencmnmjgbaaGreat

namespace Go.Proofs.YtaegencmnmjgbaaGreat
open Go.RowKit Go.Maps
set_option linter.unusedVariables false
set_option linter.unusedSimpArgs false
def HBx (w : World) (b : Nat) (lo : Int) (A : Option Addr) (n c : Nat) : Prop := w.heap[b]? = some (.cells #[.int .i64 lo, .slice A n c] 83 (0, 0))
section
variable {w w' : World} {b : Nat} {lo : Int} {A : Option Addr} {n c : Nat}
theorem HBx.on (h : HBx w b lo A n c) (hb : Below w.heap.size w w') : HBx w' b lo A n c := (hb.block b (row_lt h)).trans h
theorem HBx.cells (h : HBx w b lo A n c) : w.cell? ⟨b, 0, none⟩ = some (.int .i64 lo) ∧ w.cell? ⟨b, 1, none⟩ = some (.slice A n c) := ⟨row_cell h 0, row_cell h 1⟩
theorem HBx.frozen (h : HBx w b lo A n c) (i : Nat) : w.frozen? ⟨b, i, none⟩ = false := row_frozen h i
theorem HBx.new (w : World) (lo : Int) (A : Option Addr) (n c : Nat) : HBx (w.alloc (.cells #[.int .i64 lo, .slice A n c] 83)) w.heap.size lo A n c := heap_alloc_new w _
end
set_option maxHeartbeats 2000000 in
theorem newest_any {w : World} {lo : Int} {A : Option Addr} {n c : Nat} (h0 : 0 ≤ lo ∧ lo ≤ 1000) (hn : n ≤ 1000) :
    Calls Tryz.prog 32 #[hV lo A n c] w fun e w' => e = .returned (.int .i64 (lo + n - 1)) ∧ Below w.heap.size w w' := by
  have hni : (n : Int) ≤ 1000 := by omega
  have hn0 : (0 : Int) ≤ n := by omega
  obtain ⟨h1, h2⟩ := h0
  unfold hV
  go_enter Tryz.func32, Tryz.ntmps32
  go_wp2_with fail
  go_ret
  exact ⟨rfl, B1 _ _⟩
set_option maxHeartbeats 2000000 in
theorem has_any {w : World} {c mb n B : Nat} {r : List UInt8 → Pl} {l : List Ty} (h : Cat w c mb n B r l) (k : List UInt8) (hk : SK k) :
    Calls Tryz.prog 31 #[.pointer (some ⟨c, 0, none⟩), .string (bs k)] w fun e w' => e = .returned (.bool (atT l k).isSome) ∧ Below w.heap.size w w' := by
  have c0 : w.cell? ⟨c, 0, none⟩ = some (.map (some mb)) := row_cell h.box 0
  obtain ⟨lo, A, m, cp, e1, e2, e3⟩ := h.look k
  have hl := h.mp.look_ok Tryz.underlying84 (Tryz.zeroValue83 w) hk
  change (Instr.lookup 84 (.map (some mb)) (.string (bs k)) true).run Tryz.prog w = .ok (.tuple #[(catF l r k).getD (hV 0 none 0 0), .bool (catF l r k).isSome]) w at hl
  rw [e1, e3] at hl
  unfold hV at hl
  clear e1 e2 e3
  go_enter Tryz.func31, Tryz.ntmps31
  go_wp2_with fail
  go_ret
  exact ⟨rfl, B1 _ _⟩
set_option maxHeartbeats 2000000 in
theorem hfields_any {w : World} {lo : Int} {A : Option Addr} {n c : Nat} {t : Ty} (h : Hist w lo A n c (some t)) (ht : okTy t) :
    Calls Tryz.prog 64 #[hV lo A n c] w fun e w' => ∃ A2 n2 c2, e = .returned (.slice A2 n2 c2) ∧ RdF w' w'.heap.size A2 n2 c2 t.last ∧ Below w.heap.size w w' := by
  obtain ⟨k, hk⟩ : ∃ k, k = t.ts.length := ⟨_, rfl⟩
  obtain ⟨T, hT⟩ : ∃ T, (verL t)[k]? = some T := ⟨_, List.getElem?_eq_getElem (by rw [verL_length]; omega)⟩
  have hnw := verL_nw ht hT
  have hl := ht.last.1
  rw [← hk, hnw] at hl
  have hl2 : T.nw = t.last := Option.some.inj hl
  rw [← hl2]
  clear hl hl2
  have hn : n = k + 1 := by rw [← h.rd.1, hk]; rfl
  have hk64 : k ≤ 64 := by have h1 := ht.2.2.1; have h2 := ht.2.1; unfold Ty.hi at h1; have h3 := ht.2.2.2.1; omega
  obtain ⟨_, b, off, rfl, hlt, v1, v2, v3, hr, hc⟩ := h.rd.at hT
  obtain ⟨A1, n1, c1, A2, n2, c2, A3, n3, c3, e, h1, h2, h3⟩ := hr
  cases e
  obtain ⟨d0, d1, d2⟩ := hc w (B0 w)
  obtain ⟨e0, e1, e2⟩ := hc _ (B1 w (.cells #[.int .i64 lo, .slice (some ⟨b, off, none⟩) n c] 83))
  subst hn
  have H2 := hid h2
  have hki : (k : Int) ≤ 64 := by omega
  have hk0 : (0 : Int) ≤ k := by omega
  have hcap : k + 1 ≤ c := h.rd.2.1
  clear hk hT hnw hc h1 h2 h3 h ht d0 d1 d2 hlt
  unfold hV
  go_enter Tryz.func64, Tryz.ntmps64
  go_wp2_with fail
  go_ret
  exact ⟨_, _, _, rfl, H2.out.on (B1 _ _), B1 _ _⟩
end Go.Proofs.YtaegencmnmjgbaaGreat
