/-
  wal: slices.Grow and slices.Concat of steps; run.
-/
import Derived.Test.YteggkojlpgkhbaaGreatWalU
namespace Go.Proofs.YteggkojlpgkhbaaGreat
open Go.RowKit Go.Maps Go.Shelf
set_option linter.unusedVariables false

theorem run_zerosF (m : Nat) (hm : 1 ≤ m) (hmax : m ≤ 1000000) (w : World) (ty : TypeId) :
    (Builtin.append_ #[43, 3] ty #[.slice none 0 0, .int .i64 m]).run Tryz.prog w =
      .ok (.slice (some ⟨w.heap.size, 0, none⟩) m (grownCap w m 0 1)) (w.drew.alloc (.cells (Builtin.zeroCells #[.nilFunc] m ++ Builtin.zeroCells #[.nilFunc] (grownCap w m 0 1 - m)) 1)) := by
  have hi8 := infoF
  cases hi : Tryz.prog.info? 1 with
  | none => rw [hi] at hi8; cases hi8
  | some i =>
    rw [hi] at hi8
    simp only [Option.map_some, Option.some.injEq, Prod.mk.injEq] at hi8
    obtain ⟨hz, hsz, hby⟩ := hi8
    have hn : m ≠ 0 := by omega
    have h63' : ¬ (9223372036854775807 < (m : Int)) := by omega
    have h48' : ¬ (281474976710656 < Builtin.nextslicecap m 0 * 8) := by rw [nextslicecap_zero (by omega)]; omega
    have hw : IntKind.i64.wrap (m : Int) = m := by rw [IntKind.wrap_i64]; omega
    have h0 : ¬ ((m : Int) < 0) := by omega
    have h8 : ¬ (281474976710656 < (m : Int) * 8) := by omega
    simp [Builtin.append_, run_underlying Tryz.underlying43, run_underlying Tryz.underlying3, sizeOf, typeInfo, zeroValue, hi, hz, hsz, hby, Builtin.lenOf, hn, h63', h48', Question.forced, run_firstCells_none, newRow, grownCap, hw, h0, h8, asInt, asIntOf, Value.cells]

theorem wpList_zeroF {w w' : World} {ops : Array Oper} {rest : List Oper} {o : Oper} {a : Act} {Q : Exit → Act → World → Prop} {v v' u : Value} (hgd : o.guard = none) (s x : Operand)
    (hop : o.op = .call { callee := .builtin .append, args := #[s, x], argTypes := #[43, 3] }) (hs : a.eval s = v) (hx : a.eval x = u)
    (hrun : (Builtin.append_ #[43, 3] o.type #[v, u]).run Tryz.prog w = .ok v' w') (hk : wpList Tryz.prog ops Q rest (a.put o.dst v') w') : wpList Tryz.prog ops Q (o :: rest) a w := by
  refine wpList_plain hgd fun K hK => ?_
  unfold Oper.wp execOp
  simp only [hop, resolve, invoke, builtin, Sem.run_bind, Sem.run_pure, Result.andThen_ok, List.map_toArray, List.map_cons, List.map_nil, hs, hx, hrun]
  exact hK _ _ hk
theorem zeroCells_size (m : Nat) : (Builtin.zeroCells #[.nilFunc] m).size = m := by rw [size_zeroCells]; simp
theorem growF_any (m : Nat) (hm : 1 ≤ m) (hmax : m ≤ 1000000) (w : World) :
    Calls Tryz.prog 68 #[.slice none 0 0, .int .i64 m] w fun e w' => ∃ v, e = .returned v ∧ (∀ lo d, StR w' lo d w.heap.size v []) ∧ Below w.heap.size w w' := by
  have hrun := run_zerosF m hm hmax w 43
  have hcap := grownCap_ge w m 0 1
  have hcm : grownCap w m 0 1 ≤ maxLen := grownCap_le_maxLen w m 0 _ (by unfold maxLen; omega)
  obtain ⟨cp, hcp⟩ : ∃ cp, cp = grownCap w m 0 1 := ⟨_, rfl⟩
  rw [← hcp] at hrun hcap hcm
  clear hcp
  obtain ⟨W, hW⟩ : ∃ W, W = w.drew.alloc (.cells (Builtin.zeroCells #[.nilFunc] m ++ Builtin.zeroCells #[.nilFunc] (cp - m)) 1) := ⟨_, rfl⟩
  rw [← hW] at hrun
  have hb : Below w.heap.size w W := by rw [hW]; exact (Below.drew (B0 w)).alloc (Nat.le_refl _) _
  have hc : W.heap[w.heap.size]? = some (.cells (Builtin.zeroCells #[.nilFunc] m ++ Builtin.zeroCells #[.nilFunc] (cp - m)) 1 (0, 0)) := by rw [hW]; exact heap_alloc_new w.drew _
  have HC := hid hc; have HB := hid hb; have HM := hid hcm; have HP := hid hcap
  clear hW hc hb hcm
  have hq : IntKind.i64.wrap (m : Int) = m := by rw [IntKind.wrap_i64]; omega
  have d1 : decide ((m : Int) < 0) = false := by simp
  have d2 : decide (0 < (m : Int)) = true := by simp; omega
  have HX := hid hmax
  have HM1 := hid hm
  clear hmax hcap hm
  have HRUN := hid hrun
  clear hrun
  go_enter Tryz.func68, Tryz.ntmps68
  set_option maxRecDepth 20000 in
  go_wp2_with (at_builtin; refine wpList_zeroF rfl _ _ rfl rfl rfl HRUN.out ?_)
  go_ret
  refine ⟨_, rfl, fun lo d => ⟨[], ⟨rfl, .inr ⟨w.heap.size, cp, _, rfl, Nat.le_refl _, HC.out, Nat.zero_le _, HM.out, ?_, by simp⟩⟩, fun i s h => by simp at h⟩, HB.out⟩
  have := HP.out
  rw [Array.size_append, zeroCells_size, zeroCells_size]; omega

theorem StR.out {W : World} {lo d base : Nat} {v : Value} {ss : List Stp} (h : StR W lo d base v ss) (h1 : 1 ≤ ss.length) :
    ∃ (q c : Nat) (vs : List Value), v = .slice (some ⟨q, 0, none⟩) ss.length c ∧ vs.length = ss.length ∧ (∀ (j : Nat) (u : Value), vs[j]? = some u → W.cell? ⟨q, j, none⟩ = some u) ∧ (∀ u ∈ vs, u.oneCell' = true) ∧ ∀ (i : Nat) (s : Stp), ss[i]? = some s → ∃ u, vs[i]? = some u ∧ StepV W lo d u s := by
  obtain ⟨vs, how, h2⟩ := h
  have hl : vs.length = ss.length := by have := how.1; omega
  rcases how.2 with ⟨_, h0⟩ | ⟨g, c, cur, hv, hb, hg, h3, h4, h5, h6⟩
  · omega
  · refine ⟨g, c, vs, hv, hl, fun j u hj => ?_, fun u hu => ?_, h2⟩
    · have := how.cells (g := g) (by rw [hv]; rfl) j u hj
      rwa [add_plain, Nat.zero_add] at this
    · obtain ⟨i, hi, rfl⟩ := List.mem_iff_getElem.1 hu
      obtain ⟨u, hu1, hu2⟩ := h2 i (ss[i]'(by omega)) (List.getElem?_eq_getElem _)
      rw [List.getElem?_eq_getElem hi] at hu1
      cases hu1
      exact hu2.one

/-- The steps of the first k lists. -/
def flatS (ps : List (Value × List Stp)) (k : Nat) : List Stp := ((ps.take k).map (·.2)).flatten
theorem flatS_succ {ps : List (Value × List Stp)} {k : Nat} {p : Value × List Stp} (h : ps[k]? = some p) : flatS ps (k + 1) = flatS ps k ++ p.2 := by
  unfold flatS; rw [List.take_add_one, h]; simp
theorem flatS_le (ps : List (Value × List Stp)) (k : Nat) : (flatS ps k).length ≤ (flatS ps ps.length).length := by
  have : flatS ps ps.length = flatS ps k ++ ((ps.drop k).map (·.2)).flatten := by
    unfold flatS
    rw [List.take_length, ← List.flatten_append, ← List.map_append, List.take_append_drop]
  rw [this]; simp

set_option maxRecDepth 20000 in
set_option maxHeartbeats 4000000 in
theorem concat_any {w : World} {lo d base g n c : Nat} {ps : List (Value × List Stp)} {cs : Array Value} (hn : ps.length = n) (hnc : n ≤ c) (hn9 : n ≤ 100) (hg : w.heap[g]? = some (.cells cs 43 (0, 0))) (hcs : ∀ (i : Nat) p, ps[i]? = some p → cs[i]? = some p.1 ∧ StR w lo d base p.1 p.2 ∧ 1 ≤ p.2.length) (h1 : 1 ≤ (flatS ps n).length) (hmax : (flatS ps n).length ≤ 500000) (hlo : lo ≤ w.heap.size) (hbase : base ≤ w.heap.size) :
    Calls Tryz.prog 35 #[.slice (some ⟨g, 0, none⟩) n c] w fun e w' => ∃ v, e = .returned v ∧ StR w' lo d w.heap.size v (flatS ps n) ∧ Below w.heap.size w w' := by
  have HG := hid hg; have HCS := hid hcs; have HN := hid hn; have H1 := hid h1; have HMX := hid hmax; have HLO := hid hlo; have HB := hid hbase
  have HLE : Hid (∀ k, (flatS ps k).length ≤ (flatS ps n).length) := fun k => by have := flatS_le ps k; rw [hn] at this; exact this
  have hni : (n : Int) ≤ 100 := by omega
  clear hg hcs hn h1 hmax hlo hbase hn9
  go_enter Tryz.func35, Tryz.ntmps35
  go_wp2_with fail
  go_loopw [3, 11] (fun sz i wr => ∃ (k : Nat) (t : Int), k ≤ n ∧ i = .int .i64 k ∧ Hid (t = (flatS ps k).length) ∧ 0 ≤ t ∧ t ≤ 500000 ∧ sz = .int .i64 t ∧ Hid (w = wr)) (fun _ i _ => n - (intOf i).toNat)
  case atStart => exact ⟨0, 0, Nat.zero_le _, rfl, hid (by simp [flatS]), by omega, by omega, rfl, hid rfl⟩
  case round =>
    obtain ⟨k, t, hk, rfl, HT, ht0, ht1, rfl, HW⟩ := hrel
    obtain rfl : w = wr := HW.out
    by_cases hlt : k < n
    · obtain ⟨⟨v, ss⟩, hp⟩ : ∃ p, ps[k]? = some p := ⟨ps[k]'(by rw [HN.out]; exact hlt), List.getElem?_eq_getElem _⟩
      obtain ⟨hc1, hst, _⟩ : cs[k]? = some v ∧ StR w lo d base v ss ∧ 1 ≤ ss.length := HCS.out k _ hp
      obtain ⟨A, cc, rfl⟩ := StR.shape hst
      have hcell : w.cell? ⟨g, k, none⟩ = some (.slice A ss.length cc) := by rw [row_cell HG.out]; exact hc1
      have hle := HLE.out (k + 1)
      rw [flatS_succ hp, List.length_append] at hle
      simp only at hle
      obtain ⟨m, hm⟩ : ∃ m, m = ss.length := ⟨_, rfl⟩
      rw [← hm] at hcell hle
      have hm1 : t + m ≤ 500000 := by have := HT.out; have := HMX.out; omega
      have hw : IntKind.i64.wrap (t + m) = t + m := by rw [IntKind.wrap_i64]; omega
      have d1 : decide (t + (m : Int) < 0) = false := by simp; omega
      have HST := hid hst; have HP := hid hp; have HM := hid hm
      clear hst hp hm hle hc1
      go_wp2_with fail
      go_roundw
      case rel => exact ⟨k + 1, t + m, by omega, by simp, hid (by rw [flatS_succ HP.out, List.length_append, HT.out, HM.out]; simp), by omega, by omega, rfl, by first | exact hid rfl | exact hid trivial⟩
      case measure => simp [intOf]; omega
    · obtain rfl : k = n := by omega
      obtain ⟨m, hm⟩ : ∃ m : Nat, (m : Int) = t := ⟨t.toNat, by omega⟩
      subst hm
      have HT' : Hid (m = (flatS ps k).length) := by have := HT.out; show m = _; omega
      have HM : Hid (1 ≤ m ∧ m ≤ 1000000) := ⟨by rw [HT'.out]; exact H1.out, by rw [HT'.out]; have := HMX.out; omega⟩
      clear ht0 ht1
      go_wp2_with fail
      refine (growF_any m HM.out.1 HM.out.2 _).mono ?_
      rintro e w1 ⟨v1, rfl, hv1, hb1⟩
      have HV1 := hid (hv1 lo d)
      clear hv1
      go_wp2_with fail
      go_loopw [6, 27] (fun v i wr => ∃ j : Nat, j ≤ k ∧ i = .int .i64 j ∧ Hid (StR wr lo d w.heap.size v (flatS ps j)) ∧ Hid (Below w.heap.size w wr)) (fun _ i _ => k - (intOf i).toNat)
      case atStart => exact ⟨0, Nat.zero_le _, rfl, hid (by simpa [flatS] using HV1.out), hid hb1⟩
      case round =>
        obtain ⟨j, hj, rfl, HS, HBq⟩ := hrel
        by_cases hjk : j < k
        · obtain ⟨⟨v, ss⟩, hp⟩ : ∃ p, ps[j]? = some p := ⟨ps[j]'(by rw [HN.out]; exact hjk), List.getElem?_eq_getElem _⟩
          obtain ⟨hc1, hst, h1s⟩ : cs[j]? = some v ∧ StR w lo d base v ss ∧ 1 ≤ ss.length := HCS.out j _ hp
          obtain ⟨q, cc, vs, rfl, hvl, hcell, hone, hvs⟩ := (hst.on HBq.out).out h1s
          have hce : wr.cell? ⟨g, j, none⟩ = some (.slice (some ⟨q, 0, none⟩) ss.length cc) := by rw [row_cell ((HBq.out.block _ (row_lt HG.out)).trans HG.out)]; exact hc1
          have hle := HLE.out (j + 1)
          rw [flatS_succ hp, List.length_append] at hle
          simp only at hle
          obtain ⟨v3, W3, hrun, ho3, hg3⟩ := run_appF (c := cc) (ss' := ss) HS.out (q := q) (m := ss.length) (news := vs) hvl hcell hone (by have := HMX.out; omega) HBq.out.size rfl hvs 43
          have HRUN := hid hrun; have HG3 := hid hg3; have HO3 := hid ho3; have HP := hid hp
          clear hrun hg3 ho3 hp hcell hone hvs hvl hle hst hc1 h1s
          go_wp2_with (at_builtin; refine wpList_appF rfl _ _ rfl rfl rfl HRUN.out ?_)
          go_roundw
          case rel => exact ⟨j + 1, by omega, by simp, hid (by rw [flatS_succ HP.out]; exact HO3.out), hid (HBq.out.grown HG3.out HBq.out.size (fun i hi => (HS.out.row i hi).1))⟩
          case measure => simp [intOf]; omega
        · obtain rfl : j = k := by omega
          go_wp2_with fail
          go_ret
          exact ⟨_, rfl, HS.out, HBq.out⟩

/-! ### Taking steps -/
def runS (D : DS) : List Stp → DS := List.foldl Stp.on D
theorem runS_length {D : DS} : ∀ {ss : List Stp}, (∀ s ∈ ss, s.ok D.S.length) → (runS D ss).S.length = D.S.length := by
  intro ss
  induction ss generalizing D with
  | nil => intro _; rfl
  | cons s ss ih =>
    intro h
    have h1 := Stp.on_length (h s (by simp))
    show (runS (s.on D) ss).S.length = _
    rw [ih (fun t ht => by rw [h1]; exact h t (by simp [ht])), h1]
theorem runS_take {D : DS} {ss : List Stp} {k : Nat} {s : Stp} (h : ss[k]? = some s) : runS D (ss.take (k + 1)) = s.on (runS D (ss.take k)) := by
  unfold runS; rw [List.take_add_one, h, List.foldl_append]; rfl

set_option maxRecDepth 20000 in
set_option maxHeartbeats 4000000 in
theorem run_any {w : World} {B d g cap lb fb lo base : Nat} {D : DS} {ss : List Stp} {v : Value} (hd : DevS w B d g cap lb fb D) (hs : StR w lo d base v ss) (h1 : g < lo) (h2 : lb < lo) (h3 : fb < lo) (hl : lo ≤ base) (hok : ∀ s ∈ ss, s.ok D.S.length) (hmax : ss.length ≤ 1000000) :
    Calls Tryz.prog 54 #[v] w fun e w' => e = .returned (.tuple #[]) ∧ DevS w' B d g cap lb fb (runS D ss) ∧ Fr g lb fb w w' := by
  obtain ⟨A, c, rfl⟩ := hs.shape
  obtain ⟨n, hn⟩ : ∃ n, n = ss.length := ⟨_, rfl⟩
  have HD := hid hd; have HS := hid hs; have HOK := hid hok; have HN := hid hn
  rw [← hn] at hmax ⊢
  have hmi : (n : Int) ≤ 1000000 := by omega
  clear hd hs hok hn hmax
  go_enter Tryz.func54, Tryz.ntmps54
  go_wp2_with fail
  go_loopw [6] (fun i wr => ∃ k : Nat, k ≤ n ∧ i = .int .i64 k ∧ Hid (DevS wr B d g cap lb fb (runS D (ss.take k))) ∧ Hid (Fr g lb fb w wr)) (fun i _ => n - (intOf i).toNat)
  case atStart => exact ⟨0, Nat.zero_le _, rfl, by simpa [runS] using HD, hid (Fr.refl _ _ _ _)⟩
  case round =>
    obtain ⟨k, hk, rfl, HDk, HF⟩ := hrel
    by_cases hlt : k < n
    · have hkl : k < ss.length := by rw [← HN.out]; exact hlt
      obtain ⟨s, hs⟩ : ∃ s, ss[k]? = some s := ⟨_, List.getElem?_eq_getElem hkl⟩
      have hok : s.ok (runS D (ss.take k)).S.length := by
        rw [runS_length (fun t ht => HOK.out t (List.mem_of_mem_take ht))]; exact HOK.out s (List.mem_of_getElem? hs)
      obtain ⟨q, cc, vs, hv, hvl, hcell, hone, hvs⟩ := (HS.out.fr HF.out h1 h2 h3 hl).out (by omega)
      rw [← HN.out] at hv
      cases hv
      obtain ⟨u, hu1, hu2⟩ := hvs k s hs
      have hce := hcell k u hu1
      have HSK := hid hs; have HOKs := hid hok
      clear hs hok hvs hcell hone hvl hu1 hkl
      cases s with
      | wr at_ l =>
        obtain ⟨r, a, b, q2, off, c2, x, y, rfl, l1, l2, l3, l4, g5, g6, g7, g8, g9, g9', cs2, g10, g11⟩ := hu2
        have HC := hid (wr_do HDk.out HOKs.out g5 g6 g7 g9 g9' g10 g11)
        clear g5 g6 g7 g8 g9 g9' g10 g11
        go_wp2_with fail
        refine HC.out.mono ?_
        rintro e w1 ⟨rfl, hd1, hf1⟩
        have HD1 := hid hd1; clear hd1
        go_wp2_with fail
        go_roundw
        case rel => exact ⟨k + 1, by omega, by simp, hid (by rw [runS_take HSK.out]; exact HD1.out), hid (HF.out.trans hf1)⟩
        case measure => simp [intOf]; omega
      | fl at_ m =>
        obtain ⟨r, a, b, x, y, rfl, l1, l2, l3, g5, g6, g7⟩ := hu2
        have HC := hid (fl_do HDk.out HOKs.out g5 g6 g7)
        clear g5 g6 g7
        go_wp2_with fail
        refine HC.out.mono ?_
        rintro e w1 ⟨rfl, hd1, hf1⟩
        have HD1 := hid hd1; clear hd1
        go_wp2_with fail
        go_roundw
        case rel => exact ⟨k + 1, by omega, by simp, hid (by rw [runS_take HSK.out]; exact HD1.out), hid (HF.out.trans hf1)⟩
        case measure => simp [intOf]; omega
      | fe =>
        obtain rfl := hu2
        have HC := hid (fence_any HDk.out)
        go_wp2_with fail
        refine HC.out.mono ?_
        rintro e w1 ⟨rfl, hd1, hf1⟩
        have HD1 := hid hd1; clear hd1
        go_wp2_with fail
        go_roundw
        case rel => exact ⟨k + 1, by omega, by simp, hid (by rw [runS_take HSK.out]; exact HD1.out), hid (HF.out.trans hf1)⟩
        case measure => simp [intOf]; omega
    · obtain rfl : k = n := by omega
      have hkt : ss.take k = ss := by rw [HN.out]; exact List.take_length
      rw [hkt] at HDk
      clear hkt
      go_wp2_with fail
      go_end0
      exact ⟨rfl, HDk.out, HF.out⟩
end Go.Proofs.YteggkojlpgkhbaaGreat
