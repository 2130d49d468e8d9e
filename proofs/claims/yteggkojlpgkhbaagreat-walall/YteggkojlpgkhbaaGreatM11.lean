/-
  The document's answers for layer 3: New, Loose; and pmem.Of.
  The document's answers for layer 3: write.
  The document's answers for layer 3: Do.
-/
import Derived.Test.YteggkojlpgkhbaaGreatM10

namespace Go.Proofs.YteggkojlpgkhbaaGreat
open Go.RowKit Go.Maps Go.Shelf
set_option linter.unusedVariables false

def OwI (w : World) (base : Nat) (v : Value) (l : List Int) : Prop := w.ownsRow base 3 1 v l.length (l.map encZ)
theorem infoI : (Tryz.prog.info? 3).map (fun i => (i.zero, i.size, i.bytes)) = some (some (.int .i64 0), 1, 8) := by kernel_rfl
theorem OwI.row {w : World} {base : Nat} {v : Value} {l : List Int} (h : OwI w base v l) : ∀ j, v.ownBlock = some j → base ≤ j := by
  intro j hj
  rcases h.2 with ⟨e, _⟩ | ⟨g, cap, cur, e, hbase, _⟩
  · rw [e] at hj; simp [Value.ownBlock] at hj
  · rw [e] at hj; simp [Value.ownBlock] at hj; omega
theorem OwI.on {w w' : World} {base : Nat} {v : Value} {l : List Int} (h : OwI w base v l) (hb : Below w.heap.size w w') : OwI w' base v l := row_below h hb
theorem run_appI {w : World} {base : Nat} {v : Value} {xs : List Int} (h : OwI w base v xs) {q : Nat} {x : Int} (hq : w.heap[q]? = some (.cells #[.int .i64 x] 3 (0, 0))) (hlen : xs.length ≤ 1000000) (hb : base ≤ w.heap.size) (ty : TypeId) :
    ∃ v' w', (Builtin.append_ #[52, 52] ty #[v, .slice (some ⟨q, 0, none⟩) 1 1]).run Tryz.prog w = .ok v' w' ∧ OwI w' base v' (xs ++ [x]) ∧ w.grownBy w' v.ownBlock := by
  have hi8 := infoI
  cases hi : Tryz.prog.info? 3 with
  | none => rw [hi] at hi8; cases hi8
  | some i =>
    rw [hi] at hi8
    simp only [Option.map_some, Option.some.injEq, Prod.mk.injEq] at hi8
    obtain ⟨hz, hsz, hby⟩ := hi8
    obtain ⟨v', W', hr, ho, hg, hnil⟩ := run_append_own (P := Tryz.prog) w base 52 ty 3 i (.int .i64 0) 1 8 Tryz.underlying52 hi hz hsz hby rfl (by omega) v xs.length (xs.map encZ) h ⟨q, 0, none⟩ 1 1 [.int .i64 x] rfl (fun j u hj => by rw [add_plain, Nat.zero_add, row_cell hq]; match j, hj with | 0, h => exact h) (by intro u hu; simp at hu; subst hu; rfl) (by unfold maxLen; omega) (by omega) hb
    refine ⟨v', W', hr, ?_, hg⟩
    unfold OwI
    have e1 : (xs ++ [x]).length = xs.length + 1 := by simp
    have e2 : (xs ++ [x]).map encZ = xs.map encZ ++ [.int .i64 x] := by simp [encZ]
    rw [e1, e2]; exact ho
theorem wpList_appI {w w' : World} {ops : Array Oper} {rest : List Oper} {o : Oper} {a : Act} {Q : Exit → Act → World → Prop} {v v' u : Value} (hgd : o.guard = none) (s x : Operand)
    (hop : o.op = .call { callee := .builtin .append, args := #[s, x], argTypes := #[52, 52] }) (hs : a.eval s = v) (hx : a.eval x = u)
    (hrun : (Builtin.append_ #[52, 52] o.type #[v, u]).run Tryz.prog w = .ok v' w') (hk : wpList Tryz.prog ops Q rest (a.put o.dst v') w') : wpList Tryz.prog ops Q (o :: rest) a w := by
  refine wpList_plain hgd fun K hK => ?_
  unfold Oper.wp execOp
  simp only [hop, resolve, invoke, builtin, Sem.run_bind, Sem.run_pure, Result.andThen_ok, List.map_toArray, List.map_cons, List.map_nil, hs, hx, hrun]
  exact hK _ _ hk

set_option maxHeartbeats 2000000 in
theorem rloose_any {w : World} {A : Option Addr} {n c : Nat} {l : List Wd} (h : RdW w w.heap.size A n c l) (hn : n ≤ 8192) :
    Calls Tryz.prog 48 #[.slice A n c] w fun e w' => ∃ v, e = .returned v ∧ OwI w' w.heap.size v (looseW l) ∧ Below w.heap.size w w' := by
  have HL : Hid (l.length = n) := h.1
  have hni : (n : Int) ≤ 8192 := by omega
  have H := hid h
  clear h hn
  go_enter Tryz.func48, Tryz.ntmps48
  go_wp2_with fail
  go_loopw [3, 4] (fun v i wr => ∃ k : Nat, k ≤ n ∧ i = .int .i64 k ∧ Hid (OwI wr w.heap.size v (looseK l k)) ∧ Hid (Below w.heap.size w wr)) (fun _ i _ => n - (intOf i).toNat)
  case atStart => exact ⟨0, by omega, rfl, hid (World.ownsRow_nil _ _ _ _), hid (B0 w)⟩
  case round =>
    obtain ⟨k, hk, rfl, HO, HB⟩ := hrel
    rename_i v
    by_cases hlt : k < n
    · have hkl : k < l.length := by have := HL.out; omega
      obtain ⟨b, off, rfl, hbl, hc⟩ := (H.out.below HB.out).2.2.2.2 (by omega)
      obtain ⟨c1, c2, c3, c4⟩ := hc k hkl
      obtain ⟨x, hx⟩ : ∃ x, x = l[k] := ⟨_, rfl⟩
      have HXk : Hid (l[k]? = some x) := by rw [hx]; exact List.getElem?_eq_getElem hkl
      rw [← hx] at c3
      have hlk : (looseK l k).length ≤ k := by unfold looseK; exact Nat.le_trans (List.length_filter_le _ _) (by simp)
      have HLK := hid hlk
      clear hx hc c1 c2 c4 hlk
      cases hb : x.loose with
      | false =>
        rw [hb] at c3
        go_wp2_with fail
        go_roundw
        case rel => exact ⟨k + 1, by omega, by simp, hid (by rw [looseK_succ HXk.out, hb]; simpa using HO.out), HB⟩
        case measure => simp [intOf]; omega
      | true =>
        rw [hb] at c3
        obtain ⟨w2, hw2⟩ : ∃ w2, w2 = wr.alloc (.cells #[.int .i64 (k : Int)] 3) := ⟨_, rfl⟩
        have hb2 : Below wr.heap.size wr w2 := by rw [hw2]; exact B1 _ _
        have hq2 : w2.heap[wr.heap.size]? = some (.cells #[.int .i64 (k : Int)] 3 (0, 0)) := by rw [hw2]; exact heap_alloc_new _ _
        obtain ⟨v3, w3, hrun, ho3, hg3⟩ := run_appI (x := (k : Int)) (HO.out.on hb2) hq2 (by have := HLK.out; omega) (Nat.le_trans HB.out.size hb2.size) 52
        rw [hw2] at hrun
        have HRUN := hid hrun; have HO3 := hid ho3; have HG3 := hid hg3; have HB2 := hid hb2; have HW2 := hid hw2
        clear hrun ho3 hg3 hq2 hb2 hw2
        go_wp2_with (at_builtin; refine wpList_appI rfl _ _ rfl rfl rfl HRUN.out ?_)
        go_roundw
        case rel => exact ⟨k + 1, by omega, by simp, hid (by rw [looseK_succ HXk.out, hb]; simpa using HO3.out), hid ((HB.out.trans (HB2.out.mono HB.out.size)).grown HG3.out (Nat.le_trans HB.out.size HB2.out.size) (fun j hj => HO.out.row j hj))⟩
        case measure => simp [intOf]; omega
    · obtain rfl : k = n := by omega
      have e : looseK l k = looseW l := by unfold looseW; rw [HL.out]
      rw [e] at HO
      go_wp2_with fail
      go_ret
      exact ⟨_, rfl, HO.out, HB.out⟩

theorem ext_at (X : List UInt8) (i j : Nat) : (⟨X.toArray⟩ : ByteArray).extract i j = ⟨((X.take j).drop i).toArray⟩ := by
  rw [ByteArray.extract_mk]
  simp [List.drop_take]
/-! ### New -/
def newW (b : List UInt8) (k : Nat) : List Wd := (List.range k).map fun i => ⟨(b.drop (i * 8)).take 8, (b.drop (i * 8)).take 8, false, false⟩
theorem newW_succ (b : List UInt8) (k : Nat) : newW b (k + 1) = newW b k ++ [⟨(b.drop (k * 8)).take 8, (b.drop (k * 8)).take 8, false, false⟩] := by unfold newW; rw [List.range_succ]; simp
theorem newW_length (b : List UInt8) (k : Nat) : (newW b k).length = k := by simp [newW]
theorem newW_ok (b : List UInt8) (k : Nat) (h : k * 8 ≤ b.length) : ok8 (newW b k) := by
  intro x hx
  obtain ⟨i, hi, rfl⟩ := List.mem_map.1 hx
  rw [List.mem_range] at hi
  simp; omega
theorem step_appW {w w' : World} {o : Oper} {a : Act} {K : Act → World → Prop} {Q : Exit → Act → World → Prop} {y : Nat → Option Bool} {v v' u : Value} (hgd : o.guard = none) (s x : Operand)
    (hop : o.op = .call { callee := .builtin .append, args := #[s, x], argTypes := #[30, 30] }) (hs : a.eval s = v) (hx : a.eval x = u)
    (hrun : (Builtin.append_ #[30, 30] o.type #[v, u]).run Tryz.prog w = .ok v' w') (hk : K (a.put o.dst v') w') :
    if Region.wanted o y = true then Oper.wp Tryz.prog o a w K Q else K (a.put o.dst undef) w := by
  simp only [Region.wanted, hgd, if_true]
  unfold Oper.wp execOp
  simp only [hop, resolve, invoke, builtin, Sem.run_bind, Sem.run_pure, Result.andThen_ok, List.map_toArray, List.map_cons, List.map_nil, hs, hx, hrun]
  exact hk
theorem wpList_appW2 {w w' : World} {ops : Array Oper} {rest : List Oper} {o : Oper} {a : Act} {Q : Exit → Act → World → Prop} {v v' u : Value} (hgd : o.guard = none) (s x : Operand)
    (hop : o.op = .call { callee := .builtin .append, args := #[s, x], argTypes := #[30, 30] }) (hs : a.eval s = v) (hx : a.eval x = u)
    (hrun : (Builtin.append_ #[30, 30] o.type #[v, u]).run Tryz.prog w = .ok v' w') (hk : wpList Tryz.prog ops Q rest (a.put o.dst v') w') : wpList Tryz.prog ops Q (o :: rest) a w := by
  refine wpList_plain hgd fun K hK => ?_
  unfold Oper.wp execOp
  simp only [hop, resolve, invoke, builtin, Sem.run_bind, Sem.run_pure, Result.andThen_ok, List.map_toArray, List.map_cons, List.map_nil, hs, hx, hrun]
  exact hK _ _ hk
theorem rdW_one (w : World) (x : Wd) : RdW (w.alloc (.cells #[str x.seen, str x.safe, .bool x.loose, .bool x.fl] 102)) (w.alloc (.cells #[str x.seen, str x.safe, .bool x.loose, .bool x.fl] 102)).heap.size (some ⟨w.heap.size, 0, none⟩) 1 1 [x] := by
  refine ⟨rfl, Nat.le_refl _, by simp [maxLen], (fun h => by cases h), fun _ => ⟨w.heap.size, 0, rfl, by simp, fun i hi => ?_⟩⟩
  have : i = 0 := by simp at hi; omega
  subst this
  unfold WdC
  simp only [row_cell (heap_alloc_new w _)]
  exact ⟨rfl, rfl, rfl, rfl⟩
theorem OwW.heapEq {w w' : World} {base : Nat} {v : Value} {l : List Wd} (h : OwW w base v l) (e : w'.heap = w.heap) : OwW w' base v l := by
  refine ⟨h.1, ?_⟩
  rcases h.2 with h1 | ⟨g, cap, cur, hv, hbase, hg, h3⟩
  · exact .inl h1
  · exact .inr ⟨g, cap, cur, hv, hbase, by rw [e]; exact hg, h3⟩

set_option maxRecDepth 20000 in
set_option maxHeartbeats 2000000 in
theorem rnew_ok {w : World} (b : List UInt8) {n : Nat} (hb : b.length = n * 8) (hn : n ≤ 8192) :
    Calls Tryz.prog 18 #[.string ⟨b.toArray⟩] w fun e w' => ∃ v, e = .returned (.tuple #[v, .bool true]) ∧ OwW w' w.heap.size v (newW b n) ∧ Below w.heap.size w w' := by
  have HBL := hid hb
  have d0 : ((b.length : Int).tmod 8 == 0) = true := by rw [Int.tmod_eq_emod_of_nonneg (by omega)]; simp; omega
  have d0' : ((b.length : Int).tmod 8 != 0) = false := by rw [Int.tmod_eq_emod_of_nonneg (by omega)]; simp; omega
  have d0'' : ((b.length : Int) % 8 != 0) = false := by simp; omega
  have d2 : decide (65536 < (b.length : Int)) = false := by simp; omega
  have hni : (n : Int) ≤ 8192 := by omega
  have hbl : (b.length : Int) ≤ 65536 := by omega
  clear hb hn
  go_enter Tryz.func18, Tryz.ntmps18
  go_wp2_with fail
  go_loopw [4, 5] (fun v i wr => ∃ (k Z : Nat), k ≤ n ∧ Hid (Z = k * 8) ∧ Z ≤ 65536 ∧ i = .int .i64 Z ∧ Hid (OwW wr w.heap.size v (newW b k)) ∧ Hid (Below w.heap.size w wr)) (fun _ i _ => n * 8 - (intOf i).toNat)
  case atStart => exact ⟨0, 0, by omega, hid (by simp), by omega, rfl, hid (OwW.nil _ _), hid (B0 w)⟩
  case round =>
    obtain ⟨k, Z, hk, HZ, hZm, rfl, HO, HB⟩ := hrel
    rename_i v
    by_cases hlt : k < n
    · have d3 : decide ((Z : Int) < (b.length : Int)) = true := by have := HZ.out; have := HBL.out; simp; omega
      have hlt3 : (Z : Int) < (b.length : Int) := by simpa using d3
      have q1 : IntKind.i64.wrap ((Z : Int) + 8) = (Z : Int) + 8 := by rw [IntKind.wrap_i64]; omega
      obtain ⟨x, hx⟩ : ∃ x, x = (b.drop (k * 8)).take 8 := ⟨_, rfl⟩
      have hxe : (⟨b.toArray⟩ : ByteArray).extract Z (Z + 8) = ⟨x.toArray⟩ := by
        rw [ext_at, hx]; congr 2; rw [HZ.out, List.drop_take]; simp
      have hle : (Z : Int) + 8 ≤ (b.length : Int) := by have := HZ.out; have := HBL.out; omega
      have hle2 : Z + 8 ≤ b.length := by omega
      have htn : ((Z : Int) + 8).toNat = Z + 8 := by omega
      have h0z : 0 ≤ (Z : Int) + 8 := by omega
      have hz8 : (Z : Int) ≤ (Z : Int) + 8 := by omega
      have HXX := hid hx
      clear hx
      go_wp2_with fail
      refine reg_beginB (w.heap.size) (by kernel_rfl) (fun w0r hh0r hx0r hHeld => ?_)
      refine reg_takeB 0 (v := ?vb0) at0 (by kernel_rfl) (by kernel_rfl) (by kernel_rfl) (by rfl) ?hyb0 hHeld ?restb0
      case hyb0 => (intro w' hSw; go_simp; try with_reducible rfl)
      try simp only [Act.put, List.setIfInBounds_toArray, List.set_cons_zero, List.set_cons_succ]
      refine reg_takeB 1 (v := ?vb1) (atS at0) (by kernel_rfl) (by kernel_rfl) (by kernel_rfl) (by rfl) ?hyb1 hHeld ?restb1
      case hyb1 => (intro w' hSw; go_simp; try with_reducible rfl)
      try simp only [Act.put, List.setIfInBounds_toArray, List.set_cons_zero, List.set_cons_succ]
      refine reg_takeB 2 (v := ?vb2) (atS (atS at0)) (by kernel_rfl) (by kernel_rfl) (by kernel_rfl) (by rfl) ?hyb2 hHeld ?restb2
      case hyb2 => (intro w' hSw; go_simp; try with_reducible rfl)
      try simp only [Act.put, List.setIfInBounds_toArray, List.set_cons_zero, List.set_cons_succ]
      refine reg_takeB 3 (v := ?vb3) (atS (atS (atS at0))) (by kernel_rfl) (by kernel_rfl) (by kernel_rfl) (by rfl) ?hyb3 hHeld ?restb3
      case hyb3 => (intro w' hSw; go_simp; try with_reducible rfl)
      try simp only [Act.put, List.setIfInBounds_toArray, List.set_cons_zero, List.set_cons_succ]
      refine reg_takeB 4 (v := ?vb4) (atS (atS (atS (atS at0)))) (by kernel_rfl) (by kernel_rfl) (by kernel_rfl) (by rfl) ?hyb4 hHeld ?restb4
      case hyb4 => (intro w' hSw; go_simp; try with_reducible rfl)
      try simp only [Act.put, List.setIfInBounds_toArray, List.set_cons_zero, List.set_cons_succ]
      refine reg_takeB 5 (v := ?vb5) (atS5 at0) (by kernel_rfl) (by kernel_rfl) (by kernel_rfl) (by rfl) ?hyb5 hHeld ?restb5
      case hyb5 => (intro w' hSw; go_simp; try with_reducible rfl)
      try simp only [Act.put, List.setIfInBounds_toArray, List.set_cons_zero, List.set_cons_succ]
      refine reg_takeB 6 (v := ?vb6) (atS5 (atS at0)) (by kernel_rfl) (by kernel_rfl) (by kernel_rfl) (by rfl) ?hyb6 hHeld ?restb6
      case hyb6 => (intro w' hSw; go_simp; try with_reducible rfl)
      try simp only [Act.put, List.setIfInBounds_toArray, List.set_cons_zero, List.set_cons_succ]
      refine reg_takeB 7 (v := ?vb7) (atS5 (atS (atS at0))) (by kernel_rfl) (by kernel_rfl) (by kernel_rfl) (by rfl) ?hyb7 hHeld ?restb7
      case hyb7 => (intro w' hSw; go_simp; try with_reducible rfl)
      try simp only [Act.put, List.setIfInBounds_toArray, List.set_cons_zero, List.set_cons_succ]
      refine reg_takeB 8 (v := ?vb8) (atS5 (atS (atS (atS at0)))) (by kernel_rfl) (by kernel_rfl) (by kernel_rfl) (by rfl) ?hyb8 hHeld ?restb8
      case hyb8 => (intro w' hSw; go_simp; try with_reducible rfl)
      try simp only [Act.put, List.setIfInBounds_toArray, List.set_cons_zero, List.set_cons_succ]
      refine reg_takeB 9 (v := ?vb9) (atS5 (atS (atS (atS (atS at0))))) (by kernel_rfl) (by kernel_rfl) (by kernel_rfl) (by rfl) ?hyb9 hHeld ?restb9
      case hyb9 => (intro w' hSw; go_simp; try with_reducible rfl)
      try simp only [Act.put, List.setIfInBounds_toArray, List.set_cons_zero, List.set_cons_succ]
      refine reg_takeB 10 (v := ?vb10) (atS5 (atS5 at0)) (by kernel_rfl) (by kernel_rfl) (by kernel_rfl) (by rfl) ?hyb10 hHeld ?restb10
      case hyb10 => (intro w' hSw; go_simp; try with_reducible rfl)
      try simp only [Act.put, List.setIfInBounds_toArray, List.set_cons_zero, List.set_cons_succ]
      refine reg_takeB 11 (v := ?vb11) (atS5 (atS5 (atS at0))) (by kernel_rfl) (by kernel_rfl) (by kernel_rfl) (by rfl) ?hyb11 hHeld ?restb11
      case hyb11 => (intro w' hSw; go_simp; try with_reducible rfl)
      try simp only [Act.put, List.setIfInBounds_toArray, List.set_cons_zero, List.set_cons_succ]
      refine wpAnyH_ready (rs := [12]) (by kernel_rfl) (by simp) ?_
      refine AllReadyH.cons (atS5 (atS5 (atS (atS at0)))) (fun K hK => ?_) AllReadyH.nil
      go_simp
      skip
      refine hK.out _ _ ((Below.refl _ _).alloc (HB.out.trans hx0r).size _) (fun hHeld => ?_)
      clear hK K
      try simp only [Act.put, List.setIfInBounds_toArray, List.set_cons_zero, List.set_cons_succ]
      refine reg_onB ((Below.refl _ _).alloc (HB.out.trans hx0r).size _) (fun hHeld => ?_)
      have HB1 := HB.out.trans hx0r
      obtain ⟨v', w1, hrun, hown, hgr⟩ := run_appW ((HO.out.heapEq hh0r.out).on (B1 w0r (.cells #[str x, str x, .bool false, .bool false] 102))) (rdW_one w0r ⟨x, x, false, false⟩) (by have := HB1.size; simp; omega) (by rw [newW_length]; omega) 30
      have HOW := hid hown
      have hbw : ExB w.heap.size (w0r.alloc (.cells #[str x, str x, .bool false, .bool false] 102)) w1 := (Below.refl _ _).grown hgr (by have := HB1.size; simp; omega) (fun j hj => HO.out.row j hj)
      have HBF := hid (HB1.trans (((Below.refl _ _).alloc HB1.size _).trans hbw))
      clear hown hgr HB1
      refine wpAnyH_ready (rs := [13]) (by kernel_rfl) (by simp) ?_
      refine AllReadyH.cons (atS5 (atS5 (atS (atS (atS at0))))) (fun K hK => ?_) AllReadyH.nil
      refine step_appW (by rfl) (.tmp 21) (.tmp 33) (by rfl) (by rfl) (by rfl) hrun ?_
      refine hK.out _ _ hbw (fun hHeld => ?_)
      clear hK K
      try simp only [Act.put, List.setIfInBounds_toArray, List.set_cons_zero, List.set_cons_succ]
      refine reg_onB hbw (fun hHeld => ?_)
      refine reg_takeB 14 (v := ?vb14) (atS5 (atS5 (atS (atS (atS (atS at0)))))) (by kernel_rfl) (by kernel_rfl) (by kernel_rfl) (by rfl) ?hyb14 hHeld ?restb14
      case hyb14 => (intro w' hSw; go_simp; try with_reducible rfl)
      try simp only [Act.put, List.setIfInBounds_toArray, List.set_cons_zero, List.set_cons_succ]
      refine wpAnyH_done (by kernel_rfl) ?_ _
      refine NoPanic.normal ?_
      clear hrun
      go_wp2_with fail
      go_roundw
      case rel => exact ⟨k + 1, Z + 8, by omega, hid (by have := HZ.out; omega), by omega, by simp, hid (by rw [newW_succ, ← HXX.out]; exact HOW.out), HBF⟩
      case measure => have := HZ.out; have := HBL.out; simp [intOf]; omega
    · obtain rfl : k = n := by omega
      have d3 : decide ((Z : Int) < (b.length : Int)) = false := by have := HZ.out; have := HBL.out; simp; omega
      have d4 : ¬ Z < b.length := by have := HZ.out; have := HBL.out; omega
      go_wp2_with fail
      go_ret2
      exact ⟨_, rfl, HO.out, HB.out⟩
end Go.Proofs.YteggkojlpgkhbaaGreat

namespace Go.Proofs.YteggkojlpgkhbaaGreat
open Go.RowKit Go.Maps Go.Shelf
set_option linter.unusedVariables false

def wrB (x : Wd) (k : Nat) (c : UInt8) : Wd := ⟨x.seen.set k c, x.safe, true, false⟩
/-- One byte is another one. -/
def wrA (l : List Wd) (a : Nat) (c : UInt8) : List Wd := match l[a / 8]? with | some x => l.set (a / 8) (wrB x (a % 8) c) | none => l
theorem wrA_length (l : List Wd) (a : Nat) (c : UInt8) : (wrA l a c).length = l.length := by unfold wrA; split <;> simp
theorem wrA_ok {l : List Wd} (h : ok8 l) (a : Nat) (c : UInt8) : ok8 (wrA l a c) := by
  unfold wrA
  split
  · rename_i x hx
    intro y hy
    rcases List.mem_or_eq_of_mem_set hy with h1 | rfl
    · exact h y h1
    · simp [wrB, h x (List.mem_of_getElem? hx)]
  · exact h

theorem OwW.shape {w : World} {base : Nat} {v : Value} {l : List Wd} (h : OwW w base v l) (hl : 0 < l.length) :
    ∃ g cap, v = .slice (some ⟨g, 0, none⟩) l.length cap ∧ base ≤ g ∧ g < w.heap.size ∧ l.length ≤ cap ∧ cap ≤ maxLen ∧ (∀ k, w.frozen? ⟨g, k, none⟩ = false) ∧ ∀ i (hi : i < l.length), WdC w g (i * 4) l[i] := by
  obtain ⟨A, cap, hv, hr⟩ := h.rd
  rcases h.2 with ⟨h1, h2⟩ | ⟨g, cap', cur, hv', hbase, hg, h3, h4, h5, h6⟩
  · omega
  · refine ⟨g, cap', hv', hbase, row_lt hg, h3, h4, row_frozen hg, fun i hi => ?_⟩
    have t : ∀ j : Nat, j < 4 → w.cell? ⟨g, i * 4 + j, none⟩ = l[i].cells[j]? := fun j hj => by
      rw [row_cell hg, ← cellsW_get l i hi j hj, ← h6, List.getElem?_take_of_lt (by omega), Array.getElem?_toList]
    exact ⟨t 0 (by omega), t 1 (by omega), t 2 (by omega), t 3 (by omega)⟩

theorem conv_one (W : World) (c : UInt8) (q : Nat) (hq : W.heap.size = q) : (convert 22 9 (.slice (some ⟨q, 0, none⟩) 1 1)).run Tryz.prog (W.alloc (.cells #[.int .u8 (c.toNat : Int)] 5)).drew = .ok (.string ⟨[c].toArray⟩) (W.alloc (.cells #[.int .u8 (c.toNat : Int)] 5)).drew := by
  subst hq
  have := (own_new W [c] 1 rfl (by simp [maxLen])).rd
  obtain ⟨A, cap, hv, hr⟩ := this
  cases hv
  exact (Rd.drew hr).conv
set_option maxRecDepth 20000 in
set_option maxHeartbeats 2000000 in
theorem rwrite_any {w : World} {A : Option Addr} {n c : Nat} {l : List Wd} (h : RdW w w.heap.size A n c l) (h8 : ok8 l) (hn : n ≤ 8192) (a : Nat) (ha : a < n * 8) (ch : UInt8) :
    Calls Tryz.prog 43 #[.slice A n c, .int .i64 a, .int .u8 ch.toNat] w fun e w' => ∃ v, e = .returned v ∧ OwW w' w.heap.size v (wrA l a ch) ∧ Below w.heap.size w w' := by
  have hl := h.1
  obtain ⟨i, hi⟩ : ∃ i, i = a / 8 := ⟨_, rfl⟩
  obtain ⟨k, hk⟩ : ∃ k, k = a % 8 := ⟨_, rfl⟩
  have hil : i < l.length := by omega
  obtain ⟨x, hx⟩ : ∃ x, x = l[i] := ⟨_, rfl⟩
  have HX : Hid (wrA l a ch = l.set i (wrB x k ch)) := by
    show _ = _
    unfold wrA; rw [← hi, ← hk, List.getElem?_eq_getElem hil, ← hx]
  have hx8 : x.seen.length = 8 := by rw [hx]; exact h8 _ (List.getElem_mem _)
  obtain ⟨w2, hw2⟩ : ∃ w2, w2 = w.alloc (.cells #[] 102) := ⟨_, rfl⟩
  have hb2 : Below w.heap.size w w2 := by rw [hw2]; exact B1 _ _
  have ho2 : OwW w2 w.heap.size (.slice (some ⟨w.heap.size, 0, none⟩) 0 0) [] := by rw [hw2]; exact own_emptyW w
  obtain ⟨v3, w3, hrun, ho3, hg3⟩ := run_appW ho2 (h.on hb2) hb2.size (by simp; omega) 30
  rw [List.nil_append] at ho3
  have hb3 : Below w.heap.size w w3 := hb2.grown hg3 hb2.size (fun j hj => ho2.row j hj)
  obtain ⟨g, cap, rfl, hbg, hgl, hnc, hcm, hfz, hcs⟩ := ho3.shape (by omega)
  obtain ⟨b, off, rfl, hbl, hc⟩ := h.2.2.2.2 (by omega)
  obtain ⟨c1, c2, c3, c4⟩ := (hc i hil).below hb3 hbl
  obtain ⟨d1, d2, d3, d4⟩ := hcs i hil
  rw [← hx] at c1 c2 c3 c4
  unfold str at c1 c2
  have q1 : (a : Int) / 8 = (i : Int) := by omega
  have q2 : (a : Int) % 8 = (k : Int) := by omega
  have hk8 : (k : Int) < 8 := by omega
  have hkn : k < 8 := by omega
  have hin : i < n := by omega
  have HI := hid hi; have HK := hid hk; have HL := hid hl
  have HO := hid ho3; have HB := hid hb3; have HRUN := hid hrun; have HW2 := hid hw2
  rw [hw2] at HRUN
  rw [hl] at HRUN
  have ha0 : (a : Int) ≤ 65536 := by omega
  have HX0 := hid hx
  clear hx hi hk hl ho3 hb3 hrun hb2 ho2 hg3 hw2 hc hcs h8 h ha hn
  go_enter Tryz.func43, Tryz.ntmps43
  go_wp2_with (at_builtin; refine wpList_appW2 rfl _ _ rfl rfl rfl HRUN.out ?_)
  rw [q2]
  clear q2
  have e1 : (⟨x.seen.toArray⟩ : ByteArray).extract 0 k = ⟨(x.seen.take k).toArray⟩ := by rw [ext_at]; simp
  have e2 : (⟨x.seen.toArray⟩ : ByteArray).extract (k + 1) 8 = ⟨(x.seen.drop (k + 1)).toArray⟩ := by rw [ext_at, List.take_of_length_le (by omega)]
  have q3 : IntKind.i64.wrap ((k : Int) + 1) = (k : Int) + 1 := by rw [IntKind.wrap_i64]; omega
  have t1 : ((k : Int) + 1).toNat = k + 1 := by omega
  have z1 : 0 ≤ (k : Int) + 1 := by omega
  have z2 : (k : Int) + 1 ≤ 8 := by omega
  have z3 : k + 1 ≤ 8 := by omega
  have z4 : k ≤ 8 := by omega
  have z5 : (k : Int) ≤ 8 := by omega
  have hcv := conv_one (w3.alloc (.cells #[.string ⟨x.seen.toArray⟩, .string ⟨x.safe.toArray⟩, .bool x.loose, .bool x.fl] 102)) ch (w3.heap.size + 1) (by simp)
  go_region
  have e3 : (⟨(x.seen.take k).toArray⟩ : ByteArray) ++ ⟨#[ch]⟩ ++ ⟨(x.seen.drop (k + 1)).toArray⟩ = ⟨(x.seen.set k ch).toArray⟩ := by
    rw [ByteArray.mk_append_mk, ByteArray.mk_append_mk, List.set_eq_take_append_cons_drop, if_pos (by omega)]; simp
  rw [e3]
  clear e3 hcv e1 e2 t1 q3 z1 z2 z3 z4 z5
  go_wp2_with fail
  go_ret
  have hs := HO.out.set hil (wrB x k ch)
  have hbs := (((HB.out.setCell (p := ⟨g, i * 4, none⟩) hbg (str (wrB x k ch).seen)).setCell (p := ⟨g, i * 4 + 1, none⟩) hbg (str (wrB x k ch).safe)).setCell (p := ⟨g, i * 4 + 2, none⟩) hbg (.bool (wrB x k ch).loose)).setCell (p := ⟨g, i * 4 + 3, none⟩) hbg (.bool (wrB x k ch).fl)
  have hL := HL.out
  refine ⟨_, rfl, ?_, ?_⟩
  · rw [HX.out, ← hL]
    exact OwW.heapEq ((hs.on (B1 _ _)).on (B1 _ _)) rfl
  · exact Below.drew ((hbs.alloc hbs.size _).alloc (by have := hbs.size; simp only [World.size_alloc]; omega) _)
end Go.Proofs.YteggkojlpgkhbaaGreat

namespace Go.Proofs.YteggkojlpgkhbaaGreat
open Go.RowKit Go.Maps Go.Shelf
set_option linter.unusedVariables false

/-- The first j words turned by f. -/
def mapTo (f : Nat → Wd → Wd) (l : List Wd) (j : Nat) : List Wd := l.mapIdx fun i x => if i < j then f i x else x
theorem mapTo_length (f : Nat → Wd → Wd) (l : List Wd) (j : Nat) : (mapTo f l j).length = l.length := by simp [mapTo]
theorem mapTo_zero (f : Nat → Wd → Wd) (l : List Wd) : mapTo f l 0 = l := by
  refine List.ext_getElem? fun i => ?_
  simp [mapTo]
theorem mapTo_get (f : Nat → Wd → Wd) (l : List Wd) (j i : Nat) (hi : i < l.length) : (mapTo f l j)[i]'(by rw [mapTo_length]; exact hi) = if i < j then f i l[i] else l[i] := by simp [mapTo]
theorem mapTo_set (f : Nat → Wd → Wd) (l : List Wd) (j : Nat) (hj : j < l.length) : (mapTo f l j).set j (f j l[j]) = mapTo f l (j + 1) := by
  refine List.ext_getElem (by simp [mapTo_length]) fun i h1 h2 => ?_
  rw [List.length_set, mapTo_length] at h1
  rw [List.getElem_set, mapTo_get _ _ _ _ h1]
  by_cases e : j = i
  · subst e; rw [if_pos rfl, mapTo_get _ _ _ _ h1, if_pos (by omega)]
  · rw [if_neg e, mapTo_get _ _ _ _ h1]
    by_cases c : i < j
    · rw [if_pos c, if_pos (by omega)]
    · rw [if_neg c, if_neg (by omega)]
theorem mapTo_all (f : Nat → Wd → Wd) (l : List Wd) : mapTo f l l.length = l.mapIdx f := by
  refine List.ext_getElem (by simp [mapTo_length]) fun i h1 h2 => ?_
  rw [mapTo_length] at h1
  rw [mapTo_get _ _ _ _ h1, if_pos h1]; simp

def DoPost (w : World) (l' : List Wd) (e : Ending) (w' : World) : Prop := ∃ v, e = .returned (.tuple #[v, .string ⟨#[]⟩, .int .i64 0]) ∧ OwW w' w.heap.size v l' ∧ Below w.heap.size w w'
def opCells (kind at_ long : Int) (ab : Option Addr) (nb cb : Nat) (ak : Option Addr) (nk ck : Nat) : Array Value := #[.int .i64 kind, .int .i64 at_, .int .i64 long, .slice ab nb cb, .slice ak nk ck]
def OpB (w : World) (q : Nat) (kind at_ long : Int) (ab : Option Addr) (nb cb : Nat) (ak : Option Addr) (nk ck : Nat) : Prop := w.heap[q]? = some (.cells (opCells kind at_ long ab nb cb ak nk ck) 54 (0, 0))
theorem OpB.on {w w' : World} {q B : Nat} {kind at_ long : Int} {ab : Option Addr} {nb cb : Nat} {ak : Option Addr} {nk ck : Nat} (h : OpB w q kind at_ long ab nb cb ak nk ck) (hb : Below B w w') (hq : q < B) : OpB w' q kind at_ long ab nb cb ak nk ck := (hb.block q hq).trans h
theorem OpB.cells {w : World} {q : Nat} {kind at_ long : Int} {ab : Option Addr} {nb cb : Nat} {ak : Option Addr} {nk ck : Nat} (h : OpB w q kind at_ long ab nb cb ak nk ck) :
    w.cell? ⟨q, 0, none⟩ = some (.int .i64 kind) ∧ w.cell? ⟨q, 1, none⟩ = some (.int .i64 at_) ∧ w.cell? ⟨q, 2, none⟩ = some (.int .i64 long) ∧ w.cell? ⟨q, 3, none⟩ = some (.slice ab nb cb) ∧ w.cell? ⟨q, 4, none⟩ = some (.slice ak nk ck) := by
  unfold OpB at h
  refine ⟨?_, ?_, ?_, ?_, ?_⟩ <;> rw [row_cell h] <;> rfl

/-- What the second loop's beginning needs: the copy. -/
theorem copyW {w : World} {A : Option Addr} {n c : Nat} {l : List Wd} (h : RdW w w.heap.size A n c l) (hn : n ≤ 8192) :
    ∃ A3 cap w3, (Builtin.append_ #[30, 30] 30 #[.slice (some ⟨w.heap.size, 0, none⟩) 0 0, .slice A n c]).run Tryz.prog (w.alloc (.cells #[] 102)) = .ok (.slice A3 n cap) w3 ∧ OwW w3 w.heap.size (.slice A3 n cap) l ∧ Below w.heap.size w w3 := by
  have hb2 := B1 w (.cells #[] 102)
  obtain ⟨v3, w3, hrun, ho3, hg3⟩ := run_appW (own_emptyW w) (h.on hb2) hb2.size (by simp; omega) 30
  rw [List.nil_append] at ho3
  have hb3 : Below w.heap.size w w3 := hb2.grown hg3 hb2.size (fun j hj => (own_emptyW w).row j hj)
  obtain ⟨A3, cap, rfl, _⟩ := ho3.rd
  rw [h.1] at hrun ho3
  exact ⟨A3, cap, w3, hrun, ho3, hb3⟩

theorem mapTo_round {wr w1 : World} {B g n cap j : Nat} {f : Nat → Wd → Wd} {l : List Wd} {x : Wd} (hO : OwW wr B (.slice (some ⟨g, 0, none⟩) n cap) (mapTo f l j)) (hB : Below B w1 wr) (hB1 : B ≤ w1.heap.size) (hbg : B ≤ g) (hj : j < l.length) (hx : x = l[j]) (y : Wd) (hy : f j x = y) (ob : Obj) :
    OwW (((((wr.setCell ⟨g, j * 4, none⟩ (str y.seen)).setCell ⟨g, j * 4 + 1, none⟩ (str y.safe)).setCell ⟨g, j * 4 + 2, none⟩ (.bool y.loose)).setCell ⟨g, j * 4 + 3, none⟩ (.bool y.fl)).alloc ob) B (.slice (some ⟨g, 0, none⟩) n cap) (mapTo f l (j + 1)) ∧
    Below B w1 (((((wr.setCell ⟨g, j * 4, none⟩ (str y.seen)).setCell ⟨g, j * 4 + 1, none⟩ (str y.safe)).setCell ⟨g, j * 4 + 2, none⟩ (.bool y.loose)).setCell ⟨g, j * 4 + 3, none⟩ (.bool y.fl)).alloc ob) := by
  have hs := hO.set (i := j) (by rw [mapTo_length]; exact hj) y
  have hbs := (((hB.setCell (p := ⟨g, j * 4, none⟩) hbg (str y.seen)).setCell (p := ⟨g, j * 4 + 1, none⟩) hbg (str y.safe)).setCell (p := ⟨g, j * 4 + 2, none⟩) hbg (.bool y.loose)).setCell (p := ⟨g, j * 4 + 3, none⟩) hbg (.bool y.fl)
  refine ⟨?_, hbs.alloc (Nat.le_trans hB1 hbs.size) _⟩
  rw [← mapTo_set f l j hj, ← hx, hy]
  exact hs.on (B1 _ _)
theorem OwW.less {w : World} {B B' : Nat} {v : Value} {l : List Wd} (h : OwW w B v l) (hB : B' ≤ B) : OwW w B' v l := by
  refine ⟨h.1, ?_⟩
  rcases h.2 with h1 | ⟨g, cap, cur, hv, hbase, hg, h3⟩
  · exact .inl h1
  · exact .inr ⟨g, cap, cur, hv, by omega, hg, h3⟩
theorem Bt1 {w w1 w2 : World} {B : Nat} (h : Below w.heap.size w w1) (e : w1.heap.size = B) (k : Below B w1 w2) : Below w.heap.size w w2 := h.trans (k.mono (by have := h.size; omega))
def feW (i : Nat) (x : Wd) : Wd := if x.fl = true then ⟨x.seen, x.seen, false, false⟩ else x

set_option maxRecDepth 20000 in
set_option maxHeartbeats 4000000 in
theorem do_fence {w : World} {A : Option Addr} {n c : Nat} {l : List Wd} (h : RdW w w.heap.size A n c l) (hn : n ≤ 8192) (at_ long : Int) (ab : Option Addr) (nb cb : Nat) (ak : Option Addr) (nk ck : Nat) :
    Calls Tryz.prog 15 #[.slice A n c, .agg #[.int .i64 3, .int .i64 at_, .int .i64 long, .slice ab nb cb, .slice ak nk ck]] w (DoPost w (l.mapIdx feW)) := by
  obtain ⟨w1, hw1⟩ : ∃ w1, w1 = w.alloc (.cells #[.int .i64 3, .int .i64 at_, .int .i64 long, .slice ab nb cb, .slice ak nk ck] 54) := ⟨_, rfl⟩
  have hb1 : Below w.heap.size w w1 := by rw [hw1]; exact B1 _ _
  have ho1 : OpB w1 w.heap.size 3 at_ long ab nb cb ak nk ck := by rw [hw1]; exact heap_alloc_new _ _
  have hs1 : w1.heap.size = w.heap.size + 1 := by rw [hw1]; simp
  obtain ⟨A3, cap, w3, hrun, ho3, hb3⟩ := copyW (h.on hb1) hn
  rw [hs1] at hrun ho3 hb3
  rw [hw1] at hrun
  have HRUN := hid hrun; have HO := hid ho3; have HB3 := hid hb3; have HB1 := hid hb1; have HP := hid ho1; have HL := hid h.1; have HS1 := hid hs1
  have hni : (n : Int) ≤ 8192 := by omega
  clear hrun ho3 hb3 hb1 ho1 hw1 h hn hs1
  go_enter Tryz.func15, Tryz.ntmps15
  go_wp2_with (at_builtin; refine wpList_appW2 rfl _ _ rfl rfl rfl HRUN.out ?_)
  go_loopw [11] (fun i wr => ∃ j : Nat, j ≤ n ∧ i = .int .i64 j ∧ Hid (OwW wr (w.heap.size + 1) (.slice A3 n cap) (mapTo feW l j)) ∧ Hid (Below (w.heap.size + 1) w1 wr)) (fun i _ => n - (intOf i).toNat)
  case atStart => exact ⟨0, by omega, rfl, hid (by rw [mapTo_zero]; exact HO.out), HB3⟩
  case round =>
    obtain ⟨j, hj, rfl, HOj, HBj⟩ := hrel
    by_cases hlt : j < n
    · have hjl : j < l.length := by have := HL.out; omega
      have hjm : j < (mapTo feW l j).length := by rw [mapTo_length]; exact hjl
      obtain ⟨g, cap', e, hbg, hgl, hnc, hcm, hfz, hcs⟩ := HOj.out.shape (by omega)
      obtain ⟨d1, d2, d3, d4⟩ := hcs j hjm
      rw [mapTo_get _ _ _ _ hjl, if_neg (by omega)] at d1 d2 d3 d4
      obtain ⟨rfl, _, rfl⟩ := Value.slice.inj e
      clear e
      obtain ⟨x, hx⟩ : ∃ x, x = l[j] := ⟨_, rfl⟩
      have HX := hid hx
      rw [← hx] at d1 d2 d3 d4
      unfold str at d1 d2
      obtain ⟨p0, p1, p2, p3, p4⟩ := (HP.out.on HBj.out (by omega)).cells
      have hqs : w.heap.size < wr.heap.size := by omega
      clear hx hcs hjm hnc
      cases hfl : x.fl with
      | false =>
        rw [hfl] at d4
        have HF : Hid (feW j x = ⟨x.seen, x.safe, x.loose, false⟩) := by show _ = _; unfold feW; rw [hfl]; cases x; simp_all
        clear hfl
        go_wp2_with fail
        have hr := mapTo_round HOj.out HBj.out (by have := HS1.out; omega) hbg hjl HX.out _ HF.out (.cells #[.string ⟨x.seen.toArray⟩, .string ⟨x.safe.toArray⟩, .bool x.loose, .bool false] 102)
        exact ⟨⟨j + 1, by omega, by go_num, hid hr.1, hid hr.2⟩, by simp [intOf]; omega⟩
      | true =>
        rw [hfl] at d4
        have HF : Hid (feW j x = ⟨x.seen, x.seen, false, false⟩) := by show _ = _; unfold feW; rw [hfl]; rfl
        clear hfl
        go_wp2_with fail
        have hr := mapTo_round HOj.out HBj.out (by have := HS1.out; omega) hbg hjl HX.out _ HF.out (.cells #[.string ⟨x.seen.toArray⟩, .string ⟨x.seen.toArray⟩, .bool false, .bool false] 102)
        exact ⟨⟨j + 1, by omega, by go_num, hid hr.1, hid hr.2⟩, by simp [intOf]; omega⟩
    · obtain rfl : j = n := by omega
      have e : mapTo feW l j = l.mapIdx feW := by rw [← HL.out]; exact mapTo_all _ _
      rw [e] at HOj
      clear e
      go_wp2_with fail
      refine bodyPost_ret (v := .tuple #[.slice A3 j cap, .string ⟨#[]⟩, .int .i64 0]) (by simp [results, Tryz.results15, go_sem]) rfl ?_
      exact ⟨_, rfl, OwW.less HOj.out (by omega), Bt1 HB1.out HS1.out HBj.out⟩
end Go.Proofs.YteggkojlpgkhbaaGreat
