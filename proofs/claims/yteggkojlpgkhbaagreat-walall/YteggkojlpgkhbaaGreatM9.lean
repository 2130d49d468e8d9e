/-
  The contracts of the statements' own functions of layer 4: own, alive.
  Contracts of the document's own answers for layer 1 that take numbers alone: Right, top, Sign, Fits, Size; and of word.Size.
  Contracts of the document's own answers for layer 1 that work on bytes: Put, Get, Set, Pad.
-/
import Derived.Test.YteggkojlpgkhbaaGreatM8
import Derived.Test.YteggkojlpgkhbaaGreatM5
import Derived.Deep.QuietTactic
import Derived.BigQuiet

namespace Go.Proofs.YteggkojlpgkhbaaGreat
open Go.RowKit Go.Maps Go.Shelf
set_option linter.unusedVariables false

/-! ### Rows of sets -/
def cellsS (xs : List (Int × Int)) : List Value := (xs.map fun x => [Value.int .i64 x.1, Value.int .u64 x.2]).flatten
theorem cellsS_length (xs : List (Int × Int)) : (cellsS xs).length = xs.length * 2 := by
  induction xs with
  | nil => rfl
  | cons x xs ih => simp [cellsS] at ih ⊢; omega
theorem cellsS_get : ∀ (xs : List (Int × Int)) (i : Nat) (h : i < xs.length), (cellsS xs)[i * 2]? = some (.int .i64 xs[i].1) ∧ (cellsS xs)[i * 2 + 1]? = some (.int .u64 xs[i].2) := by
  intro xs
  induction xs with
  | nil => intro i h; simp at h
  | cons x xs ih =>
    intro i h
    cases i with
    | zero => exact ⟨rfl, rfl⟩
    | succ i =>
      have := ih i (by simpa using h)
      rw [show (i + 1) * 2 = i * 2 + 1 + 1 by omega]
      exact this
def OwS (w : World) (base : Nat) (v : Value) (xs : List (Int × Int)) : Prop := w.ownsRow base 66 2 v xs.length (cellsS xs)
theorem OwS.nil (w : World) (base : Nat) : OwS w base (.slice none 0 0) [] := World.ownsRow_nil _ _ _ _
theorem OwS.on {w w' : World} {base : Nat} {v : Value} {xs : List (Int × Int)} (h : OwS w base v xs) (hb : Below w.heap.size w w') : OwS w' base v xs := by
  refine ⟨h.1, ?_⟩
  rcases h.2 with h1 | ⟨g, cap, cur, hv, hbase, hg, h3⟩
  · exact .inl h1
  · exact .inr ⟨g, cap, cur, hv, hbase, (hb.block g (row_lt hg)).trans hg, h3⟩
theorem OwS.shape {w : World} {base : Nat} {v : Value} {xs : List (Int × Int)} (h : OwS w base v xs) : ∃ A c, v = .slice A xs.length c := by
  rcases h.2 with ⟨h1, h2⟩ | ⟨g, cap, cur, hv, _⟩
  · exact ⟨none, 0, by rw [h2]; exact h1⟩
  · exact ⟨_, cap, hv⟩
theorem OwS.rd {w : World} {base : Nat} {A : Option Addr} {n c : Nat} {xs : List (Int × Int)} (h : OwS w base (.slice A n c) xs) (hx : ∀ x ∈ xs, I64 x.1 ∧ U64 x.2) : RdS w w.heap.size A n c xs ∧ n = xs.length := by
  rcases h.2 with ⟨h1, h2⟩ | ⟨g, cap, cur, hv, hbase, hg, h3, h4, h5, h6⟩
  · cases h1
    exact ⟨⟨by omega, by omega, by simp [maxLen], hx, fun h => by omega⟩, by omega⟩
  · cases hv
    refine ⟨⟨rfl, h3, h4, hx, fun _ => ⟨g, 0, rfl, row_lt hg, fun i hi => ?_⟩⟩, rfl⟩
    have k := cellsS_get xs i hi
    have t : ∀ j : Nat, j < xs.length * 2 → w.cell? ⟨g, j, none⟩ = (cellsS xs)[j]? := fun j hj => by
      rw [row_cell hg, ← h6, List.getElem?_take_of_lt hj, Array.getElem?_toList]
    rw [Nat.zero_add, t _ (by omega), t _ (by omega)]
    exact k
theorem infoS : (Tryz.prog.info? 66).map (fun i => (i.zero, i.size, i.bytes)) = some (some (.agg #[.int .i64 0, .int .u64 0]), 2, 16) := by kernel_rfl
theorem run_appS {w : World} {base : Nat} {v : Value} {xs : List (Int × Int)} (h : OwS w base v xs) {q : Nat} {x : Int × Int} (hq : w.heap[q]? = some (.cells #[.int .i64 x.1, .int .u64 x.2] 66 (0, 0))) (hlen : xs.length ≤ 1000000) (hb : base ≤ w.heap.size) (ty : TypeId) :
    ∃ v' w', (Builtin.append_ #[46, 46] ty #[v, .slice (some ⟨q, 0, none⟩) 1 1]).run Tryz.prog w = .ok v' w' ∧ OwS w' base v' (xs ++ [x]) ∧ w.grownBy w' v.ownBlock := by
  have hi8 := infoS
  cases hi : Tryz.prog.info? 66 with
  | none => rw [hi] at hi8; cases hi8
  | some i =>
    rw [hi] at hi8
    simp only [Option.map_some, Option.some.injEq, Prod.mk.injEq] at hi8
    obtain ⟨hz, hsz, hby⟩ := hi8
    obtain ⟨v', W', hr, ho, hg, hnil⟩ := run_append_own (P := Tryz.prog) w base 46 ty 66 i (.agg #[.int .i64 0, .int .u64 0]) 2 16 Tryz.underlying46 hi hz hsz hby rfl (by omega) v xs.length (cellsS xs) h ⟨q, 0, none⟩ 1 1 [.int .i64 x.1, .int .u64 x.2] rfl (fun j u hj => by rw [add_plain, Nat.zero_add, row_cell hq]; match j, hj with | 0, h => exact h | 1, h => exact h) (by intro u hu; simp at hu; rcases hu with rfl | rfl <;> rfl) (by unfold maxLen; omega) (by omega) hb
    refine ⟨v', W', hr, ?_, hg⟩
    unfold OwS
    have e1 : (xs ++ [x]).length = xs.length + 1 := by simp
    have e2 : cellsS (xs ++ [x]) = cellsS xs ++ [.int .i64 x.1, .int .u64 x.2] := by simp [cellsS]
    rw [e1, e2]; exact ho
theorem wpList_appS {w w' : World} {ops : Array Oper} {rest : List Oper} {o : Oper} {a : Act} {Q : Exit → Act → World → Prop} {v v' u : Value} (hgd : o.guard = none) (s x : Operand)
    (hop : o.op = .call { callee := .builtin .append, args := #[s, x], argTypes := #[46, 46] }) (hs : a.eval s = v) (hx : a.eval x = u)
    (hrun : (Builtin.append_ #[46, 46] o.type #[v, u]).run Tryz.prog w = .ok v' w') (hk : wpList Tryz.prog ops Q rest (a.put o.dst v') w') : wpList Tryz.prog ops Q (o :: rest) a w := by
  refine wpList_plain hgd fun K hK => ?_
  unfold Oper.wp execOp
  simp only [hop, resolve, invoke, builtin, Sem.run_bind, Sem.run_pure, Result.andThen_ok, List.map_toArray, List.map_cons, List.map_nil, hs, hx, hrun]
  exact hK _ _ hk

set_option maxHeartbeats 2000000 in
theorem own_any {w : World} {A : Option Addr} {n c : Nat} {xs : List (Int × Int)} (h : RdS w w.heap.size A n c xs) (hm : xs.length ≤ 100) :
    Calls Tryz.prog 13 #[.slice A n c] w fun e w' => ∃ v, e = .returned v ∧ OwS w' w.heap.size v xs ∧ Below w.heap.size w w' := by
  have HN : Hid (xs.length = n) := h.1
  have hni : (n : Int) ≤ 100 := by have := HN.out; omega
  have H := hid h; have HM := hid hm
  clear h hm
  go_enter Tryz.func13, Tryz.ntmps13
  go_wp2_with fail
  go_loopw [3, 8] (fun v i wr => ∃ k : Nat, k ≤ n ∧ i = .int .i64 k ∧ Hid (OwS wr w.heap.size v (xs.take k)) ∧ Hid (Below w.heap.size w wr)) (fun _ i _ => n - (intOf i).toNat)
  case atStart => exact ⟨0, Nat.zero_le _, rfl, hid (OwS.nil _ _), hid (B0 w)⟩
  case round =>
    obtain ⟨k, hk, rfl, HS, HB⟩ := hrel
    rename_i v
    by_cases hlt : k < n
    · have hkx : k < xs.length := by rw [HN.out]; exact hlt
      obtain ⟨b, off, rfl, hbl, hc⟩ := (H.out.below HB.out).2.2.2.2 (by omega)
      obtain ⟨hc1, hc2⟩ := hc k hkx
      obtain ⟨⟨x1, x2⟩, hx⟩ : ∃ x, x = xs[k] := ⟨_, rfl⟩
      have HXk : Hid (xs[k]? = some (x1, x2)) := by rw [hx]; exact List.getElem?_eq_getElem hkx
      rw [← hx] at hc1 hc2
      simp only at hc1 hc2
      clear hc hx
      obtain ⟨w2, hw2⟩ : ∃ w2, w2 = (wr.alloc (.cells #[.int .i64 x1, .int .u64 x2] 84)).alloc (.cells #[.int .i64 x1, .int .u64 x2] 66) := ⟨_, rfl⟩
      have hb2 : Below wr.heap.size wr w2 := by rw [hw2]; exact Ba (B1 _ _) _
      have hq2 : w2.heap[wr.heap.size + 1]? = some (.cells #[.int .i64 x1, .int .u64 x2] 66 (0, 0)) := by
        rw [hw2]; have := heap_alloc_new (wr.alloc (.cells #[.int .i64 x1, .int .u64 x2] 84)) (.cells #[.int .i64 x1, .int .u64 x2] 66); simpa using this
      obtain ⟨v3, w3, hrun, ho3, hg3⟩ := run_appS (x := (x1, x2)) (HS.out.on hb2) hq2 (by have := HM.out; rw [List.length_take]; omega) (Nat.le_trans HB.out.size hb2.size) 46
      rw [hw2] at hrun
      have HRUN := hid hrun; have HO3 := hid ho3; have HG3 := hid hg3; have HB2 := hid hb2; have HW2 := hid hw2
      clear hrun ho3 hg3 hq2 hb2 hw2
      go_wp2_with (at_builtin; refine wpList_appS rfl _ _ rfl rfl rfl HRUN.out ?_)
      go_roundw
      case rel =>
        refine ⟨k + 1, by omega, by simp, hid (by rw [List.take_add_one, HXk.out]; exact HO3.out), hid ((HB.out.trans (HB2.out.mono HB.out.size)).grown HG3.out (Nat.le_trans HB.out.size HB2.out.size) (fun j hj => ?_))⟩
        rcases HS.out.2 with ⟨e, _⟩ | ⟨g, cap, cur, e, hbase, _⟩
        · rw [e] at hj; simp [Value.ownBlock] at hj
        · rw [e] at hj; simp [Value.ownBlock] at hj; omega
      case measure => simp [intOf]; omega
    · obtain rfl : k = n := by omega
      have e : xs.take k = xs := by rw [← HN.out]; exact List.take_length
      rw [e] at HS
      go_wp2_with fail
      go_ret
      exact ⟨_, rfl, HS.out, HB.out⟩

/-! ### alive -/
theorem rdS_one {w : World} (x : Int × Int) (hx : I64 x.1 ∧ U64 x.2) : RdS (w.alloc (.cells #[.int .i64 x.1, .int .u64 x.2] 66)) (w.alloc (.cells #[.int .i64 x.1, .int .u64 x.2] 66)).heap.size (some ⟨w.heap.size, 0, none⟩) 1 1 [x] := by
  refine ⟨rfl, Nat.le_refl _, by simp [maxLen], fun y hy => by simp at hy; subst hy; exact hx, fun _ => ⟨w.heap.size, 0, rfl, by simp, fun i hi => ?_⟩⟩
  have : i = 0 := by simp at hi; omega
  subst this
  rw [row_cell (heap_alloc_new w _), row_cell (heap_alloc_new w _)]
  exact ⟨rfl, rfl⟩
theorem crash_clean (S : List UInt8) (f : Int → Bool) : crS S (fun _ => none) f = S := crS_id (fun k x h => by cases h)
def aS : List UInt8 := bringL (recW (zeros 64) 0 1 [(7, 5)]) [(7, 5)]
theorem aS_rec : recOk 8 0 5 (recB aS 0 5) = true ∧ recQ (recB aS 0 5) = 1 ∧ setsL (recY (recB aS 0 5)) = [(7, 5)] := by decide +kernel
theorem aS_read : ((bringL aS [(7, 5)]).drop 56).take 8 = [5, 0, 0, 0, 0, 0, 0, 0] := by decide +kernel
theorem aS_len : aS.length = 64 ∧ (bringL aS [(7, 5)]).length = 64 := by decide +kernel
theorem aS_beg : begE 8 0 5 1 [(7, 5)] = 0 ∧ seqOf 8 0 5 (zeros 64) = 0 ∧ rgE 8 0 5 = 0 := by decide +kernel

theorem DevS.clean {w : World} {B d g cap lb fb : Nat} {S : List UInt8} (h : Dev w B d g cap lb fb S (fun _ => none) (fun _ => false)) : DevS w B d g cap lb fb (cl S) := h
theorem log_fr {w w' : World} {p d g lb fb B cap : Nat} {at_ words next : Int} {S : List UInt8} {L : Int → Option (List UInt8)} {F : Int → Bool} (h : LogV w p d at_ words next) (hd : Dev w B d g cap lb fb S L F) (hf : Fr g lb fb w w') : LogV w' p d at_ words next := by
  have k1 : p ≠ g := fun e => by obtain ⟨cur, h1, _⟩ := hd.row; unfold LogV at h; rw [e, h1] at h; cases h
  have k2 : p ≠ lb := fun e => by obtain ⟨n, hm⟩ := hd.loose; obtain ⟨es, c, hb⟩ := hm.isMap; unfold LogV at h; rw [e, hb] at h; cases h
  have k3 : p ≠ fb := fun e => by obtain ⟨n, hm⟩ := hd.flush; obtain ⟨es, c, hb⟩ := hm.isMap; unfold LogV at h; rw [e, hb] at h; cases h
  exact (hf.block _ (row_lt h) k1 k2 k3).trans h

set_option maxRecDepth 20000 in
set_option maxHeartbeats 4000000 in
theorem alive_any (w : World) : Calls Tryz.prog 5 #[] w fun e w' => e = .returned (.bool true) ∧ Below w.heap.size w w' := by
  go_enter Tryz.func5, Tryz.ntmps5
  go_wp2_with fail
  refine (new_ok 8 64 rfl (by decide) (by decide) w).mono ?_
  rintro e w1 ⟨d, g, lb, fb, rfl, hd1, hb1⟩
  have HD1 := hid (DevS.clean hd1); have HB1 := hid hb1
  clear hd1 hb1
  go_wp2_with fail
  refine (open_ok (S := zeros 64) (n := 8) HD1.out rfl aS_beg.2.2).mono ?_
  rintro e w2 ⟨p, rfl, hl2, hp2, hb2⟩
  rw [aS_beg.2.1] at hl2
  have HL2 := hid hl2; have HB2 := hid hb2; have HP : Hid (w.heap.size ≤ p) := Nat.le_trans HB1.out.size hp2
  have HD2 : Hid (DevS w2 w.heap.size d g 64 lb fb (cl (zeros 64))) := Dev.on HD1.out hb2
  clear hl2 hb2 hp2
  go_wp2_with fail
  refine (room_any HL2.out (by decide) (by decide)).mono ?_
  rintro e wz ⟨rfl, rfl⟩
  go_wp2_with fail
  obtain ⟨w3, hw3⟩ : ∃ w3, w3 = wz.alloc (.cells #[.int .i64 7, .int .u64 5] 66) := ⟨_, rfl⟩
  have hb3 : Below wz.heap.size wz w3 := by rw [hw3]; exact B1 _ _
  have hr3 : RdS w3 w3.heap.size (some ⟨wz.heap.size, 0, none⟩) 1 1 [(7, 5)] := by rw [hw3]; exact rdS_one (7, 5) ⟨i64_iff.2 (by decide), by show U64 5; unfold U64; rw [pw8]; omega⟩
  rw [← hw3]
  have HD3 : Hid (DevS w3 w.heap.size d g 64 lb fb (cl (zeros 64))) := Dev.on HD2.out hb3
  have HL3 : Hid (LogV w3 p d 0 5 1) := (hb3.block _ (row_lt HL2.out)).trans HL2.out
  have HB3 := hid (Bt (Bt HB1.out HB2.out) hb3)
  clear hw3 hb3
  refine (commit_any (N := 8) HD3.out rfl (by decide) (by decide) (by decide) HL3.out hr3 (by decide) (by decide)).mono ?_
  clear hr3
  rintro e w4 ⟨rfl, hd4, hl4, hf4⟩
  rw [aS_beg.1] at hd4 hl4 ⊢
  rw [if_pos rfl, commit_clean (n := 8) (words := 5) rfl (by decide) (by decide) (by decide) aS_beg.1] at hd4
  rw [if_pos rfl] at hl4
  have HD4 : Hid (DevS w4 w.heap.size d g 64 lb fb (cl aS)) := hd4
  have HL4 := hid hl4
  have HB4 := hid (HB3.out.trans (hf4.base HP.out HD3.out.Bg HD3.out.Bl HD3.out.Bf HB3.out.size))
  clear hd4 hl4 hf4
  go_wp2_with fail
  refine (crash_any HD4.out (RdI.nil _ _)).mono ?_
  rintro e w5 ⟨rfl, hd5, hf5⟩
  have HD5 : Hid (DevS w5 w.heap.size d g 64 lb fb (cl aS)) := by rw [show (cl aS).L = fun _ => none from rfl, crash_clean] at hd5; exact hd5
  have HL5 := hid (log_fr HL4.out HD4.out hf5)
  have HB5 := hid (HB4.out.trans (Dev.below HD4.out hf5))
  clear hd5 hf5
  go_wp2_with fail
  refine (recover_some (n := 8) HD5.out (by rw [show (cl aS).S = aS from rfl, aS_len.1]; rfl) aS_beg.2.2 aS_rec.1).mono ?_
  rintro e w6 ⟨rfl, hd6, hf6⟩
  rw [show (cl aS).S = aS from rfl, aS_rec.2.1] at *
  have HD6 : Hid (DevS w6 w.heap.size d g 64 lb fb (cl (bringL aS [(7, 5)]))) := by rw [aS_rec.2.2, bring_clean (by rw [aS_len.1]; intro x hx; simp at hx; subst hx; decide)] at hd6; exact hd6
  have HL6 := hid (log_fr HL5.out HD5.out hf6)
  have HB6 := hid (HB5.out.trans (Dev.below HD5.out hf6))
  clear hd6 hf6
  go_wp2_with fail
  refine (read_ok (S := bringL aS [(7, 5)]) HD6.out 56 8 (i64_iff.2 (by decide)) (i64_iff.2 (by decide)) (by rw [aS_len.2]; decide)).mono ?_
  rintro e w7 ⟨v7, rfl, ho7, hb7⟩
  rw [show (56 : Int).toNat = 56 from rfl, show (8 : Int).toNat = 8 from rfl, aS_read] at ho7
  obtain ⟨q7, c7, cs7, rfl, k1, k2, k3, k4, k5⟩ := own_at ho7 (by decide)
  have c0 : w7.cell? ⟨q7, 0, none⟩ = some (.int .u8 5) := by rw [row_cell k4]; exact k5 0 (by decide)
  have HL7 : Hid (LogV w7 p d 0 5 2) := (hb7.block _ (row_lt HL6.out)).trans HL6.out
  have HB7 := hid (HB6.out.trans (hb7.mono HB6.out.size))
  clear ho7 k1 k2 k3 k4 k5 hb7
  go_wp2_with fail
  refine (seq_any HL7.out).mono ?_
  rintro e w8 ⟨rfl, rfl⟩
  go_wp2_with fail
  go_ret
  exact ⟨rfl, HB7.out⟩
end Go.Proofs.YteggkojlpgkhbaaGreat

namespace Go.Proofs.YteggkojlpgkhbaaGreat
open Go.RowKit
set_option linter.unusedVariables false

set_option maxHeartbeats 400000 in
theorem right_any (x : Int) (w : World) :
    Calls Tryz.prog 62 #[.int .i64 x] w fun e w' => e = .returned (.bool (isW x)) ∧ w = w' := by
  by_cases h1 : x = 1
  · subst h1; go_enter Tryz.func62, Tryz.ntmps62; go_wp2; go_ret; exact ⟨rfl, rfl⟩
  have b1 : (x == 1) = false := by simpa using h1
  by_cases h2 : x = 2
  · subst h2; go_enter Tryz.func62, Tryz.ntmps62; go_wp2; go_ret; exact ⟨rfl, rfl⟩
  have b2 : (x == 2) = false := by simpa using h2
  by_cases h4 : x = 4
  · subst h4; go_enter Tryz.func62, Tryz.ntmps62; go_wp2; go_ret; exact ⟨rfl, rfl⟩
  have b4 : (x == 4) = false := by simpa using h4
  by_cases h8 : x = 8
  · subst h8; go_enter Tryz.func62, Tryz.ntmps62; go_wp2; go_ret; exact ⟨rfl, rfl⟩
  have b8 : (x == 8) = false := by simpa using h8
  go_enter Tryz.func62, Tryz.ntmps62; go_wp2; go_ret
  exact ⟨ret_bool (by simp [isW, b1, b2, b4, b8]), rfl⟩

set_option maxHeartbeats 400000 in
theorem top_any (x : Int) (w : World) (hx : 0 ≤ x) (hx8 : x ≤ 8) :
    Calls Tryz.prog 72 #[.int .i64 x] w fun e w' => e = .returned (.int .u64 (pw x - 1)) ∧ w = w' := by
  obtain ⟨m, rfl⟩ := Int.eq_ofNat_of_zero_le hx
  go_enter Tryz.func72, Tryz.ntmps72
  go_wp2
  go_loop [3, 4] (fun n i => ∃ k : Nat, k ≤ m ∧ i = .int .i64 k ∧ n = .int .u64 (pw k - 1)) (fun _ i => m - (intOf i).toNat)
  case atStart => exact ⟨0, by omega, rfl, by simp [pw]⟩
  case round =>
    obtain ⟨k, hk, rfl, rfl⟩ := hrel
    by_cases hlt : k < m
    · go_wp2
      go_round
      case rel => exact ⟨k + 1, by omega, by go_num, by rw [top_step (by omega)]⟩
      case measure => simp [intOf]; omega
    · go_wp2
      go_ret
      obtain rfl : k = m := by omega
      exact ⟨rfl, rfl⟩

theorem top1 (w : World) : Calls Tryz.prog 72 #[.int .i64 1] w fun e w' => e = .returned (.int .u64 255) ∧ w = w' := by
  have h := top_any 1 w (by decide) (by decide); rw [pw1] at h; exact h
theorem top2 (w : World) : Calls Tryz.prog 72 #[.int .i64 2] w fun e w' => e = .returned (.int .u64 65535) ∧ w = w' := by
  have h := top_any 2 w (by decide) (by decide); rw [pw2] at h; exact h
theorem top4 (w : World) : Calls Tryz.prog 72 #[.int .i64 4] w fun e w' => e = .returned (.int .u64 4294967295) ∧ w = w' := by
  have h := top_any 4 w (by decide) (by decide); rw [pw4] at h; exact h
theorem top8 (w : World) : Calls Tryz.prog 72 #[.int .i64 8] w fun e w' => e = .returned (.int .u64 18446744073709551615) ∧ w = w' := by
  have h := top_any 8 w (by decide) (by decide); rw [pw8] at h; exact h


end Go.Proofs.YteggkojlpgkhbaaGreat

namespace Go.Proofs.YteggkojlpgkhbaaGreat
open Go.RowKit
set_option linter.unusedVariables false

/-- What the document's Put answers. -/
def rputL (nn x : Int) : List UInt8 := if fits nn x false then le nn x.toNat else []

theorem conv1 (W : World) (c : UInt8) : (convert 22 9 (.slice (some ⟨W.heap.size, 0, none⟩) 1 1)).run Tryz.prog (W.alloc (.cells #[bv c] 5)) = .ok (.string ⟨#[c]⟩) (W.alloc (.cells #[bv c] 5)) := by
  obtain ⟨A, cap, hv, hr⟩ := (own_new W [c] 1 rfl (by unfold maxLen; omega)).rd
  cases hv
  exact hr.conv

theorem div_pw (n : Int) (k : Nat) : n / pw k / 256 = n / pw (k + 1 : Nat) := by
  rw [pw_succ, Int.ediv_ediv_of_nonneg (Int.le_of_lt (pw_pos k))]

set_option maxHeartbeats 1000000 in
theorem rput_true (x : Nat) (nn : Int) (w : World) (hn : U64 nn) (hf : fits nn x false = true) (hx : x = 1 ∨ x = 2 ∨ x = 4 ∨ x = 8) :
    Calls Tryz.prog 41 #[.int .i64 x, .int .u64 nn] w fun e w' => e = .returned (.string ⟨(le nn x).toArray⟩) ∧ Below w.heap.size w w' := by
  have hw : isW x = true := by rcases hx with rfl | rfl | rfl | rfl <;> rfl
  have h0 := hn.1
  have hle : nn ≤ pw x - 1 := by simp [fits] at hf; omega
  have hle' : decide (pw x - 1 < nn) = false := by simp; omega
  clear hf
  go_enter Tryz.func41, Tryz.ntmps41
  go_wp2_with fail
  refine (right_any _ _).mono ?_
  rintro e w' ⟨rfl, rfl⟩
  go_wp2_with fail
  refine (top_any _ _ (by omega) (by omega)).mono ?_
  rintro e w' ⟨rfl, rfl⟩
  go_wp2_with fail
  go_loopw [1, 5, 6] (fun n s i wr => ∃ k : Nat, k ≤ x ∧ i = .int .i64 k ∧ s = .string ⟨(le nn k).toArray⟩ ∧ n = .int .u64 (nn / pw k) ∧ Below w.heap.size w wr) (fun _ _ i _ => x - (intOf i).toNat)
  case atStart => exact ⟨0, by omega, rfl, rfl, by simp [pw], B0 _⟩
  case round =>
    obtain ⟨k, hk, rfl, rfl, rfl, hb⟩ := hrel
    by_cases hlt : k < x
    · have hcv := conv1 wr (byteAt nn k)
      rw [bv_byteAt] at hcv
      have hlen : (le nn k).length ≤ 8 := by rw [le_length]; omega
      have hd0 : 0 ≤ nn / pw k := Int.ediv_nonneg h0 (Int.le_of_lt (pw_pos k))
      go_wp2
      refine ⟨⟨k + 1, by omega, by go_num, ?_, ?_, Ba hb _⟩, by simp [intOf]; omega⟩
      · rw [show (⟨#[byteAt nn k]⟩ : ByteArray) = ⟨[byteAt nn k].toArray⟩ from rfl, ByteArray.mk_append_mk]; rfl
      · have hle2 : nn / pw k ≤ nn := Int.ediv_le_self _ h0
        have h2 := hn.2; rw [pw8] at h2
        rw [Int.tdiv_eq_ediv_of_nonneg hd0, ← div_pw, IntKind.wrap_u64, Int.emod_eq_of_lt (by omega) (by omega)]
    · go_wp2
      go_ret
      obtain rfl : k = x := by omega
      exact ⟨rfl, hb⟩

set_option maxHeartbeats 1000000 in
theorem rput_false (x nn : Int) (w : World) (hn : U64 nn) (hf : fits nn x false = false) :
    Calls Tryz.prog 41 #[.int .i64 x, .int .u64 nn] w fun e w' => e = .returned (.string ⟨#[]⟩) ∧ Below w.heap.size w w' := by
  by_cases hx : isW x = true
  · have hx8 := isW_cases hx
    have hle' : decide (pw x - 1 < nn) = true := by simp [fits, hx] at hf; simp; omega
    have hlt : pw x - 1 < nn := by simpa using hle'
    clear hf
    go_enter Tryz.func41, Tryz.ntmps41
    go_wp2_with fail
    refine (right_any _ _).mono ?_
    rintro e w' ⟨rfl, rfl⟩
    go_wp2_with fail
    refine (top_any _ _ (by omega) (by omega)).mono ?_
    rintro e w' ⟨rfl, rfl⟩
    go_wp2_with fail
    go_ret
    exact ⟨rfl, B0 _⟩
  · have hx' : isW x = false := by simpa using hx
    go_enter Tryz.func41, Tryz.ntmps41
    go_wp2_with fail
    refine (right_any _ _).mono ?_
    rintro e w' ⟨rfl, rfl⟩
    go_wp2_with fail
    go_ret
    exact ⟨rfl, B0 _⟩

theorem rput_any (x nn : Int) (w : World) (hn : U64 nn) :
    Calls Tryz.prog 41 #[.int .i64 x, .int .u64 nn] w fun e w' => e = .returned (.string ⟨(rputL nn x).toArray⟩) ∧ Below w.heap.size w w' := by
  cases hf : fits nn x false with
  | true =>
    have hx := fits_w hf
    obtain ⟨k, rfl⟩ := Int.eq_ofNat_of_zero_le (show 0 ≤ x by omega)
    refine (rput_true k nn w hn hf (by omega)).mono ?_
    rintro e w' ⟨rfl, hb⟩
    exact ⟨by simp [rputL, hf], hb⟩
  | false =>
    refine (rput_false x nn w hn hf).mono ?_
    rintro e w' ⟨rfl, hb⟩
    exact ⟨by simp [rputL, hf], hb⟩

theorem num_step {l : List UInt8} {j : Nat} {c : UInt8} {k : Nat} (h : l[j]? = some c) : num ((l.drop j).take (k + 1)) = c.toNat + 256 * num ((l.drop (j + 1)).take k) := by
  obtain ⟨hj, hc⟩ := List.getElem?_eq_some_iff.1 h
  rw [List.drop_eq_getElem_cons hj, hc, List.take_succ_cons]; rfl

set_option maxHeartbeats 1000000 in
theorem rget_true (l : List UInt8) (at_ x : Nat) (w : World) (hm : l.length ≤ 9223372036854775807) (hx : x = 1 ∨ x = 2 ∨ x = 4 ∨ x = 8) (hat : at_ + x ≤ l.length) :
    Calls Tryz.prog 28 #[.string ⟨l.toArray⟩, .int .i64 at_, .int .i64 x] w fun e w' => e = .returned (.tuple #[.int .u64 (num ((l.drop at_).take x)), .bool true]) ∧ w = w' := by
  have hw : isW x = true := by rcases hx with rfl | rfl | rfl | rfl <;> rfl
  have h1 : decide (l.length < at_) = false := by simp; omega
  have h3 : decide ((at_ : Int) < 0) = false := by simp
  have h2 : decide ((l.length : Int) - at_ < x) = false := by simp; omega
  go_enter Tryz.func28, Tryz.ntmps28
  go_wp2_with fail
  refine (right_any _ _).mono ?_
  rintro e w' ⟨rfl, rfl⟩
  go_wp2_with fail
  go_loop [8, 9] (fun s i => ∃ k : Nat, k ≤ x ∧ i = .int .i64 ((x : Int) - 1 - k) ∧ s = .int .u64 (num ((l.drop (at_ + x - k)).take k))) (fun _ i => (1 + intOf i).toNat)
  case atStart => exact ⟨0, by omega, by simp, by simp [num]⟩
  case round =>
    obtain ⟨k, hk, rfl, rfl⟩ := hrel
    by_cases hlt2 : k < x
    · obtain ⟨j, hj⟩ : ∃ j : Nat, (x : Int) - 1 - k = j := ⟨x - 1 - k, by omega⟩
      rw [hj]
      have hjl : (at_ : Int) + j < l.length := by omega
      have HJ := hid hj; clear hj
      go_wp2
      have hj := HJ.out
      refine ⟨⟨k + 1, by omega, by rw [show (x : Int) - 1 - (k + 1 : Nat) = j - 1 by omega], ?_⟩, by simp [intOf]; omega⟩
      have hi : at_ + j < l.length := by omega
      have e1 : at_ + x - (k + 1) = at_ + j := by omega
      have e2 : at_ + x - k = at_ + j + 1 := by omega
      have hs := num_step (k := k) (List.getElem?_eq_getElem hi)
      rw [e1, e2, hs]
      have hb := num_bounds ((l.drop (at_ + j + 1)).take k)
      have hl : ((l.drop (at_ + j + 1)).take k).length = k := by simp; omega
      rw [hl] at hb
      have hp := pw_le7 (k := k) (by omega)
      have hc := l[at_ + j].toNat_lt
      have e3 : ∀ h, (⟨l.toArray⟩ : ByteArray)[at_ + j]'h = l[at_ + j] := fun _ => rfl
      rw [e3]
      generalize num ((l.drop (at_ + j + 1)).take k) = m at *
      rw [IntKind.wrap_u64, IntKind.wrap_u64, IntKind.wrap_u64]
      congr 1
      omega
    · obtain rfl : k = x := by omega
      have e : (k : Int) - 1 - k = -1 := by omega
      rw [e]
      go_wp2
      go_ret2
      exact ⟨by simp, by trivial⟩

set_option maxHeartbeats 1000000 in
theorem rget_false (l : List UInt8) (at_ x : Int) (w : World) (hm : l.length ≤ 9223372036854775807) (hh : holdsB l.length at_ x = false) :
    Calls Tryz.prog 28 #[.string ⟨l.toArray⟩, .int .i64 at_, .int .i64 x] w fun e w' => e = .returned (.tuple #[.int .u64 0, .bool false]) ∧ w = w' := by
  by_cases hx : isW x = true
  · have hx8 := isW_cases hx
    by_cases ha : at_ < 0
    · go_enter Tryz.func28, Tryz.ntmps28
      go_wp2_with fail
      refine (right_any _ _).mono ?_
      rintro e w' ⟨rfl, rfl⟩
      go_wp2_with fail
      go_ret2
      exact ⟨rfl, rfl⟩
    · obtain ⟨a, rfl⟩ := Int.eq_ofNat_of_zero_le (show 0 ≤ at_ by omega)
      have h3 : decide ((a : Int) < 0) = false := by simp
      have h4 : (l.length : Int) - x < a := by simp [holdsB, hx] at hh; omega
      clear hh ha
      by_cases hb : l.length < a
      · have h1 : decide (l.length < a) = true := by simpa using hb
        go_enter Tryz.func28, Tryz.ntmps28
        go_wp2_with fail
        refine (right_any _ _).mono ?_
        rintro e w' ⟨rfl, rfl⟩
        go_wp2_with fail
        go_ret2
        exact ⟨rfl, rfl⟩
      · have h1 : decide (l.length < a) = false := by simp; omega
        have h2 : decide ((l.length : Int) - a < x) = true := by simp; omega
        go_enter Tryz.func28, Tryz.ntmps28
        go_wp2_with fail
        refine (right_any _ _).mono ?_
        rintro e w' ⟨rfl, rfl⟩
        go_wp2_with fail
        go_ret2
        exact ⟨rfl, rfl⟩
  · have hx' : isW x = false := by simpa using hx
    go_enter Tryz.func28, Tryz.ntmps28
    go_wp2_with fail
    refine (right_any _ _).mono ?_
    rintro e w' ⟨rfl, rfl⟩
    go_wp2_with fail
    go_ret2
    exact ⟨rfl, rfl⟩

theorem rget_any (l : List UInt8) (at_ x : Int) (w : World) (hm : l.length ≤ 9223372036854775807) :
    Calls Tryz.prog 28 #[.string ⟨l.toArray⟩, .int .i64 at_, .int .i64 x] w fun e w' => e = .returned (.tuple #[.int .u64 (getN l at_ x), .bool (holdsB l.length at_ x)]) ∧ w = w' := by
  cases hh : holdsB l.length at_ x with
  | false =>
    refine (rget_false l at_ x w hm hh).mono ?_
    rintro e w' ⟨rfl, hb⟩
    exact ⟨by simp [getN, hh], hb⟩
  | true =>
    have hh' := hh
    simp [holdsB] at hh'
    have hx := isW_cases hh'.1.1
    obtain ⟨k, rfl⟩ := Int.eq_ofNat_of_zero_le (show 0 ≤ x by omega)
    obtain ⟨a, rfl⟩ := Int.eq_ofNat_of_zero_le (show 0 ≤ at_ by omega)
    refine (rget_true l a k w hm (by omega) (by omega)).mono ?_
    rintro e w' ⟨rfl, hb⟩
    exact ⟨by simp [getN, hh], hb⟩

/-- How long a text in a slot is. -/
def strLen : Value → Nat | .string s => s.size | _ => 0

end Go.Proofs.YteggkojlpgkhbaaGreat
