/-
  The program's Encode of layer 6.
  Tables that stand in a cell; the document's Same of layer 7, and its Equal.
  The document's Same of layer 6, of any two rows; numbers of composed moves.
-/
import Derived.Test.YtaegencmnmjgbaaGreatM25
import Derived.Test.YtaegencmnmjgbaaGreatM19
import Derived.Lib.AppendStr
import Derived.Test.YtaegencmnmjgbaaGreatM20
import Derived.Test.YtaegencmnmjgbaaGreatM23

namespace Go.Proofs.YtaegencmnmjgbaaGreat
open Go.RowKit
set_option linter.unusedVariables false
theorem wpList_appG {P : Program} {w w' : World} {ops : Array Oper} {rest : List Oper} {o : Oper} {a : Act} {Q : Exit → Act → World → Prop} {v v' u : Value} {t1 t2 : TypeId} (hgd : o.guard = none) (s x : Operand)
    (hop : o.op = .call { callee := .builtin .append, args := #[s, x], argTypes := #[t1, t2] }) (hs : a.eval s = v) (hx : a.eval x = u)
    (hrun : (Builtin.append_ #[t1, t2] o.type #[v, u]).run P w = .ok v' w') (hk : wpList P ops Q rest (a.put o.dst v') w') : wpList P ops Q (o :: rest) a w := by
  refine wpList_plain hgd fun K hK => ?_
  unfold Oper.wp execOp
  simp only [hop, resolve, invoke, builtin, Sem.run_bind, Sem.run_pure, Result.andThen_ok, List.map_toArray, List.map_cons, List.map_nil, hs, hx, hrun]
  exact hK _ _ hk
theorem strCells_bs (x : List UInt8) : Lib.strCells (bs x) = x.map bv := by
  simp [Lib.strCells, bv]
theorem run_appS8 {w : World} {base : Nat} {v : Value} {xs : List UInt8} (ho : Own w base v xs) (x : List UInt8) (hb : base ≤ w.heap.size) (hlen : xs.length + x.length ≤ 140737488355328) (ty : TypeId) :
    ∃ v' w', (Builtin.append_ #[35, 9] ty #[v, .string (bs x)]).run Tryz.prog w = .ok v' w' ∧ Own w' base v' (xs ++ x) ∧ w.grownBy w' v.ownBlock := by
  have hi8 := info8
  cases hi : Tryz.prog.info? 5 with
  | none => rw [hi] at hi8; cases hi8
  | some i =>
    rw [hi] at hi8
    simp only [Option.map_some, Option.some.injEq, Prod.mk.injEq] at hi8
    obtain ⟨hz, hs, hby⟩ := hi8
    have hsz : (bs x).size = x.length := rfl
    obtain ⟨v', w', hr, how, hg, _⟩ := Lib.run_append_own_string (P := Tryz.prog) (w := w) base 35 9 ty 5 i Tryz.underlying35 Tryz.underlying9 hi hz hs hby v xs.length (xs.map bv) ho (bs x) (by rw [hsz]; unfold maxLen; omega) (by rw [hsz]; omega) hb
    refine ⟨v', w', hr, ?_, hg⟩
    unfold Own; rw [List.length_append, List.map_append, ← strCells_bs, ← hsz]; exact how
section
variable {w w' : World} {base : Nat} {v : Value} {l : List UInt8}
theorem Own.blk2 (h : Own w base v l) : ∀ r, v.ownBlock = some r → base ≤ r ∧ ∃ cs, w.heap[r]? = some (.cells cs 5 (0, 0)) := by
  intro j hj
  rcases h.2 with ⟨e, _⟩ | ⟨g, cap, cur, e, hbase, hg, _⟩
  · rw [e] at hj; simp [Value.ownBlock] at hj
  · rw [e] at hj; simp [Value.ownBlock] at hj; subst hj; exact ⟨hbase, _, hg⟩
theorem Own.shape2 (h : Own w base v l) : ∃ A n c, v = .slice A n c := by
  rcases h.2 with ⟨e, _⟩ | ⟨g, cap, cur, hv, _⟩
  · exact ⟨_, _, _, e⟩
  · exact ⟨_, _, _, hv⟩
end
theorem numB_any (n : Int) (w : World) (h0 : 0 ≤ n) (h1 : n < 256) :
    Calls Tryz.prog 121 #[.int .i64 n] w fun e w' => ∃ v, e = .returned v ∧ Own w' w.heap.size v (le n 1) ∧ Below w.heap.size w w' := by
  have e0 : IntKind.u64.wrap n = n := u64_id h0 (by omega)
  have HU : Hid (U64 n) := ⟨h0, by rw [pw8]; omega⟩
  have hf : fits n 1 false = true := by simp [fits, show isW 1 = true from rfl, pw1]; omega
  have HP := hid (fun w => put_true none 0 0 [] 1 n w (Rd.nil w _) (by omega) HU.out hf (.inl rfl))
  clear hf
  go_enter Tryz.func121, Tryz.ntmps121
  go_wp2_with fail
  refine (HP.out w).mono ?_
  rintro e w1 ⟨v, rfl, ho, hb⟩
  have HO := hid ho
  clear ho
  go_wp2_with fail
  go_ret
  exact ⟨_, rfl, by simpa using HO.out, hb⟩
structure ES (w W : World) (q : Nat) (f : Fd) (v : Value) (X : List UInt8) : Prop where
  ow : Own W w.heap.size v X
  fb : FB W q (bs f.nm) f.k f.g
  bl : Below w.heap.size w W
section
variable {w W W' : World} {q : Nat} {f : Fd} {v v' : Value} {X Y : List UInt8}
theorem ES.on (h : ES w W q f v X) (hb : Below W.heap.size W W') : ES w W' q f v X := ⟨h.ow.grown hb, h.fb.on hb, h.bl.trans (hb.mono h.bl.size)⟩
theorem ES.app (h : ES w W q f v X) (hg : W.grownBy W' v.ownBlock) (ho : Own W' w.heap.size v' Y) : ES w W' q f v' Y :=
  ⟨ho, (hg.block q h.fb.lt (fun e => by
    obtain ⟨_, cs, hc⟩ := h.ow.blk2 q e.symm
    have := h.fb; unfold FB at this; rw [hc] at this; cases this)).trans h.fb, h.bl.grown hg h.bl.size (fun j e => (h.ow.blk2 j e).1)⟩
end
set_option maxRecDepth 20000 in
set_option maxHeartbeats 8000000 in
theorem p6encode_any {w : World} {A : Option Addr} {n c : Nat} {l : List Fd} (h : RdF w w.heap.size A n c l) (hs : short l) : Calls Tryz.prog 83 #[.slice A n c] w (SetO w (encE6 l)) := by
  have HL := hid h.1
  have H := hid h; have HS := hid hs; clear h hs
  cases hr : rightL l with
  | false =>
    have HE : Hid (encE6 l = ([], 60)) := by show _ = _; unfold encE6; rw [hr]; rfl
    have HR := hid hr
    clear hr
    go_enter Tryz.func83, Tryz.ntmps83
    go_wp2_with fail
    refine (p6right_any H.out HS.out).mono ?_
    rintro e w1 ⟨rfl, hb1⟩
    rw [HR.out]
    go_wp2_with fail
    go_ret2
    exact ⟨_, by rw [HE.out]; rfl, by rw [HE.out]; exact own_nil _ _, hb1⟩
  | true =>
    have HE : Hid (encE6 l = (encA l, 0)) := by show _ = _; unfold encE6; rw [hr]; rfl
    have HR := hid hr
    have hm16 : n ≤ 16 := by have := right_len hr; have := HL.out; omega
    have hm16i : (n : Int) ≤ 16 := by omega
    clear hr
    go_enter Tryz.func83, Tryz.ntmps83
    go_wp2_with fail
    refine (p6right_any H.out HS.out).mono ?_
    rintro e w1 ⟨rfl, hb1⟩
    rw [HR.out]
    have HB1 := hid hb1; clear hb1
    go_wp2_with fail
    refine (numB_any (n : Int) w1 (by omega) (by omega)).mono ?_
    rintro e w2 ⟨v2, rfl, ho2, hb2⟩
    have HB2 := hid (Bt HB1.out hb2)
    have HO2 : Hid (Own w2 w.heap.size v2 (le (n : Int) 1)) := ⟨ho2.1, by
      rcases ho2.2 with h1 | ⟨g, cap, cur, hv, hbase, hg, h3⟩
      · exact .inl h1
      · exact .inr ⟨g, cap, cur, hv, Nat.le_trans HB1.out.size hbase, hg, h3⟩⟩
    clear hb2 ho2
    go_wp2_with fail
    go_loopw [4, 15] (fun v i wr => ∃ (j : Nat), j ≤ n ∧ i = .int .i64 j ∧ Hid (Own wr w.heap.size v (le (n : Int) 1 ++ encP (l.take j))) ∧ Hid (Below w.heap.size w wr)) (fun _ i _ => n - (intOf i).toNat)
    case atStart => exact ⟨0, by omega, rfl, hid (by simpa [encP] using HO2.out), HB2⟩
    case round =>
      obtain ⟨j, hj, rfl, HO, HB⟩ := hrel
      rename_i v
      by_cases hlt : j < n
      · have hjl : j < l.length := by have := HL.out; omega
        obtain ⟨f, hf⟩ : ∃ f, l[j]? = some f := ⟨_, List.getElem?_eq_getElem hjl⟩
        obtain ⟨_, hk64, hg64, hnl, b, off, rfl, hc⟩ := H.out.at hf
        obtain ⟨a1, a2, a3, a4, a5, a6⟩ := right_at HR.out hf
        have HF := hid hf
        obtain ⟨c0, c1, c2⟩ := hc wr HB.out
        have HXL : Hid ((le (n : Int) 1 ++ encP (l.take j)).length ≤ 400) := by
          show _ ≤ _
          rw [List.length_append, le_length]
          have := encP_len HR.out j (by omega)
          omega
        obtain ⟨X, hX⟩ : ∃ X, X = le (n : Int) 1 ++ encP (l.take j) := ⟨_, rfl⟩
        rw [← hX] at HXL HO
        have HX := hid hX
        obtain ⟨A3, n3, c3, rfl⟩ := HO.out.shape2
        obtain ⟨wv, hwv⟩ : ∃ wv, wv = wr.alloc (.cells #[.string (bs f.nm), .int .i64 f.k, .int .i64 f.g] 68) := ⟨_, rfl⟩
        obtain ⟨q, hq⟩ : ∃ q, q = wr.heap.size := ⟨_, rfl⟩
        have HWV := hid hwv; have HQ := hid hq
        have HES : Hid (ES w wv q f (.slice A3 n3 c3) X) := by
          rw [hwv, hq]; exact ⟨HO.out.grown (B1 _ _), fb_new wr _ _ _, Ba HB.out _⟩
        have hji : (j : Int) < n := by omega
        have hj0 : (0 : Int) ≤ j := by omega
        have HA := hid (And.intro a1 (And.intro a2 (And.intro a3 (And.intro a4 (And.intro a5 a6)))))
        clear hc hf hk64 hg64 hnl hjl hwv hq hX a1 a2 a3 a4 a5 a6
        go_wp2_with fail
        rw [← HWV.out, ← HQ.out]
        refine (numB_any (f.nm.length : Int) wv (by omega) (by have := HA.out; omega)).mono ?_
        rintro e w4 ⟨v4, rfl, ho4, hb4⟩
        have HES4 := hid (HES.out.on hb4)
        obtain ⟨A4, m4, rfl, hr4⟩ := ho4.rd
        obtain ⟨v5, w5, hrun5, ho5, hg5, _⟩ := run_append8 HES4.out.ow hr4 HES4.out.bl.size (by have := HXL.out; rw [le_length]; omega) 35
        have HES5 := hid (HES4.out.app hg5 ho5)
        obtain ⟨A5, n5, c5, rfl⟩ := ho5.shape2
        obtain ⟨v6, w6, hrun6, ho6, hg6⟩ := run_appS8 HES5.out.ow f.nm HES5.out.bl.size (by have := HXL.out; have := HA.out; rw [List.length_append, le_length]; omega) 35
        have HES6 := hid (HES5.out.app hg6 ho6)
        obtain ⟨A6, n6, c6, rfl⟩ := ho6.shape2
        obtain ⟨u0, u1, u2⟩ := HES5.out.fb.cells
        obtain ⟨x0, x1, x2⟩ := HES6.out.fb.cells
        have HRUN5 := hid hrun5; have HRUN6 := hid hrun6
        clear hb4 ho4 hr4 hrun5 hrun6 ho5 ho6 hg5 hg6 c0 c1 c2
        go_wp2_with (at_builtin; first | refine wpList_appG rfl _ _ rfl rfl rfl HRUN5.out ?_ | refine wpList_appG rfl _ _ rfl rfl rfl HRUN6.out ?_)
        refine (numB_any f.k w6 (by have := HA.out; omega) (by have := HA.out; omega)).mono ?_
        rintro e w7 ⟨v7, rfl, ho7, hb7⟩
        have HES7 := hid (HES6.out.on hb7)
        obtain ⟨A7, m7, rfl, hr7⟩ := ho7.rd
        obtain ⟨v8, w8, hrun8, ho8, hg8, _⟩ := run_append8 HES7.out.ow hr7 HES7.out.bl.size (by have := HXL.out; have := HA.out; simp only [List.length_append, le_length]; omega) 35
        have HES8 := hid (HES7.out.app hg8 ho8)
        obtain ⟨A8, n8, c8, rfl⟩ := ho8.shape2
        obtain ⟨y0, y1, y2⟩ := HES8.out.fb.cells
        have HRUN8 := hid hrun8
        clear hb7 ho7 hr7 hrun8 ho8 hg8 u0 u1 u2 x0 x1 x2
        go_wp2_with (at_builtin; refine wpList_appG rfl _ _ rfl rfl rfl HRUN8.out ?_)
        refine (numB_any f.g w8 (by have := HA.out; omega) (by have := HA.out; omega)).mono ?_
        rintro e w9 ⟨v9, rfl, ho9, hb9⟩
        have HES9 := hid (HES8.out.on hb9)
        obtain ⟨A9, m9, rfl, hr9⟩ := ho9.rd
        obtain ⟨v10, w10, hrun10, ho10, hg10, _⟩ := run_append8 HES9.out.ow hr9 HES9.out.bl.size (by have := HXL.out; have := HA.out; simp only [List.length_append, le_length]; omega) 35
        have HES10 := hid (HES9.out.app hg10 ho10)
        have HRUN10 := hid hrun10
        clear hb9 ho9 hr9 hrun10 ho10 hg10 y0 y1 y2
        go_wp2_with (at_builtin; refine wpList_appG rfl _ _ rfl rfl rfl HRUN10.out ?_)
        go_roundw
        case rel =>
          refine ⟨j + 1, by omega, by simp, hid ?_, HES10.out.bl⟩
          have := HES10.out.ow
          rw [encP_take HF.out, ← List.append_assoc, ← HX.out]
          unfold encF
          simpa [List.append_assoc] using this
        case measure => simp [intOf]; omega
      · obtain rfl : j = n := by omega
        have et : l.take j = l := by rw [← HL.out]; exact List.take_length
        have HEA : Hid (le (j : Int) 1 ++ encP (l.take j) = encA l) := by show _ = _; rw [et]; unfold encA; rw [HL.out]
        clear et
        go_wp2_with fail
        go_ret2
        exact ⟨_, by rw [HE.out]; rfl, by rw [HE.out]; show Own _ _ _ (encA l); rw [← HEA.out]; exact HO.out, HB.out⟩
end Go.Proofs.YtaegencmnmjgbaaGreat

namespace Go.Proofs.YtaegencmnmjgbaaGreat
open Go.RowKit
set_option linter.unusedVariables false
section
variable {w w' : World} {b b' B : Nat} {v1 v2 v3 v : Value} {ty : TypeId}
theorem TBx.frozen (h : TBx w b v1 v2 v3 ty) (i : Nat) : w.frozen? ⟨b, i, none⟩ = false := row_frozen h i
theorem TBx.set0 (h : TBx w b v1 v2 v3 ty) (v : Value) : TBx (w.setCell ⟨b, 0, none⟩ v) b v v2 v3 ty := row_set h 0 _
theorem TBx.set1 (h : TBx w b v1 v2 v3 ty) (v : Value) : TBx (w.setCell ⟨b, 1, none⟩ v) b v1 v v3 ty := row_set h 1 _
theorem TBx.set2 (h : TBx w b v1 v2 v3 ty) (v : Value) : TBx (w.setCell ⟨b, 2, none⟩ v) b v1 v2 v ty := row_set h 2 _
theorem TBx.set3 (h : TBx w b v1 v2 v3 ty) (u1 u2 u3 : Value) : TBx (((w.setCell ⟨b, 0, none⟩ u1).setCell ⟨b, 1, none⟩ u2).setCell ⟨b, 2, none⟩ u3) b u1 u2 u3 ty := ((h.set0 u1).set1 u2).set2 u3
theorem TBx.other (h : TBx w b v1 v2 v3 ty) (hne : b ≠ b') (i : Nat) (u : Value) : TBx (w.setCell ⟨b', i, none⟩ u) b v1 v2 v3 ty := (Below.heap_setCell w ⟨b', i, none⟩ u b hne).trans h
theorem TBx.other3 (h : TBx w b v1 v2 v3 ty) (hne : b ≠ b') (u1 u2 u3 : Value) : TBx (((w.setCell ⟨b', 0, none⟩ u1).setCell ⟨b', 1, none⟩ u2).setCell ⟨b', 2, none⟩ u3) b v1 v2 v3 ty := ((h.other hne 0 u1).other hne 1 u2).other hne 2 u3
theorem MB.frozen {m : Mv} (h : MB w b m ty) (i : Nat) : w.frozen? ⟨b, i, none⟩ = false := row_frozen h i
theorem MB.other {m : Mv} (h : MB w b m ty) (hne : b ≠ b') (i : Nat) (u : Value) : MB (w.setCell ⟨b', i, none⟩ u) b m ty := (Below.heap_setCell w ⟨b', i, none⟩ u b hne).trans h
theorem TBx.grown {row : Option Nat} (h : TBx w b v1 v2 v3 ty) (hg : w.grownBy w' row) (hne : some b ≠ row) : TBx w' b v1 v2 v3 ty := (hg.block _ (row_lt h) hne).trans h
end
theorem ret_TB7 {fn : Func} {p : Tmp} (hf : fn.results = #[.cell p 110]) {R : Ending → World → Prop} {a : Act} {w : World} {b : Nat} {v1 v2 v3 : Value} (hp : a.tmps.getD p undef = .pointer (some ⟨b, 0, none⟩)) (hv : TBx w b v1 v2 v3 110)
    (hd : a.defers = []) (hR : R (.returned (.agg #[v1, v2, v3])) w) : bodyPost Tryz.prog fn R .ret a w :=
  bodyPost_ret_by (results_cell_row hf a.tmps w b 110 _ (0, 0) _ hp hv Tryz.underlying110 rfl (by kernel_rfl)) hd hR
theorem run_loadTB7 {w : World} {b : Nat} {v1 v2 v3 : Value} (h : TBx w b v1 v2 v3 110) : (loadVar 110 ⟨b, 0, none⟩).run Tryz.prog w = .ok (.agg #[v1, v2, v3]) w :=
  run_loadVar_row w b 110 110 #[v1, v2, v3] (0, 0) _ h Tryz.underlying110 rfl (by kernel_rfl)
theorem ret_TB7e {fn : Func} {p u : Tmp} (hf : fn.results = #[.cell p 110, .tmp u]) {R : Ending → World → Prop} {a : Act} {w : World} {b : Nat} {v1 v2 v3 x : Value} (hp : a.tmps.getD p undef = .pointer (some ⟨b, 0, none⟩)) (hv : TBx w b v1 v2 v3 110)
    (hx : a.tmps.getD u undef = x) (hd : a.defers = []) (hR : R (.returned (.tuple #[.agg #[v1, v2, v3], x])) w) : bodyPost Tryz.prog fn R .ret a w :=
  bodyPost_ret_by (by rw [results_cell_tmp hf, hp, hx]; simp [asAddr, Result.andThen, run_loadTB7 hv]) hd hR
theorem RdT.nil (w : World) (B : Nat) : RdT w B (.agg #[.slice none 0 0, .slice none 0 0, .slice none 0 0]) Tb.none := ⟨Option.none, 0, 0, Option.none, 0, 0, Option.none, 0, 0, rfl, RdF.nil _ _, RdF.nil _ _, RdM.nil _ _⟩
structure MkT (w W : World) (q : Nat) (ty me : TypeId) (v1 v2 v : Value) (B : Nat) (l : List Mv) : Prop where
  tb : TBx W q v1 v2 v ty
  ow : OwM W B me v l
  bl : Below w.heap.size w W
  qb : q < B
  wq : w.heap.size ≤ q
  az : B ≤ W.heap.size
section
variable {w W W' : World} {q B : Nat} {ty me : TypeId} {v1 v2 v v' : Value} {l l' : List Mv}
theorem MkT.on (h : MkT w W q ty me v1 v2 v B l) (hb : Below W.heap.size W W') : MkT w W' q ty me v1 v2 v B l :=
  ⟨h.tb.on hb, h.ow.on hb, h.bl.trans (hb.mono h.bl.size), h.qb, h.wq, Nat.le_trans h.az hb.size⟩
theorem MkT.app (h : MkT w W q ty me v1 v2 v B l) (hg : W.grownBy W' v.ownBlock) (ho : OwM W' B me v' l') : MkT w (W'.setCell ⟨q, 2, none⟩ v') q ty me v1 v2 v' B l' :=
  ⟨(h.tb.grown hg (fun e => by have := (h.ow.blk2 q e.symm).1; have := h.qb; omega)).set2 v', ho.set h.qb 2 _,
    ((h.bl.grown hg h.bl.size (fun j e => Nat.le_trans (Nat.le_trans h.wq (Nat.le_of_lt h.qb)) (h.ow.blk2 j e).1)).setCell (p := ⟨q, 2, none⟩) h.wq _), h.qb, h.wq, by simp only [size_set]; exact Nat.le_trans h.az hg.size⟩
end
theorem self_I64 {n : Nat} (h : n ≤ 1000000) : ∀ m ∈ selfL n, I64 m.fr ∧ I64 m.k ∧ U64 m.n := fun m hm => by
  simp only [selfL, List.mem_map, List.mem_range] at hm
  obtain ⟨i, hi, rfl⟩ := hm
  exact ⟨i64_iff.2 ⟨by show (-9223372036854775808 : Int) ≤ (i : Int); omega, by show (i : Int) ≤ 9223372036854775807; omega⟩, i64_iff.2 ⟨by show (-9223372036854775808 : Int) ≤ 0; omega, by show (0 : Int) ≤ 9223372036854775807; omega⟩, ⟨Int.le_refl _, by show (0 : Int) < pw 8; decide⟩⟩
set_option maxRecDepth 20000 in
set_option maxHeartbeats 8000000 in
theorem r7same_any {w : World} {A : Option Addr} {n c : Nat} {l : List Fd} (h : RdF w w.heap.size A n c l) (hs : short l) :
    Calls Tryz.prog 141 #[.slice A n c] w fun e w' => ∃ v, e = .returned v ∧ RdT w' w'.heap.size v (sameT l) ∧ Below w.heap.size w w' := by
  have HL := hid h.1
  have H := hid h; have HS := hid hs; clear h hs
  obtain ⟨w0, hw0⟩ : ∃ w0, w0 = w.alloc (.cells #[.slice none 0 0, .slice none 0 0, .slice none 0 0] 110) := ⟨_, rfl⟩
  have HW0 := hid hw0
  have HB0 : Hid (Below w.heap.size w w0) := by rw [hw0]; exact B1 _ _
  obtain ⟨r, hr⟩ : ∃ r, r = w.heap.size := ⟨_, rfl⟩
  have HR := hid hr
  have HT0 : Hid (TBx w0 r (.slice none 0 0) (.slice none 0 0) (.slice none 0 0) 110) := by rw [hw0, hr]; exact tb_new w _ _ _ _
  clear hw0 hr
  go_enter Tryz.func141, Tryz.ntmps141
  go_wp2_with fail
  rw [← HW0.out, ← HR.out]
  refine (r6right_any (H.out.on HB0.out) HS.out).mono ?_
  rintro e w1 ⟨rfl, hb1⟩
  have HT1 := hid (HT0.out.on hb1)
  have HB1 := hid (Bt HB0.out hb1)
  have HLT : Hid (r < w1.heap.size) := hid HT1.out.lt
  have fz := HT1.out.frozen 0; have fz1 := HT1.out.frozen 1; have fz2 := HT1.out.frozen 2
  obtain ⟨c0, cc1, cc2⟩ := HT1.out.cells
  clear hb1
  cases hr : rightL l with
  | false =>
    have HE : Hid (sameT l = Tb.none) := sameT_wrong hr
    clear hr
    go_wp2_with fail
    refine ret_TB7 (by rfl) (by rfl) (HT1.out.set3 _ _ _) (by rfl) ⟨_, rfl, by rw [HE.out]; exact RdT.nil _ _, ?_⟩
    have hrs : w.heap.size ≤ r := Nat.le_of_eq HR.out.symm
    exact B3 HB1.out hrs _ _ _
  | true =>
    have HE : Hid (sameT l = ⟨l, l, selfL l.length⟩) := sameT_right hr
    have hn16 : n ≤ 16 := by have := right_len hr; have := HL.out; omega
    have hn16i : (n : Int) ≤ 16 := by omega
    clear hr
    obtain ⟨w2, hw2⟩ : ∃ w2, w2 = w1.alloc (.cells #[.slice A n c, .slice A n c, .slice none 0 0] 110) := ⟨_, rfl⟩
    obtain ⟨q, hq⟩ : ∃ q, q = w1.heap.size := ⟨_, rfl⟩
    have HMK : Hid (MkT w w2 q 110 150 (.slice A n c) (.slice A n c) (.slice none 0 0) (q + 1) (selfL 0)) := by
      rw [hw2, hq]
      exact ⟨tb_new w1 _ _ _ _, OwM.nil _ _ _, Ba HB1.out _, by omega, HB1.out.size, by simp⟩
    have HT2 : Hid (TBx w2 r (.slice none 0 0) (.slice none 0 0) (.slice none 0 0) 110 ∧ r < q) := by rw [hw2, hq]; exact ⟨HT1.out.on (B1 _ _), HLT.out⟩
    have HW2 := hid hw2; have HQ := hid hq
    clear hw2 hq fz fz1 fz2 c0 cc1 cc2
    go_wp2_with fail
    rw [← HW2.out, ← HQ.out]
    go_loopw [4] (fun i wr => ∃ j : Nat, j ≤ n ∧ i = .int .i64 j ∧ Hid (∃ v, MkT w wr q 110 150 (.slice A n c) (.slice A n c) v (q + 1) (selfL j)) ∧ Hid (TBx wr r (.slice none 0 0) (.slice none 0 0) (.slice none 0 0) 110 ∧ r < q)) (fun i _ => n - (intOf i).toNat)
    case atStart => exact ⟨0, by omega, rfl, hid ⟨_, HMK.out⟩, HT2⟩
    case round =>
      obtain ⟨j, hj, rfl, ⟨v, hm⟩, HT⟩ := hrel
      have HM := hid hm
      obtain ⟨c0, cc1, cc2⟩ := hm.tb.cells
      by_cases hlt : j < n
      · have hji : (j : Int) < n := by omega
        have hj0 : (0 : Int) ≤ j := by omega
        obtain ⟨v', w3, hrun, hown, hgr⟩ := run_appMv Tryz.underlying108 infoMd hm.ow (selfM j) (by rw [selfL_length]; omega) hm.az 108
        have hmk := (hm.on (B1 _ (.cells #[.int .i64 (selfM j).fr, .int .i64 (selfM j).k, .int .u64 (selfM j).n, .string (selfM j).t] 150))).app hgr hown
        rw [← selfL_succ] at hmk
        have htb := (HM.out.on (B1 _ (.cells #[.int .i64 (selfM j).fr, .int .i64 (selfM j).k, .int .u64 (selfM j).n, .string (selfM j).t] 150))).tb.grown hgr (fun e => by have := (hm.ow.blk2 q e.symm).1; have := hm.qb; omega)
        have fz := htb.frozen 2
        have ct := htb.cells.2.2
        have HT3 : Hid (TBx (w3.setCell ⟨q, 2, none⟩ v') r (.slice none 0 0) (.slice none 0 0) (.slice none 0 0) 110 ∧ r < q) := ⟨((HT.out.1.on (B1 _ _)).grown hgr (fun e => by have := (hm.ow.blk2 r e.symm).1; have := HT.out.2; omega)).other (by have := HT.out.2; omega) 2 _, HT.out.2⟩
        obtain ⟨A3, n3, c3, rfl⟩ := hown.shape
        have HRUN := hid hrun; have HMK2 := hid hmk
        clear hrun hown hgr hmk hm htb
        go_wp2_with (at_builtin; refine wpList_appG rfl _ _ rfl rfl rfl HRUN.out ?_)
        go_roundw
        case rel => exact ⟨j + 1, by omega, by go_num, hid ⟨_, HMK2.out⟩, HT3⟩
        case measure => simp [intOf]; omega
      · obtain rfl : j = n := by omega
        obtain ⟨A3, c3, hv, hrd⟩ := hm.ow.rd (self_I64 (by omega))
        rw [selfL_length] at hv hrd
        subst hv
        have HRD := hid hrd
        have fz := HT.out.1.frozen 0; have fz1 := HT.out.1.frozen 1; have fz2 := HT.out.1.frozen 2
        obtain ⟨r0, r1, r2⟩ := HT.out.1.cells
        clear hm hrd
        go_wp2_with fail
        have hrs : w.heap.size ≤ r := Nat.le_of_eq HR.out.symm
        refine ret_TB7 (by rfl) (by rfl) (HT.out.1.set3 _ _ _) (by rfl) ⟨_, rfl, ?_, B3 HM.out.bl hrs _ _ _⟩
        rw [HE.out]
        have hB := B3 HM.out.bl hrs (.slice A j c) (.slice A j c) (.slice A3 j c3)
        have hO := ((HM.out.ow.set (g := r) (by have := HT.out.2; omega) 0 (.slice A j c)).set (g := r) (by have := HT.out.2; omega) 1 (.slice A j c)).set (g := r) (by have := HT.out.2; omega) 2 (.slice A3 j c3)
        obtain ⟨A4, c4, hv, hrd⟩ := hO.rd (self_I64 (by omega))
        rw [selfL_length] at hv hrd
        cases hv
        refine ⟨A, j, c, A, j, c, A3, j, c3, rfl, H.out.on hB, H.out.on hB, ?_⟩
        rw [HL.out]; exact hrd
end Go.Proofs.YtaegencmnmjgbaaGreat

namespace Go.Proofs.YtaegencmnmjgbaaGreat
open Go.RowKit
set_option linter.unusedVariables false
theorem thr_I64 {a b : Tb} (ha : ∀ m ∈ a.mv, I64 m.fr ∧ I64 m.k ∧ U64 m.n) (hb : ∀ m ∈ b.mv, I64 m.fr ∧ I64 m.k ∧ U64 m.n) (hf : ∀ f ∈ b.nw, I64 f.k) : ∀ m ∈ thrL a b, I64 m.fr ∧ I64 m.k ∧ U64 m.n := fun y hy => by
  unfold thrL at hy
  rw [List.mem_map] at hy
  obtain ⟨p, hp, rfl⟩ := hy
  obtain ⟨i, hi⟩ := List.getElem?_of_mem hp
  obtain ⟨h1, h2⟩ := zip_at hi
  have hm := hb _ (List.mem_of_getElem? h1)
  have hk := hf _ (List.mem_of_getElem? h2)
  unfold thrM
  by_cases c : 0 ≤ p.1.fr
  · rw [if_pos c]
    cases hx : a.mv[p.1.fr.toNat]? with
    | none => exact hm
    | some x =>
      cases hg : a.nw[p.1.fr.toNat]? with
      | none => exact hm
      | some g =>
        have hxx := ha x (List.mem_of_getElem? hx)
        dsimp only
        by_cases c2 : 0 ≤ x.fr
        · rw [if_pos c2]; exact hxx
        · rw [if_neg c2]; exact ⟨hxx.1, hk, castN_U64 hxx.2.2⟩
  · rw [if_neg c]; exact hm
set_option maxHeartbeats 2000000 in
theorem r6same_any {w : World} {A A2 : Option Addr} {n n2 c c2 : Nat} {l l2 : List Fd} (h : RdF w w.heap.size A n c l) (h2 : RdF w w.heap.size A2 n2 c2 l2) :
    Calls Tryz.prog 25 #[.slice A n c, .slice A2 n2 c2] w fun e w' => e = .returned (.bool (decide (l = l2))) ∧ Below w.heap.size w w' := by
  have HL := hid h.1; have HL2 := hid h2.1
  have hnm : (n : Int) ≤ 9223372036854775807 := by have := Nat.le_trans h.2.1 h.2.2.1; unfold maxLen at this; omega
  have H := hid h; have H2 := hid h2; clear h h2
  by_cases hne : n = n2
  · subst hne
    go_enter Tryz.func25, Tryz.ntmps25
    go_wp2_with fail
    go_loopw [5] (fun i wr => ∃ j : Nat, j ≤ n ∧ i = .int .i64 j ∧ Hid (∀ m, m < j → l[m]? = l2[m]?) ∧ Hid (Below w.heap.size w wr)) (fun i _ => n - (intOf i).toNat)
    case atStart => exact ⟨0, by omega, rfl, hid (fun m hm => absurd hm (by omega)), B0 w⟩
    case round =>
      obtain ⟨j, hj, rfl, HA, hb⟩ := hrel
      by_cases hlt : j < n
      · have hjl : j < l.length := by have := HL.out; omega
        obtain ⟨f, hf⟩ : ∃ f, l[j]? = some f := ⟨_, List.getElem?_eq_getElem hjl⟩
        obtain ⟨g, hg⟩ : ∃ g, l2[j]? = some g := ⟨_, List.getElem?_eq_getElem (by have := HL2.out; omega)⟩
        obtain ⟨_, hk64, hg64, hnl, b, off, rfl, hc⟩ := H.out.at hf
        obtain ⟨_, _, _, _, b2, off2, rfl, hc2⟩ := H2.out.at hg
        obtain ⟨c0, cc1, cc2⟩ := hc wr hb.out
        obtain ⟨d0, dd1, dd2⟩ := hc2 wr hb.out
        have hji : (j : Int) < n := by omega
        have hj0 : (0 : Int) ≤ j := by omega
        have HFG := hid (And.intro hf hg)
        clear hc hc2 hjl hf hk64 hg64 hnl hg
        by_cases hfg : f = g
        · subst hfg
          go_wp2_with fail
          go_quiet (fail)
          go_wp2_with fail
          exact ⟨⟨j + 1, by omega, by go_num, hid (fun m hm => by
            by_cases e : m = j
            · subst e; rw [HFG.out.1, HFG.out.2]
            · exact HA.out m (by omega)), Bd hb.out nq⟩, by simp [intOf]; omega⟩
        · have HE : Hid (decide (l = l2) = false) := hid (decide_eq_false (fun e => hfg (by have := HFG.out; rw [e] at this; exact Option.some.inj (this.1.symm.trans this.2))))
          have HFN := hid hfg
          clear hfg
          by_cases e1 : f.nm = g.nm
          · by_cases e2 : f.k = g.k
            · have e3 : ¬ f.g = g.g := fun e3 => HFN.out (by cases f; cases g; simp_all)
              have t3 : (f.g == g.g) = false := by simpa using e3
              have t2 : (f.k == g.k) = true := by simpa using e2
              go_wp2_with fail
              go_quiet (fail)
              go_wp2_with fail
              go_ret
              exact ⟨by rw [HE.out]; rfl, Bd hb.out nq⟩
            · have t2 : (f.k == g.k) = false := by simpa using e2
              go_wp2_with fail
              go_quiet (fail)
              go_wp2_with fail
              go_ret
              exact ⟨by rw [HE.out]; rfl, Bd hb.out nq⟩
          · go_wp2_with fail
            go_quiet (fail)
            go_wp2_with fail
            go_ret
            exact ⟨by rw [HE.out]; rfl, Bd hb.out nq⟩
      · obtain rfl : j = n := by omega
        have HE : Hid (decide (l = l2) = true) := hid (decide_eq_true (List.ext_getElem? (fun m => by
          by_cases c : m < j
          · exact HA.out m c
          · rw [List.getElem?_eq_none (by have := HL.out; omega), List.getElem?_eq_none (by have := HL2.out; omega)])))
        go_wp2_with fail
        go_ret
        exact ⟨by rw [HE.out]; rfl, hb.out⟩
  · have hni : ¬ (n : Int) = n2 := by omega
    have HE : Hid (decide (l = l2) = false) := hid (decide_eq_false (fun e => hne (by rw [← HL.out, ← HL2.out, e])))
    go_enter Tryz.func25, Tryz.ntmps25
    go_wp2_with fail
    go_ret
    exact ⟨by rw [HE.out]; rfl, B0 w⟩
end Go.Proofs.YtaegencmnmjgbaaGreat
