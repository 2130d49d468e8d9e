/-
  The program's Set of layer 6.
  The program's Encode of layer 6.
  Tables that stand in a cell; the document's Same of layer 7, and its Equal.
-/
import Derived.Test.YtjodbopnibdolaaGreatM18
import Derived.Test.YtjodbopnibdolaaGreatM8
import Derived.Test.YtjodbopnibdolaaGreatM14
import Derived.Lib.AppendStr
import Derived.Test.YtjodbopnibdolaaGreatM15
import Derived.Test.YtjodbopnibdolaaGreatM17

namespace Go.Proofs.YtjodbopnibdolaaGreat
open Go.RowKit
set_option linter.unusedVariables false

def SetO (w : World) (r : List UInt8 × Int) (e : Ending) (w' : World) : Prop := ∃ v, e = .returned (.tuple #[v, .int .i64 r.2]) ∧ Own w' w.heap.size v r.1 ∧ Below w.heap.size w w'

set_option maxRecDepth 20000 in
set_option maxHeartbeats 4000000 in
theorem p6set_any {w : World} {A : Option Addr} {n c : Nat} {l : List Fd} (h : RdF w w.heap.size A n c l) (hs : short l) {A2 : Option Addr} {n2 c2 : Nat} {s : List UInt8} (h2 : Rd w w.heap.size A2 n2 c2 s) (hsl : n2 ≤ 100000) (nm : List UInt8) (vk vn : Int) (t : ByteArray) (hn : U64 vn) :
    Calls Tryz.prog 26 #[.slice A2 n2 c2, .slice A n c, .string (bs nm), .agg #[.int .i64 vk, .int .u64 vn, .string t]] w (SetO w (setS6 s l nm vk vn t)) := by
  have H := hid h; have HS := hid hs; have H2 := hid h2; have HN := hid hn; clear h hs hn
  obtain ⟨w0, hw0⟩ : ∃ w0, w0 = w.alloc (.cells #[.int .i64 vk, .int .u64 vn, .string t] 33) := ⟨_, rfl⟩
  have HW0 := hid hw0
  have HB0 : Hid (Below w.heap.size w w0) := by rw [hw0]; exact B1 _ _
  obtain ⟨bx, hbx⟩ : ∃ bx, bx = w.heap.size := ⟨_, rfl⟩
  have HBX := hid hbx
  have HV0 : Hid (VB w0 bx vk vn t) := by rw [hw0, hbx]; exact vb_new w vk vn t
  have HSG := hid (seek_get h2.1 l nm)
  have HSL := hid h2.1
  clear hw0 hbx h2
  go_enter Tryz.func26, Tryz.ntmps26
  go_wp2_with fail
  rw [← HW0.out, ← HBX.out]
  refine (seek_any (H.out.on HB0.out) HS.out A2 n2 c2 nm).mono ?_
  rintro e w1 ⟨rfl, hb1⟩
  have HBW1 := hid (Bt HB0.out hb1)
  have HV1 := hid (HV0.out.on hb1)
  clear hb1
  rcases HSG.out with ⟨x, hx0, hsk, -, hx1, hst⟩ | ⟨f, p, m, hsk, hm, hm1, hm64, hpm, hn1160, hmay, hfl, -, hst⟩
  · rw [hsk]
    have HE := hid (hst vk vn t)
    have t1 : (x != 0) = true := by simpa using hx0
    clear hsk hst hx0 hx1
    dsimp only [fv]
    go_wp2_with fail
    go_ret2
    exact ⟨_, by rw [HE.out]; rfl, by rw [HE.out]; exact own_nil _ _, Ba HBW1.out _⟩
  · rw [hsk]
    have HE := hid (hst vk vn t)
    obtain ⟨w3, hw3⟩ : ∃ w3, w3 = w1.alloc (.cells #[.string (bs f.nm), .int .i64 f.k, .int .i64 f.g] 29) := ⟨_, rfl⟩
    obtain ⟨q, hq⟩ : ∃ q, q = w1.heap.size := ⟨_, rfl⟩
    have HW3 := hid hw3; have HQ := hid hq
    have HF3 : Hid (FB w3 q (bs f.nm) f.k f.g) := by rw [hw3, hq]; exact fb_new w1 _ _ _
    have HV3 : Hid (VB w3 bx vk vn t) := by rw [hw3]; exact HV1.out.alloc _
    have HBW3 : Hid (Below w.heap.size w w3) := by rw [hw3]; exact Ba HBW1.out _
    have hn2 : n2 ≤ 1160 := hn1160
    have HM := hid hm
    obtain ⟨v0, vv1, vv2⟩ := (HV1.out.alloc (.cells #[.string (bs f.nm), .int .i64 f.k, .int .i64 f.g] 29)).cells
    clear hsk hst hw3 hq hm hmay hfl hn1160
    dsimp only [fv]
    go_wp2_with fail
    rw [← HW3.out, ← HQ.out]
    refine (kencode_any vk vn t (bs f.nm) f.k f.g _ HN.out).mono ?_
    rintro e w4 ⟨A4, m4, c4, rfl, hr4, hb4⟩
    have HR4 := hid hr4
    have HBW4 := hid (Bt HBW3.out hb4)
    clear hr4 hb4 v0 vv1 vv2
    cases hrf : rightF vk vn t.size f.k f.g with
    | false =>
      have hee : encE vk vn t f.k f.g = 50 := by simp [encE, hrf]
      rw [hrf] at HE
      have HE2 : Hid (setS6 s l nm vk vn t = ([], 50)) := HE.out
      rw [hee]
      clear hrf hee
      go_wp2_with fail
      go_ret2
      exact ⟨_, by rw [HE2.out]; rfl, by rw [HE2.out]; exact own_nil _ _, HBW4.out⟩
    | true =>
      have hee : encE vk vn t f.k f.g = 0 := by simp [encE, hrf]
      rw [hrf] at HE
      have HE2 : Hid (setS6 s l nm vk vn t = (setL s p (encB vk vn t f.k f.g), 0)) := HE.out
      obtain ⟨X, hX⟩ : ∃ X, X = encB vk vn t f.k f.g := ⟨_, rfl⟩
      have hXl : X.length = m := by
        have h1 := encB_length hrf
        have h2 := HM.out
        rw [hX]; omega
      rw [← hX] at HE2
      have hr4 := HR4.out
      rw [encB_eq, ← hX, bs_toList] at hr4
      have hm4 : m4 = m := by have := hr4.1; omega
      subst hm4
      have HR4b := hid hr4
      have HXL := hid hXl
      rw [hee]
      clear hrf hee hX hr4 HR4 hXl
      go_wp2_with fail
      refine (clone_any A2 n2 c2 s _ (H2.out.on HBW4.out) (by omega)).mono ?_
      rintro e w5 ⟨v5, rfl, ho5, hb5⟩
      obtain ⟨g, c5, cur, hv, hbase, hg, hlc, hcm, hcs, htake⟩ := ho5.form (by have := HSL.out; omega)
      rw [HSL.out] at hv hlc
      rw [hv]
      obtain ⟨A4, rfl⟩ : ∃ a, A4 = some a := by
        obtain ⟨b, off, e, _⟩ := HR4b.out.2.2.2.2 (by omega)
        exact ⟨_, e⟩
      have hcp := run_copy_row (P := Tryz.prog) w5 42 42 3 5 g p (n2 - p) (c5 - p) A4 m4 c4 cur 5 (X.map bv) Tryz.underlying42 size8 hg (by rw [List.length_map, HXL.out]; exact (Nat.min_eq_left (by omega)).symm) (HR4b.out.on hb5).cells (by rw [List.length_map, HXL.out, hcs]; omega) bv_mem
      have s1 : ¬ c5 = p := by omega
      have s2 : p ≤ c5 := by omega
      have s3 : (p : Int) ≤ (n2 : Int) := by omega
      have s4 : p ≤ n2 := by omega
      obtain ⟨w6, hw6⟩ : ∃ w6, w6 = w5.setRow g (cur.toList.take p ++ X.map bv ++ cur.toList.drop (p + (X.map bv).length)).toArray := ⟨_, rfl⟩
      rw [← hw6] at hcp
      have hg6 : w6.heap[g]? = some (.cells (splice cur.toList p (X.map bv)).toArray 5 (0, 0)) := by
        rw [hw6]; have := setRow_heap w5 g cur (cur.toList.take p ++ X.map bv ++ cur.toList.drop (p + (X.map bv).length)).toArray 5 (0, 0) hg
        rw [this]; simp [splice]
      have hown := own_set (xs := X) (l := s) (base := w.heap.size) (cap := c5) hg6 (Nat.le_trans HBW4.out.size hbase) (by rw [HXL.out, HSL.out]; exact hpm) (by rw [HSL.out]; exact hlc) hcm (by simpa using hcs) htake
      rw [HSL.out] at hown
      have HOW := hid hown
      have HB6 : Hid (Below w.heap.size w w6) := by rw [hw6]; exact below_setRow (Bt HBW4.out hb5) (Nat.le_trans HBW4.out.size hbase) _
      clear hown hg6 hw6 ho5 hv hg htake hcs hbase hb5
      go_wp2_with fail
      go_ret2
      exact ⟨_, by rw [HE2.out]; rfl, by rw [HE2.out]; exact HOW.out, HB6.out⟩
end Go.Proofs.YtjodbopnibdolaaGreat

namespace Go.Proofs.YtjodbopnibdolaaGreat
open Go.RowKit
set_option linter.unusedVariables false

theorem wpList_appG {P : Program} {w w' : World} {ops : Array Oper} {rest : List Oper} {o : Oper} {a : Act} {Q : Exit → Act → World → Prop} {v v' u : Value} {t1 t2 : TypeId} (hgd : o.guard = none) (s x : Operand)
    (hop : o.op = .call { callee := .builtin .append, args := #[s, x], argTypes := #[t1, t2] }) (hs : a.eval s = v) (hx : a.eval x = u)
    (hrun : (Builtin.append_ #[t1, t2] o.type #[v, u]).run P w = .ok v' w') (hk : wpList P ops Q rest (a.put o.dst v') w') : wpList P ops Q (o :: rest) a w := by
  refine wpList_plain hgd fun K hK => ?_
  unfold Oper.wp execOp
  simp only [hop, resolve, invoke, builtin, Sem.run_bind, Sem.run_pure, Result.andThen_ok, List.map_toArray, List.map_cons, List.map_nil, hs, hx, hrun]
  exact hK _ _ hk
theorem strCells_bs (x : List UInt8) : Lib.strCells (bs x) = x.map bv := by
  simp [Lib.strCells, bv]
/-- append(v, s...) of a text. -/
theorem run_appS8 {w : World} {base : Nat} {v : Value} {xs : List UInt8} (ho : Own w base v xs) (x : List UInt8) (hb : base ≤ w.heap.size) (hlen : xs.length + x.length ≤ 140737488355328) (ty : TypeId) :
    ∃ v' w', (Builtin.append_ #[42, 9] ty #[v, .string (bs x)]).run Tryz.prog w = .ok v' w' ∧ Own w' base v' (xs ++ x) ∧ w.grownBy w' v.ownBlock := by
  have hi8 := info8
  cases hi : Tryz.prog.info? 5 with
  | none => rw [hi] at hi8; cases hi8
  | some i =>
    rw [hi] at hi8
    simp only [Option.map_some, Option.some.injEq, Prod.mk.injEq] at hi8
    obtain ⟨hz, hs, hby⟩ := hi8
    have hsz : (bs x).size = x.length := rfl
    obtain ⟨v', w', hr, how, hg, _⟩ := Lib.run_append_own_string (P := Tryz.prog) (w := w) base 42 9 ty 5 i Tryz.underlying42 Tryz.underlying9 hi hz hs hby v xs.length (xs.map bv) ho (bs x) (by rw [hsz]; unfold maxLen; omega) (by rw [hsz]; omega) hb
    refine ⟨v', w', hr, ?_, hg⟩
    unfold Own; rw [List.length_append, List.map_append, ← strCells_bs, ← hsz]; exact how
section
variable {w w' : World} {base : Nat} {v : Value} {l : List UInt8}
theorem Own.blk2 (h : Own w base v l) : ∀ r, v.ownBlock = some r → base ≤ r ∧ ∃ cs, w.heap[r]? = some (.cells cs 5 (0, 0)) := by
  intro j hj
  rcases h.2 with ⟨e, _⟩ | ⟨g, cap, cur, e, hbase, hg, _⟩
  · rw [e] at hj; simp [Value.ownBlock] at hj
  · rw [e] at hj; simp [Value.ownBlock] at hj; subst hj; exact ⟨hbase, _, hg⟩
theorem Own.shape2 (h : Own w base v l) : ∃ A n c, v = .slice A n c := by
  rcases h.2 with ⟨e, _⟩ | ⟨g, cap, cur, hv, _⟩
  · exact ⟨_, _, _, e⟩
  · exact ⟨_, _, _, hv⟩
end

/-- What the loop of Encode knows of its world. -/
structure ES (w W : World) (q : Nat) (f : Fd) (v : Value) (X : List UInt8) : Prop where
  ow : Own W w.heap.size v X
  fb : FB W q (bs f.nm) f.k f.g
  bl : Below w.heap.size w W
section
variable {w W W' : World} {q : Nat} {f : Fd} {v v' : Value} {X Y : List UInt8}
theorem ES.on (h : ES w W q f v X) (hb : Below W.heap.size W W') : ES w W' q f v X := ⟨h.ow.grown hb, h.fb.on hb, h.bl.trans (hb.mono h.bl.size)⟩
theorem ES.app (h : ES w W q f v X) (hg : W.grownBy W' v.ownBlock) (ho : Own W' w.heap.size v' Y) : ES w W' q f v' Y :=
  ⟨ho, (hg.block q h.fb.lt (fun e => by
    obtain ⟨_, cs, hc⟩ := h.ow.blk2 q e.symm
    have := h.fb; unfold FB at this; rw [hc] at this; cases this)).trans h.fb, h.bl.grown hg h.bl.size (fun j e => (h.ow.blk2 j e).1)⟩
end

end Go.Proofs.YtjodbopnibdolaaGreat

namespace Go.Proofs.YtjodbopnibdolaaGreat
open Go.RowKit
set_option linter.unusedVariables false

section
variable {w w' : World} {b b' B : Nat} {v1 v2 v3 v : Value} {ty : TypeId}
theorem TBx.frozen (h : TBx w b v1 v2 v3 ty) (i : Nat) : w.frozen? ⟨b, i, none⟩ = false := row_frozen h i
theorem TBx.set0 (h : TBx w b v1 v2 v3 ty) (v : Value) : TBx (w.setCell ⟨b, 0, none⟩ v) b v v2 v3 ty := row_set h 0 _
theorem TBx.set1 (h : TBx w b v1 v2 v3 ty) (v : Value) : TBx (w.setCell ⟨b, 1, none⟩ v) b v1 v v3 ty := row_set h 1 _
theorem TBx.set2 (h : TBx w b v1 v2 v3 ty) (v : Value) : TBx (w.setCell ⟨b, 2, none⟩ v) b v1 v2 v ty := row_set h 2 _
theorem TBx.set3 (h : TBx w b v1 v2 v3 ty) (u1 u2 u3 : Value) : TBx (((w.setCell ⟨b, 0, none⟩ u1).setCell ⟨b, 1, none⟩ u2).setCell ⟨b, 2, none⟩ u3) b u1 u2 u3 ty := ((h.set0 u1).set1 u2).set2 u3
theorem TBx.other (h : TBx w b v1 v2 v3 ty) (hne : b ≠ b') (i : Nat) (u : Value) : TBx (w.setCell ⟨b', i, none⟩ u) b v1 v2 v3 ty := (Below.heap_setCell w ⟨b', i, none⟩ u b hne).trans h
theorem TBx.other3 (h : TBx w b v1 v2 v3 ty) (hne : b ≠ b') (u1 u2 u3 : Value) : TBx (((w.setCell ⟨b', 0, none⟩ u1).setCell ⟨b', 1, none⟩ u2).setCell ⟨b', 2, none⟩ u3) b v1 v2 v3 ty := ((h.other hne 0 u1).other hne 1 u2).other hne 2 u3
theorem MB.frozen {m : Mv} (h : MB w b m ty) (i : Nat) : w.frozen? ⟨b, i, none⟩ = false := row_frozen h i
theorem MB.other {m : Mv} (h : MB w b m ty) (hne : b ≠ b') (i : Nat) (u : Value) : MB (w.setCell ⟨b', i, none⟩ u) b m ty := (Below.heap_setCell w ⟨b', i, none⟩ u b hne).trans h
theorem RdF.set {A : Option Addr} {n c : Nat} {l : List Fd} (h : RdF w B A n c l) {g : Nat} (hg : B ≤ g) (i : Nat) (u : Value) : RdF (w.setCell ⟨g, i, none⟩ u) B A n c l := h.below ((Below.refl B w).setCell (p := ⟨g, i, none⟩) hg u)
theorem RdM.set {A : Option Addr} {n c : Nat} {l : List Mv} (h : RdM w B A n c l) {g : Nat} (hg : B ≤ g) (i : Nat) (u : Value) : RdM (w.setCell ⟨g, i, none⟩ u) B A n c l := h.below ((Below.refl B w).setCell (p := ⟨g, i, none⟩) hg u)
/-- A row made since stands where cells of another block turn. -/
theorem TBx.grown {row : Option Nat} (h : TBx w b v1 v2 v3 ty) (hg : w.grownBy w' row) (hne : some b ≠ row) : TBx w' b v1 v2 v3 ty := (hg.block _ (row_lt h) hne).trans h
end
theorem RdT.nil (w : World) (B : Nat) : RdT w B (.agg #[.slice none 0 0, .slice none 0 0, .slice none 0 0]) Tb.none := ⟨Option.none, 0, 0, Option.none, 0, 0, Option.none, 0, 0, rfl, RdF.nil _ _, RdF.nil _ _, RdM.nil _ _⟩

/-- A table that a loop makes: block q holds it, its moves are the call's own. -/
structure MkT (w W : World) (q : Nat) (ty me : TypeId) (v1 v2 v : Value) (B : Nat) (l : List Mv) : Prop where
  tb : TBx W q v1 v2 v ty
  ow : OwM W B me v l
  bl : Below w.heap.size w W
  qb : q < B
  wq : w.heap.size ≤ q
  az : B ≤ W.heap.size
section
variable {w W W' : World} {q B : Nat} {ty me : TypeId} {v1 v2 v v' : Value} {l l' : List Mv}
theorem MkT.on (h : MkT w W q ty me v1 v2 v B l) (hb : Below W.heap.size W W') : MkT w W' q ty me v1 v2 v B l :=
  ⟨h.tb.on hb, h.ow.on hb, h.bl.trans (hb.mono h.bl.size), h.qb, h.wq, Nat.le_trans h.az hb.size⟩
theorem MkT.app (h : MkT w W q ty me v1 v2 v B l) (hg : W.grownBy W' v.ownBlock) (ho : OwM W' B me v' l') : MkT w (W'.setCell ⟨q, 2, none⟩ v') q ty me v1 v2 v' B l' :=
  ⟨(h.tb.grown hg (fun e => by have := (h.ow.blk2 q e.symm).1; have := h.qb; omega)).set2 v', ho.set h.qb 2 _,
    ((h.bl.grown hg h.bl.size (fun j e => Nat.le_trans (Nat.le_trans h.wq (Nat.le_of_lt h.qb)) (h.ow.blk2 j e).1)).setCell (p := ⟨q, 2, none⟩) h.wq _), h.qb, h.wq, by simp only [size_set]; exact Nat.le_trans h.az hg.size⟩
end

/-- Numbers of moves are whole numbers. -/
theorem self_I64 {n : Nat} (h : n ≤ 1000000) : ∀ m ∈ selfL n, I64 m.fr ∧ I64 m.k ∧ U64 m.n := fun m hm => by
  simp only [selfL, List.mem_map, List.mem_range] at hm
  obtain ⟨i, hi, rfl⟩ := hm
  exact ⟨i64_iff.2 ⟨by show (-9223372036854775808 : Int) ≤ (i : Int); omega, by show (i : Int) ≤ 9223372036854775807; omega⟩, i64_iff.2 ⟨by show (-9223372036854775808 : Int) ≤ 0; omega, by show (0 : Int) ≤ 9223372036854775807; omega⟩, ⟨Int.le_refl _, by show (0 : Int) < pw 8; decide⟩⟩

end Go.Proofs.YtjodbopnibdolaaGreat
