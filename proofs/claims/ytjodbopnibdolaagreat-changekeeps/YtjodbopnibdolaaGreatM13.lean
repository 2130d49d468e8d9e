/-
  The document's Right, Layout, Refs of layer 6.
  Moves and tables in memory; the document's Right of layer 7.
  The document's Refs and Get of layer 6.
  The document's Get of layer 6.
-/
import Derived.Test.YtjodbopnibdolaaGreatM5
import Derived.Test.YtjodbopnibdolaaGreatM12
import Derived.Test.YtjodbopnibdolaaGreatM3

namespace Go.Proofs.YtjodbopnibdolaaGreat
open Go.RowKit
set_option linter.unusedVariables false

/-- All names are short. -/
def short (l : List Fd) : Prop := ∀ f ∈ l, f.nm.length ≤ 100000
theorem right_no {l : List Fd} {i : Nat} {f : Fd} (hi : l[i]? = some f) (h : ¬ (nameB f.nm = true ∧ f.may = true ∧ findN l f.nm = some i)) : rightL l = false := by
  cases hr : rightL l with
  | false => rfl
  | true => exact absurd ((rightL_iff.1 hr).2 i f hi) h
set_option maxHeartbeats 2000000 in
theorem r6right_any {w : World} {A : Option Addr} {n c : Nat} {l : List Fd} (h : RdF w w.heap.size A n c l) (hs : short l) :
    Calls Tryz.prog 5 #[.slice A n c] w fun e w' => e = .returned (.bool (rightL l)) ∧ Below w.heap.size w w' := by
  have HL := hid h.1
  have hnm : (n : Int) ≤ 9223372036854775807 := by have := Nat.le_trans h.2.1 h.2.2.1; unfold maxLen at this; omega
  have H := hid h; have HS := hid hs; clear h hs
  go_enter Tryz.func5, Tryz.ntmps5
  go_wp2_with fail
  go_loopw [3] (fun i wr => ∃ j : Nat, j ≤ n ∧ i = .int .i64 j ∧ Hid (∀ m, m < j → ∀ f, l[m]? = some f → nameB f.nm = true ∧ f.may = true ∧ findN l f.nm = some m) ∧ Hid (Below w.heap.size w wr)) (fun i _ => n - (intOf i).toNat)
  case atStart => exact ⟨0, by omega, rfl, hid (fun m hm => absurd hm (by omega)), B0 w⟩
  case round =>
    obtain ⟨j, hj, rfl, HA, HB⟩ := hrel
    by_cases hlt : j < n
    · have hjl : j < l.length := by have := HL.out; omega
      obtain ⟨f, hf⟩ : ∃ f, l[j]? = some f := ⟨_, List.getElem?_eq_getElem hjl⟩
      obtain ⟨_, _, _, _, b, off, rfl, hc⟩ := H.out.at hf
      have HF := hid hf; have HC := hid hc
      have hsf : f.nm.length ≤ 100000 := HS.out f (List.mem_of_getElem? hf)
      have HSF := hid hsf
      obtain ⟨c0, c1, c2⟩ := hc wr HB.out
      have hji : (j : Int) < n := by omega
      have hj0 : (0 : Int) ≤ j := by omega
      obtain ⟨nb, hnb⟩ : ∃ nb, nb = nameB f.nm := ⟨_, rfl⟩
      obtain ⟨mb, hmb⟩ : ∃ mb, mb = f.may := ⟨_, rfl⟩
      have HNB := hid hnb; have HMB : Hid (mb = mayF f.k f.g) := hmb
      clear hc hjl hf hsf hnb hmb
      cases nb with
      | false =>
        have HE : Hid (rightL l = false) := right_no HF.out (by rw [← HNB.out]; simp)
        go_wp2_with fail
        refine (r6name_any f.nm HSF.out).mono ?_
        rintro e w1 ⟨rfl, hb1⟩
        rw [← HNB.out]
        have HB1 := hid (Bt HB.out hb1)
        clear hb1 c0 c1 c2
        go_wp2_with fail
        go_ret
        exact ⟨by rw [HE.out]; rfl, HB1.out⟩
      | true =>
        go_wp2_with fail
        refine (r6name_any f.nm HSF.out).mono ?_
        rintro e w1 ⟨rfl, hb1⟩
        rw [← HNB.out]
        have HB1 := hid (Bt HB.out hb1)
        obtain ⟨c0, c1, c2⟩ := HC.out w1 HB1.out
        clear hb1
        cases mb with
        | false =>
          have HE : Hid (rightL l = false) := right_no HF.out (by rw [show f.may = false from HMB.out.symm]; simp)
          go_wp2_with fail
          refine (rmay_any (bs f.nm) f.k f.g w1).mono ?_
          rintro e w2 ⟨rfl, hb2⟩
          rw [← HMB.out]
          have HB2 := hid (Bt HB1.out hb2)
          clear hb2 c0 c1 c2
          go_wp2_with fail
          go_ret
          exact ⟨by rw [HE.out]; rfl, HB2.out⟩
        | true =>
          go_wp2_with fail
          refine (rmay_any (bs f.nm) f.k f.g w1).mono ?_
          rintro e w2 ⟨rfl, hb2⟩
          rw [← HMB.out]
          have HB2 := hid (Bt HB1.out hb2)
          obtain ⟨c0, c1, c2⟩ := HC.out w2 HB2.out
          clear hb2
          obtain ⟨q, hq, hqj⟩ := findN_le HF.out
          have HQ := hid hq
          clear hq
          go_wp2_with fail
          refine (r6find_any (H.out.on HB2.out) f.nm).mono ?_
          rintro e w3 ⟨rfl, hb3⟩
          rw [findI_some HQ.out]
          have HB3 := hid (Bt HB2.out hb3)
          clear hb3 c0 c1 c2
          by_cases hqq : q < j
          · have d1 : decide ((q : Int) < (j : Int)) = true := decide_eq_true (by omega)
            have HE : Hid (rightL l = false) := right_no HF.out (by rw [HQ.out]; intro h; have := h.2.2; cases this; omega)
            go_wp2_with fail
            go_ret
            exact ⟨by rw [HE.out]; rfl, HB3.out⟩
          · obtain rfl : q = j := by omega
            go_wp2_with fail
            exact ⟨⟨q + 1, by omega, by go_num, hid (fun m hm f' hf' => by
              by_cases e : m = q
              · subst e; rw [HF.out] at hf'; cases hf'; exact ⟨HNB.out.symm, HMB.out.symm, HQ.out⟩
              · exact HA.out m (by omega) f' hf'), HB3⟩, by simp [intOf]; omega⟩
    · obtain rfl : j = n := by omega
      have HE : Hid (rightL l = decide ((j : Int) < 17)) := by
        show _ = _
        rw [Bool.eq_iff_iff, rightL_iff, decide_eq_true_eq]
        refine ⟨fun h => by have := h.1; have := HL.out; omega, fun h => ⟨by have := HL.out; omega, fun i f hi => ?_⟩⟩
        refine HA.out i ?_ f hi
        have := HL.out
        by_cases cc : i < l.length
        · omega
        · rw [List.getElem?_eq_none (by omega)] at hi; cases hi
      go_wp2_with fail
      go_ret
      exact ⟨by rw [HE.out]; rfl, HB.out⟩

/-! ### rows of numbers of the call's own -/
def iv (x : Int) : Value := .int .i64 x
def OwI (w : World) (base : Nat) (v : Value) (l : List Int) : Prop := w.ownsRow base 3 1 v l.length (l.map iv)
theorem OwI.nil (w : World) (base : Nat) : OwI w base (.slice none 0 0) [] := World.ownsRow_nil _ _ _ _
section
variable {w w' : World} {base : Nat} {v : Value} {l : List Int}
theorem OwI.on (h : OwI w base v l) (hb : Below w.heap.size w w') : OwI w' base v l := by
  refine ⟨h.1, ?_⟩
  rcases h.2 with h1 | ⟨g, cap, cur, hv, hbase, hg, h3⟩
  · exact .inl h1
  · exact .inr ⟨g, cap, cur, hv, hbase, (hb.block g (row_lt hg)).trans hg, h3⟩
theorem OwI.row (h : OwI w base v l) : ∀ j, v.ownBlock = some j → base ≤ j := by
  intro j hj
  rcases h.2 with ⟨e, _⟩ | ⟨g, cap, cur, e, hbase, _⟩
  · rw [e] at hj; simp [Value.ownBlock] at hj
  · rw [e] at hj; simp [Value.ownBlock] at hj; omega
theorem OwI.rd (h : OwI w base v l) (hx : ∀ x ∈ l, I64 x) : ∃ A cap, v = .slice A l.length cap ∧ RdI w w.heap.size A l.length cap l := by
  rcases h.2 with ⟨rfl, hn⟩ | ⟨g, cap, cur, rfl, hbase, hg, hnc, hm, hs, hl⟩
  · have : l = [] := List.eq_nil_of_length_eq_zero hn
    subst this
    exact ⟨none, 0, rfl, RdI.nil _ _⟩
  · refine ⟨some ⟨g, 0, none⟩, cap, rfl, rfl, hnc, hm, hx, fun hn => ⟨g, 0, rfl, row_lt hg, fun i hi => ?_⟩⟩
    rw [Nat.zero_add, row_cell hg]
    have h2 : (cur.toList.take (l.length * 1))[i]? = some (iv l[i]) := by rw [hl]; simp [hi]
    rw [Nat.mul_one, List.getElem?_take_of_lt hi] at h2
    simpa [iv] using h2
end
theorem infoI : (Tryz.prog.info? 3).map (fun i => (i.zero, i.size, i.bytes)) = some (some (.int .i64 0), 1, 8) := by kernel_rfl
/-- append(v, x). -/
theorem run_appI {w : World} {base : Nat} {v : Value} {l : List Int} (h : OwI w base v l) (x : Int) (hlen : l.length ≤ 1000000) (hb : base ≤ w.heap.size) (ty : TypeId) :
    ∃ v' w', (Builtin.append_ #[50, 50] ty #[v, .slice (some ⟨w.heap.size, 0, none⟩) 1 1]).run Tryz.prog (w.alloc (.cells #[.int .i64 x] 3)) = .ok v' w' ∧ OwI w' base v' (l ++ [x]) ∧ Below base (w.alloc (.cells #[.int .i64 x] 3)) w' := by
  have hi8 := infoI
  have hk : Below w.heap.size w (w.alloc (.cells #[.int .i64 x] 3)) := B1 _ _
  cases hi : Tryz.prog.info? 3 with
  | none => rw [hi] at hi8; cases hi8
  | some i =>
    rw [hi] at hi8
    simp only [Option.map_some, Option.some.injEq, Prod.mk.injEq] at hi8
    obtain ⟨hz, hsz, hby⟩ := hi8
    obtain ⟨v', W', hr, ho, hg, hnil⟩ := run_append_own (P := Tryz.prog) (w.alloc (.cells #[.int .i64 x] 3)) base 50 ty 3 i (.int .i64 0) 1 8 Tryz.underlying50 hi hz hsz hby rfl (by omega) v l.length (l.map iv) (h.on hk) ⟨w.heap.size, 0, none⟩ 1 1 [iv x] rfl (fun j u hj => by rw [add_plain, Nat.zero_add, row_cell (heap_alloc_new w _)]; match j, hj with | 0, h => exact h) (by intro u hu; simp at hu; subst hu; rfl) (by unfold maxLen; omega) (by omega) (Nat.le_trans hb hk.size)
    refine ⟨v', W', hr, ?_, (Below.refl _ _).grown hg (Nat.le_trans hb hk.size) (fun j hj => h.row j hj)⟩
    unfold OwI
    rw [List.length_append, List.map_append]; exact ho
theorem wpList_appI {w w' : World} {ops : Array Oper} {rest : List Oper} {o : Oper} {a : Act} {Q : Exit → Act → World → Prop} {v v' u : Value} (hgd : o.guard = none) (s x : Operand)
    (hop : o.op = .call { callee := .builtin .append, args := #[s, x], argTypes := #[50, 50] }) (hs : a.eval s = v) (hx : a.eval x = u)
    (hrun : (Builtin.append_ #[50, 50] o.type #[v, u]).run Tryz.prog w = .ok v' w') (hk : wpList Tryz.prog ops Q rest (a.put o.dst v') w') : wpList Tryz.prog ops Q (o :: rest) a w := by
  refine wpList_plain hgd fun K hK => ?_
  unfold Oper.wp execOp
  simp only [hop, resolve, invoke, builtin, Sem.run_bind, Sem.run_pure, Result.andThen_ok, List.map_toArray, List.map_cons, List.map_nil, hs, hx, hrun]
  exact hK _ _ hk

def layL (l : List Fd) : List Int := if rightL l then layP 0 l else []
def layT (l : List Fd) : Int := if rightL l then layN l else 0
def LayQ (w : World) (l : List Fd) (e : Ending) (w' : World) : Prop := ∃ v, e = .returned (.tuple #[v, .int .i64 (layT l)]) ∧ OwI w' w.heap.size v (layL l) ∧ Below w.heap.size w w'
theorem up8_first {a z : Int} (h1 : a ≤ z) (h2 : z ≤ up8 a) (h3 : z % 8 = 0) : z = up8 a := by unfold up8 at *; omega
set_option maxRecDepth 20000 in
set_option maxHeartbeats 4000000 in
theorem r6layout_any {w : World} {A : Option Addr} {n c : Nat} {l : List Fd} (h : RdF w w.heap.size A n c l) (hs : short l) :
    Calls Tryz.prog 28 #[.slice A n c] w (LayQ w l) := by
  have HL := hid h.1
  have H := hid h; have HS := hid hs; clear h hs
  cases hr : rightL l with
  | false =>
    have HE : Hid (layL l = [] ∧ layT l = 0) := by refine ⟨?_, ?_⟩ <;> (first | unfold layL | unfold layT) <;> rw [hr] <;> rfl
    have HR := hid hr
    clear hr
    go_enter Tryz.func28, Tryz.ntmps28
    go_wp2_with fail
    refine (r6right_any H.out HS.out).mono ?_
    rintro e w1 ⟨rfl, hb1⟩
    rw [HR.out]
    go_wp2_with fail
    go_ret2
    exact ⟨_, by rw [HE.out.2]; rfl, by rw [HE.out.1]; exact OwI.nil _ _, hb1⟩
  | true =>
    have HE : Hid (layL l = layP 0 l ∧ layT l = layN l) := by refine ⟨?_, ?_⟩ <;> (first | unfold layL | unfold layT) <;> rw [hr] <;> rfl
    have HR := hid hr
    have HM := hid (right_may hr)
    have hn16 : (n : Int) ≤ 16 := by have := right_len hr; have := HL.out; omega
    have HBD : Hid (∀ j, 0 ≤ layE 0 (l.take j) ∧ layE 0 (l.take j) ≤ 1152) := fun j => by
      have h1 := layE_bounds (l.take j) 0 (fun f hf => right_may hr f (List.mem_of_mem_take hf)) (Int.le_refl _)
      have h2 : (l.take j).length ≤ 16 := by have := right_len hr; rw [List.length_take]; omega
      omega
    clear hr
    go_enter Tryz.func28, Tryz.ntmps28
    go_wp2_with fail
    refine (r6right_any H.out HS.out).mono ?_
    rintro e w1 ⟨rfl, hb1⟩
    rw [HR.out]
    have HB1 := hid hb1; clear hb1
    go_wp2_with fail
    go_loopw [4, 5, 6] (fun v a i wr => ∃ (j : Nat) (z : Int), j ≤ n ∧ i = .int .i64 j ∧ a = .int .i64 z ∧ Hid (z = layE 0 (l.take j)) ∧ Hid (OwI wr w.heap.size v (layP 0 (l.take j))) ∧ Hid (Below w.heap.size w wr)) (fun _ _ i _ => n - (intOf i).toNat)
    case atStart => exact ⟨0, 0, by omega, rfl, rfl, hid rfl, hid (OwI.nil _ _), HB1⟩
    case round =>
      obtain ⟨j, z0, hj, rfl, rfl, HZ0, HO, HB⟩ := hrel
      by_cases hlt : j < n
      · have hjl : j < l.length := by have := HL.out; omega
        obtain ⟨f, hf⟩ : ∃ f, l[j]? = some f := ⟨_, List.getElem?_eq_getElem hjl⟩
        obtain ⟨_, _, _, _, b, off, rfl, hc⟩ := H.out.at hf
        have HF := hid hf; have HC := hid hc
        have hfm := HM.out f (List.mem_of_getElem? hf)
        have HFM := hid hfm
        have hz0 : 0 ≤ z0 ∧ z0 ≤ 1152 := by rw [HZ0.out]; exact HBD.out j
        obtain ⟨hz00, hz01⟩ := hz0
        obtain ⟨P, hP⟩ : ∃ P, P = placeF z0 f := ⟨_, rfl⟩
        obtain ⟨L, hL⟩ : ∃ L, L = longF f.k f.g := ⟨_, rfl⟩
        have hpg := place_ge hfm hz00
        have hlp : 1 ≤ L ∧ L ≤ 64 := by rw [hL]; exact long_pos hfm
        rw [← hP] at hpg
        have HP := hid hP; have HLL := hid hL; have HPG := hid hpg
        obtain ⟨hl1, hl64⟩ := hlp
        have hP0 : z0 ≤ P := hpg.1
        have hP1 : P < z0 + 8 := hpg.2.1
        have hji : (j : Int) < n := by omega
        have hj0 : (0 : Int) ≤ j := by omega
        clear hc hjl hf hfm hP hL hpg
        go_wp2_with fail
        go_loopw [5] (fun a wr' => ∃ z : Int, z0 ≤ z ∧ z ≤ P ∧ a = .int .i64 z ∧ Hid (Below wr.heap.size wr wr')) (fun a _ => (P - intOf a).toNat)
        case atStart => exact ⟨z0, by omega, by omega, rfl, B0 _⟩
        case round =>
          obtain ⟨z, hz1, hz2, rfl, HBz⟩ := hrel
          have HBW := hid (Bt HB.out HBz.out)
          obtain ⟨c0, c1, c2⟩ := HC.out wr HBW.out
          by_cases h12 : f.k = 12
          · have hzP : z = P := by
              have h1 : P = z0 := by rw [HP.out]; unfold placeF; rw [if_pos h12]
              omega
            subst hzP
            have t12 : (f.k != 12) = false := by rw [h12]; rfl
            have t12' : (f.k == 12) = true := by rw [h12]; rfl
            clear h12
            obtain ⟨v', w3, hrun, hown, hbw⟩ := run_appI (HO.out.on HBz.out) z (by rw [layP_length, List.length_take]; omega) HBW.out.size 50
            have HRUN := hid hrun; have HOW := hid hown
            have HB3 : Hid (Below w.heap.size w w3) := HBW.out.trans (((Below.refl _ _).alloc HBW.out.size _).trans hbw)
            obtain ⟨d0, d1, d2⟩ := HC.out w3 HB3.out
            have q1 : IntKind.i64.wrap (z + L) = z + L := by rw [IntKind.wrap_i64]; omega
            clear hrun hown hbw
            go_wp2_with (at_builtin; refine wpList_appI rfl _ _ rfl rfl rfl HRUN.out ?_)
            refine (rlong_any (bs f.nm) f.k f.g w3).mono ?_
            rintro e w4 ⟨rfl, hb4⟩
            rw [← HLL.out]
            have HB4 := hid (Bt HB3.out hb4); have HO4 := hid (HOW.out.on hb4)
            clear hb4 c0 c1 c2 d0 d1 d2
            go_wp2_with fail
            go_roundw
            case rel => exact ⟨j + 1, z + L, by omega, by simp, rfl, hid (by rw [layE_take HF.out, ← HZ0.out, ← HP.out, HLL.out]; rfl), hid (by rw [layP_take HF.out, ← HZ0.out, ← HP.out]; exact HO4.out), HB4⟩
            case measure => simp [intOf]; omega
          · have t12 : (f.k != 12) = true := by simpa using h12
            have t12' : (f.k == 12) = false := by simpa using h12
            have hL0 : (L == 0) = false := by rw [beq_eq_false_iff_ne]; omega
            have hLn : L ≠ 0 := by omega
            have tmod : z.tmod L = z % L := Int.tmod_eq_emod_of_nonneg (by omega)
            by_cases hzP : z < P
            · have hne : z % L ≠ 0 := fun h => by
                have := place_first HFM.out h12 hz00 hz1 (by rw [← HP.out]; omega) (by show z % f.long = 0; rw [show f.long = L from HLL.out.symm]; exact h)
                rw [← HP.out] at this; omega
              have tne : (z % L != 0) = true := by simpa using hne
              clear hne h12
              go_wp2_with fail
              refine (rlong_any (bs f.nm) f.k f.g wr).mono ?_
              rintro e w4 ⟨rfl, hb4⟩
              rw [← HLL.out]
              have HB4 := hid (Bt HBz.out hb4)
              clear hb4 c0 c1 c2
              go_wp2_with fail
              exact ⟨⟨z + 1, by omega, by omega, by go_num, HB4⟩, by simp [intOf]; omega⟩
            · obtain rfl : z = P := by omega
              have heq : z % L = 0 := by
                have := (HPG.out.2.2 h12).1
                rw [show f.long = L from HLL.out.symm] at this; exact this
              have tne : (z % L != 0) = false := by rw [heq]; rfl
              clear heq h12
              go_wp2_with fail
              refine (rlong_any (bs f.nm) f.k f.g wr).mono ?_
              rintro e w4 ⟨rfl, hb4⟩
              rw [← HLL.out]
              have HB4 := hid (Bt HBW.out hb4)
              obtain ⟨v', w3, hrun, hown, hbw⟩ := run_appI (HO.out.on (Bt HBz.out hb4)) z (by rw [layP_length, List.length_take]; omega) HB4.out.size 50
              have HRUN := hid hrun; have HOW := hid hown
              have HB3 : Hid (Below w.heap.size w w3) := HB4.out.trans (((Below.refl _ _).alloc HB4.out.size _).trans hbw)
              obtain ⟨d0, d1, d2⟩ := HC.out w3 HB3.out
              have q1 : IntKind.i64.wrap (z + L) = z + L := by rw [IntKind.wrap_i64]; omega
              clear hrun hown hbw hb4 c0 c1 c2
              go_wp2_with (at_builtin; refine wpList_appI rfl _ _ rfl rfl rfl HRUN.out ?_)
              refine (rlong_any (bs f.nm) f.k f.g w3).mono ?_
              rintro e w5 ⟨rfl, hb5⟩
              rw [← HLL.out]
              have HB5 := hid (Bt HB3.out hb5); have HO5 := hid (HOW.out.on hb5)
              clear hb5 d0 d1 d2
              go_wp2_with fail
              go_roundw
              case rel => exact ⟨j + 1, z + L, by omega, by simp, rfl, hid (by rw [layE_take HF.out, ← HZ0.out, ← HP.out, HLL.out]; rfl), hid (by rw [layP_take HF.out, ← HZ0.out, ← HP.out]; exact HO5.out), HB5⟩
              case measure => simp [intOf]; omega
      · obtain rfl : j = n := by omega
        have et : l.take j = l := by rw [← HL.out]; exact List.take_length
        have hz0 : 0 ≤ z0 ∧ z0 ≤ 1152 := by rw [HZ0.out]; exact HBD.out j
        rw [et] at HZ0 HO
        obtain ⟨hz00, hz01⟩ := hz0
        have hup := up8_ge z0
        obtain ⟨P, hP⟩ : ∃ P, P = up8 z0 := ⟨_, rfl⟩
        rw [← hP] at hup
        have HP := hid hP; have HU := hid hup
        have hP0 : z0 ≤ P := hup.1
        have hP1 : P < z0 + 8 := hup.2.1
        clear hP hup et
        go_wp2_with fail
        go_loopw [5] (fun a wr' => ∃ z : Int, z0 ≤ z ∧ z ≤ P ∧ a = .int .i64 z ∧ Hid (Below wr.heap.size wr wr')) (fun a _ => (P - intOf a).toNat)
        case atStart => exact ⟨z0, by omega, by omega, rfl, B0 _⟩
        case round =>
          obtain ⟨z, hz1, hz2, rfl, HBz⟩ := hrel
          have tmod : z.tmod 8 = z % 8 := Int.tmod_eq_emod_of_nonneg (by omega)
          by_cases hzP : z < P
          · have hne : z % 8 ≠ 0 := fun h => by
              have := up8_first hz1 (by rw [← HP.out]; omega) h
              rw [← HP.out] at this; omega
            have tne : (z % 8 != 0) = true := by simpa using hne
            clear hne
            go_wp2_with fail
            exact ⟨⟨z + 1, by omega, by omega, by go_num, HBz⟩, by simp [intOf]; omega⟩
          · obtain rfl : z = P := by omega
            have heq : z % 8 = 0 := HU.out.2.2
            have tne : (z % 8 != 0) = false := by rw [heq]; rfl
            clear heq
            go_wp2_with fail
            go_ret2
            exact ⟨_, by rw [HE.out.2, layN, ← HZ0.out, ← HP.out]; rfl, by rw [HE.out.1]; exact HO.out.on HBz.out, Bt HB.out HBz.out⟩
end Go.Proofs.YtjodbopnibdolaaGreat

namespace Go.Proofs.YtjodbopnibdolaaGreat
open Go.RowKit
set_option linter.unusedVariables false

def MvC (w : World) (b off : Nat) (m : Mv) : Prop := w.cell? ⟨b, off, none⟩ = some (.int .i64 m.fr) ∧ w.cell? ⟨b, off + 1, none⟩ = some (.int .i64 m.k) ∧ w.cell? ⟨b, off + 2, none⟩ = some (.int .u64 m.n) ∧ w.cell? ⟨b, off + 3, none⟩ = some (.string m.t)
/-- A slice of moves. -/
def RdM (w : World) (B : Nat) (A : Option Addr) (n cap : Nat) (l : List Mv) : Prop :=
  l.length = n ∧ n ≤ cap ∧ cap ≤ maxLen ∧ (∀ m ∈ l, I64 m.fr ∧ I64 m.k ∧ U64 m.n) ∧ (0 < n → ∃ b off, A = some ⟨b, off, none⟩ ∧ b < B ∧ ∀ i (h : i < l.length), MvC w b (off + i * 4) l[i])
section
variable {w w' : World} {B B' n cap : Nat} {A : Option Addr} {l : List Mv}
theorem MvC.below {b off : Nat} {m : Mv} (h : MvC w b off m) (hb : Below B w w') (hlt : b < B) : MvC w' b off m :=
  ⟨(hb.cell (p := ⟨b, off, none⟩) hlt).trans h.1, (hb.cell (p := ⟨b, off + 1, none⟩) hlt).trans h.2.1, (hb.cell (p := ⟨b, off + 2, none⟩) hlt).trans h.2.2.1, (hb.cell (p := ⟨b, off + 3, none⟩) hlt).trans h.2.2.2⟩
theorem RdM.below (h : RdM w B A n cap l) (hb : Below B w w') : RdM w' B A n cap l :=
  ⟨h.1, h.2.1, h.2.2.1, h.2.2.2.1, fun hn => by
    obtain ⟨b, off, e, hlt, hc⟩ := h.2.2.2.2 hn
    exact ⟨b, off, e, hlt, fun i hi => (hc i hi).below hb hlt⟩⟩
theorem RdM.more (h : RdM w B A n cap l) (hB : B ≤ B') : RdM w B' A n cap l :=
  ⟨h.1, h.2.1, h.2.2.1, h.2.2.2.1, fun hn => by
    obtain ⟨b, off, e, hlt, hc⟩ := h.2.2.2.2 hn
    exact ⟨b, off, e, by omega, hc⟩⟩
theorem RdM.on (h : RdM w w.heap.size A n cap l) (hb : Below w.heap.size w w') : RdM w' w'.heap.size A n cap l := (h.below hb).more hb.size
theorem RdM.nil (w : World) (B : Nat) : RdM w B none 0 0 [] := ⟨rfl, by omega, by simp [maxLen], by simp, fun h => by omega⟩
theorem RdM.at (h : RdM w B A n cap l) {i : Nat} {m : Mv} (hi : l[i]? = some m) : i < n ∧ I64 m.fr ∧ I64 m.k ∧ U64 m.n ∧ ∃ b off, A = some ⟨b, off, none⟩ ∧ ∀ w', Below B w w' → MvC w' b (off + i * 4) m := by
  have hl : i < l.length := (List.getElem?_eq_some_iff.1 hi).1
  rw [List.getElem?_eq_getElem hl] at hi
  cases hi
  obtain ⟨b, off, e, hlt, hc⟩ := h.2.2.2.2 (by have := h.1; omega)
  obtain ⟨h1, h2, h3⟩ := h.2.2.2.1 _ (List.getElem_mem hl)
  exact ⟨by have := h.1; omega, h1, h2, h3, b, off, e, fun w' hb => (hc i hl).below hb hlt⟩
end
/-- A table's three slices. -/
def RdT (w : World) (B : Nat) (v : Value) (T : Tb) : Prop := ∃ A n c A2 n2 c2 A3 n3 c3, v = .agg #[.slice A n c, .slice A2 n2 c2, .slice A3 n3 c3] ∧ RdF w B A n c T.o ∧ RdF w B A2 n2 c2 T.nw ∧ RdM w B A3 n3 c3 T.mv
theorem RdT.on {w w' : World} {v : Value} {T : Tb} (h : RdT w w.heap.size v T) (hb : Below w.heap.size w w') : RdT w' w'.heap.size v T := by
  obtain ⟨A, n, c, A2, n2, c2, A3, n3, c3, e, h1, h2, h3⟩ := h
  exact ⟨A, n, c, A2, n2, c2, A3, n3, c3, e, h1.on hb, h2.on hb, h3.on hb⟩
def shortT (T : Tb) : Prop := short T.o ∧ short T.nw

/-- A box of a move; of a table. -/
def MB (w : World) (b : Nat) (m : Mv) (ty : TypeId) : Prop := w.heap[b]? = some (.cells #[.int .i64 m.fr, .int .i64 m.k, .int .u64 m.n, .string m.t] ty (0, 0))
def TBx (w : World) (b : Nat) (v1 v2 v3 : Value) (ty : TypeId) : Prop := w.heap[b]? = some (.cells #[v1, v2, v3] ty (0, 0))
section
variable {w w' : World} {b B : Nat} {m : Mv} {v1 v2 v3 : Value} {ty : TypeId}
theorem mb_new (w : World) (m : Mv) (ty : TypeId) : MB (w.alloc (.cells #[.int .i64 m.fr, .int .i64 m.k, .int .u64 m.n, .string m.t] ty)) w.heap.size m ty := heap_alloc_new w _
theorem tb_new (w : World) (v1 v2 v3 : Value) (ty : TypeId) : TBx (w.alloc (.cells #[v1, v2, v3] ty)) w.heap.size v1 v2 v3 ty := heap_alloc_new w _
theorem MB.lt (h : MB w b m ty) : b < w.heap.size := row_lt h
theorem TBx.lt (h : TBx w b v1 v2 v3 ty) : b < w.heap.size := row_lt h
theorem MB.below (h : MB w b m ty) (hb : Below B w w') (hlt : b < B) : MB w' b m ty := (hb.block b hlt).trans h
theorem TBx.below (h : TBx w b v1 v2 v3 ty) (hb : Below B w w') (hlt : b < B) : TBx w' b v1 v2 v3 ty := (hb.block b hlt).trans h
theorem MB.on (h : MB w b m ty) (hb : Below w.heap.size w w') : MB w' b m ty := h.below hb h.lt
theorem TBx.on (h : TBx w b v1 v2 v3 ty) (hb : Below w.heap.size w w') : TBx w' b v1 v2 v3 ty := h.below hb h.lt
theorem MB.cells (h : MB w b m ty) : w.cell? ⟨b, 0, none⟩ = some (.int .i64 m.fr) ∧ w.cell? ⟨b, 1, none⟩ = some (.int .i64 m.k) ∧ w.cell? ⟨b, 2, none⟩ = some (.int .u64 m.n) ∧ w.cell? ⟨b, 3, none⟩ = some (.string m.t) := ⟨row_cell h 0, row_cell h 1, row_cell h 2, row_cell h 3⟩
theorem TBx.cells (h : TBx w b v1 v2 v3 ty) : w.cell? ⟨b, 0, none⟩ = some v1 ∧ w.cell? ⟨b, 1, none⟩ = some v2 ∧ w.cell? ⟨b, 2, none⟩ = some v3 := ⟨row_cell h 0, row_cell h 1, row_cell h 2⟩
end

theorem toList_nil {t : ByteArray} (h : t.toList = []) : t.size = 0 := by
  rw [ByteArray.toList_eq] at h
  show t.data.size = 0
  rw [← Array.length_toList, h]; rfl
theorem toList_ne {t : ByteArray} (h : ¬ t.toList = []) : ¬ t.size = 0 := fun e => h (by rw [size_nil t e, ByteArray.toList_eq])
end Go.Proofs.YtjodbopnibdolaaGreat

namespace Go.Proofs.YtjodbopnibdolaaGreat
open Go.RowKit
set_option linter.unusedVariables false

def refP : Int → List Fd → List Int
  | _, [] => []
  | a, f :: l => (if f.k = 11 then [placeF a f] else []) ++ refP (placeF a f + f.long) l
def refL (l : List Fd) : List Int := if rightL l then refP 0 l else []
theorem refP_append : ∀ (l l' : List Fd) (a : Int), refP a (l ++ l') = refP a l ++ refP (layE a l) l' := by
  intro l; induction l with
  | nil => intro l' a; rfl
  | cons f l ih => intro l' a; have := ih l' (placeF a f + f.long); show _ ++ refP (placeF a f + f.long) (l ++ l') = (_ ++ refP (placeF a f + f.long) l) ++ refP (layE (placeF a f + f.long) l) l'; rw [this, List.append_assoc]
theorem refP_take {l : List Fd} {i : Nat} {f : Fd} (h : l[i]? = some f) (a : Int) : refP a (l.take (i + 1)) = refP a (l.take i) ++ (if f.k = 11 then [placeF (layE a (l.take i)) f] else []) := by
  rw [List.take_add_one, h, refP_append]; simp [refP]
theorem refP_le : ∀ (l : List Fd) (a : Int), (refP a l).length ≤ l.length := by
  intro l; induction l with
  | nil => intro a; simp [refP]
  | cons f l ih => intro a; have := ih (placeF a f + f.long); show ((if f.k = 11 then [placeF a f] else []) ++ refP (placeF a f + f.long) l).length ≤ _; rw [List.length_append]; split <;> simp <;> omega
theorem lay_bd {l : List Fd} {x : Int} (hx : x ∈ layL l) : 0 ≤ x ∧ x ≤ 1160 := by
  unfold layL at hx
  cases hr : rightL l with
  | false => rw [hr] at hx; cases hx
  | true =>
    rw [hr] at hx
    have hx : x ∈ layP 0 l := hx
    obtain ⟨i, hi⟩ := List.mem_iff_getElem?.1 hx
    have hil : i < l.length := by
      by_cases c : i < l.length
      · exact c
      · rw [List.getElem?_eq_none (by rw [layP_length]; omega)] at hi; cases hi
    have h1 := lay_in hr (List.getElem?_eq_getElem hil) hi
    have h2 := layN_bounds hr
    have h3 := long_pos (right_may hr _ (List.getElem_mem hil))
    omega
theorem refP_sub : ∀ (l : List Fd) (a : Int), ∀ x ∈ refP a l, x ∈ layP a l := by
  intro l; induction l with
  | nil => intro a x hx; cases hx
  | cons f l ih =>
    intro a x hx
    have hx : x ∈ (if f.k = 11 then [placeF a f] else []) ++ refP (placeF a f + f.long) l := hx
    show x ∈ placeF a f :: layP (placeF a f + f.long) l
    rcases List.mem_append.1 hx with h | h
    · split at h
      · rw [List.mem_singleton] at h; rw [h]; exact List.mem_cons_self
      · cases h
    · exact List.mem_cons_of_mem _ (ih _ x h)
theorem ref_bd {l : List Fd} {x : Int} (hx : x ∈ refL l) : 0 ≤ x ∧ x ≤ 1160 := by
  refine lay_bd (l := l) ?_
  unfold refL at hx; unfold layL
  cases hr : rightL l with
  | false => rw [hr] at hx; cases hx
  | true => rw [hr] at hx; exact refP_sub l 0 x hx
theorem lay_I64 {l : List Fd} : ∀ x ∈ layL l, I64 x := fun x hx => by have := lay_bd hx; exact i64_iff.2 (by omega)
theorem layL_right {l : List Fd} (h : rightL l = true) : layL l = layP 0 l := by unfold layL; rw [h]; rfl
theorem layT_right {l : List Fd} (h : rightL l = true) : layT l = layN l := by unfold layT; rw [h]; rfl
theorem layL_wrong {l : List Fd} (h : rightL l = false) : layL l = [] := by unfold layL; rw [h]; rfl
theorem layT_wrong {l : List Fd} (h : rightL l = false) : layT l = 0 := by unfold layT; rw [h]; rfl
theorem layT_bd (l : List Fd) : 0 ≤ layT l ∧ layT l ≤ 1160 := by
  cases hr : rightL l with
  | false => rw [layT_wrong hr]; omega
  | true => rw [layT_right hr]; have := layN_bounds hr; omega

end Go.Proofs.YtjodbopnibdolaaGreat

namespace Go.Proofs.YtjodbopnibdolaaGreat
open Go.RowKit
set_option linter.unusedVariables false

/-- What is got of a field. -/
def getR (s : List UInt8) (l : List Fd) (nm : List UInt8) : Value :=
  if rightL l = true ∧ (s.length : Int) = layN l then
    match findN l nm with
    | none => .tuple #[.agg #[.int .i64 0, .int .u64 0, .string ⟨#[]⟩], .int .i64 61]
    | some i => match l[i]?, (layP 0 l)[i]? with
      | some f, some p => decR ((s.drop p.toNat).take f.long.toNat) f.k f.g
      | _, _ => undef
  else .tuple #[.agg #[.int .i64 0, .int .u64 0, .string ⟨#[]⟩], .int .i64 60]
theorem getR_form {s : List UInt8} {l : List Fd} {nm : List UInt8} (h : ¬ (rightL l = true ∧ (s.length : Int) = layN l)) : getR s l nm = .tuple #[.agg #[.int .i64 0, .int .u64 0, .string ⟨#[]⟩], .int .i64 60] := by unfold getR; rw [if_neg h]
theorem getR_none {s : List UInt8} {l : List Fd} {nm : List UInt8} (h : rightL l = true ∧ (s.length : Int) = layN l) (hf : findN l nm = none) : getR s l nm = .tuple #[.agg #[.int .i64 0, .int .u64 0, .string ⟨#[]⟩], .int .i64 61] := by unfold getR; rw [if_pos h, hf]
theorem getR_some {s : List UInt8} {l : List Fd} {nm : List UInt8} (h : rightL l = true ∧ (s.length : Int) = layN l) {i : Nat} {f : Fd} {p : Int} (hf : findN l nm = some i) (hi : l[i]? = some f) (hp : (layP 0 l)[i]? = some p) : getR s l nm = decR ((s.drop p.toNat).take f.long.toNat) f.k f.g := by
  unfold getR; rw [if_pos h, hf]; simp only [hi, hp]

theorem VB.set3 {w : World} {b : Nat} {k n : Int} {t : ByteArray} (h : VB w b k n t) (k' n' : Int) (t' : ByteArray) : VB (((w.setCell ⟨b, 0, none⟩ (.int .i64 k')).setCell ⟨b, 1, none⟩ (.int .u64 n')).setCell ⟨b, 2, none⟩ (.string t')) b k' n' t' := ((h.setKind k').setBits n').setText t'
theorem B3 {B b : Nat} {w w' : World} (h : Below B w w') (hb : B ≤ b) (x y z : Value) : Below B w (((w'.setCell ⟨b, 0, none⟩ x).setCell ⟨b, 1, none⟩ y).setCell ⟨b, 2, none⟩ z) := ((h.setCell hb _).setCell hb _).setCell hb _

theorem OwI.blk {w : World} {base b off n c : Nat} {l : List Int} (h : OwI w base (.slice (some ⟨b, off, none⟩) n c) l) : base ≤ b := h.row b rfl
theorem gcell {w w' : World} {r : Option Nat} (hg : w.grownBy w' r) {b : Nat} (i : Nat) (hlt : b < w.heap.size) (hne : some b ≠ r) : w'.cell? ⟨b, i, none⟩ = w.cell? ⟨b, i, none⟩ := by
  unfold World.cell?; rw [hg.block b hlt hne]
theorem ExO.of {r : Option Nat} {w w' : World} (h : Below w.heap.size w w') : ExO r w w' := ⟨h.os, h.tape, h.output, h.size, fun i hi _ => h.block i hi⟩
theorem ExO.set3 {r b : Nat} {w : World} (e : r = b) (x y z : Value) : ExO (some r) w (((w.setCell ⟨b, 0, none⟩ x).setCell ⟨b, 1, none⟩ y).setCell ⟨b, 2, none⟩ z) := by
  subst e; exact grown_set (grown_set (grown_set (grown_refl w (some r)) 0 x) 1 y) 2 z

end Go.Proofs.YtjodbopnibdolaaGreat
