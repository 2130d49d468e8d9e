/-
  The document's Right, Layout, Refs of layer 6.
  The program's Name: a range over a text.
-/
import Derived.Test.YtggfcbncjkpkgaaM6
import Derived.Laws.RangeAny
import Derived.LoopTactic

namespace Go.Proofs.Ytggfcbncjkpkgaa
open Go.RowKit
set_option linter.unusedVariables false

/-- All names are short. -/
def short (l : List Fd) : Prop := ∀ f ∈ l, f.nm.length ≤ 100000
theorem right_no {l : List Fd} {i : Nat} {f : Fd} (hi : l[i]? = some f) (h : ¬ (nameB f.nm = true ∧ f.may = true ∧ findN l f.nm = some i)) : rightL l = false := by
  cases hr : rightL l with
  | false => rfl
  | true => exact absurd ((rightL_iff.1 hr).2 i f hi) h
set_option maxHeartbeats 2000000 in
theorem r6right_any {w : World} {A : Option Addr} {n c : Nat} {l : List Fd} (h : RdF w w.heap.size A n c l) (hs : short l) :
    Calls Try.prog 16 #[.slice A n c] w fun e w' => e = .returned (.bool (rightL l)) ∧ Below w.heap.size w w' := by
  have HL := hid h.1
  have hnm : (n : Int) ≤ 9223372036854775807 := by have := Nat.le_trans h.2.1 h.2.2.1; unfold maxLen at this; omega
  have H := hid h; have HS := hid hs; clear h hs
  go_enter Try.func16, Try.ntmps16
  go_wp2_with fail
  go_loopw [3] (fun i wr => ∃ j : Nat, j ≤ n ∧ i = .int .i64 j ∧ Hid (∀ m, m < j → ∀ f, l[m]? = some f → nameB f.nm = true ∧ f.may = true ∧ findN l f.nm = some m) ∧ Hid (Below w.heap.size w wr)) (fun i _ => n - (intOf i).toNat)
  case atStart => exact ⟨0, by omega, rfl, hid (fun m hm => absurd hm (by omega)), B0 w⟩
  case round =>
    obtain ⟨j, hj, rfl, HA, HB⟩ := hrel
    by_cases hlt : j < n
    · have hjl : j < l.length := by have := HL.out; omega
      obtain ⟨f, hf⟩ : ∃ f, l[j]? = some f := ⟨_, List.getElem?_eq_getElem hjl⟩
      obtain ⟨_, _, _, _, b, off, rfl, hc⟩ := H.out.at hf
      have HF := hid hf; have HC := hid hc
      have hsf : f.nm.length ≤ 100000 := HS.out f (List.mem_of_getElem? hf)
      have HSF := hid hsf
      obtain ⟨c0, c1, c2⟩ := hc wr HB.out
      have hji : (j : Int) < n := by omega
      have hj0 : (0 : Int) ≤ j := by omega
      obtain ⟨nb, hnb⟩ : ∃ nb, nb = nameB f.nm := ⟨_, rfl⟩
      obtain ⟨mb, hmb⟩ : ∃ mb, mb = f.may := ⟨_, rfl⟩
      have HNB := hid hnb; have HMB : Hid (mb = mayF f.k f.g) := hmb
      clear hc hjl hf hsf hnb hmb
      cases nb with
      | false =>
        have HE : Hid (rightL l = false) := right_no HF.out (by rw [← HNB.out]; simp)
        go_wp2_with fail
        refine (r6name_any f.nm HSF.out).mono ?_
        rintro e w1 ⟨rfl, hb1⟩
        rw [← HNB.out]
        have HB1 := hid (Bt HB.out hb1)
        clear hb1 c0 c1 c2
        go_wp2_with fail
        go_ret
        exact ⟨by rw [HE.out]; rfl, HB1.out⟩
      | true =>
        go_wp2_with fail
        refine (r6name_any f.nm HSF.out).mono ?_
        rintro e w1 ⟨rfl, hb1⟩
        rw [← HNB.out]
        have HB1 := hid (Bt HB.out hb1)
        obtain ⟨c0, c1, c2⟩ := HC.out w1 HB1.out
        clear hb1
        cases mb with
        | false =>
          have HE : Hid (rightL l = false) := right_no HF.out (by rw [show f.may = false from HMB.out.symm]; simp)
          go_wp2_with fail
          refine (rmay_any (bs f.nm) f.k f.g w1).mono ?_
          rintro e w2 ⟨rfl, hb2⟩
          rw [← HMB.out]
          have HB2 := hid (Bt HB1.out hb2)
          clear hb2 c0 c1 c2
          go_wp2_with fail
          go_ret
          exact ⟨by rw [HE.out]; rfl, HB2.out⟩
        | true =>
          go_wp2_with fail
          refine (rmay_any (bs f.nm) f.k f.g w1).mono ?_
          rintro e w2 ⟨rfl, hb2⟩
          rw [← HMB.out]
          have HB2 := hid (Bt HB1.out hb2)
          obtain ⟨c0, c1, c2⟩ := HC.out w2 HB2.out
          clear hb2
          obtain ⟨q, hq, hqj⟩ := findN_le HF.out
          have HQ := hid hq
          clear hq
          go_wp2_with fail
          refine (r6find_any (H.out.on HB2.out) f.nm).mono ?_
          rintro e w3 ⟨rfl, hb3⟩
          rw [findI_some HQ.out]
          have HB3 := hid (Bt HB2.out hb3)
          clear hb3 c0 c1 c2
          by_cases hqq : q < j
          · have d1 : decide ((q : Int) < (j : Int)) = true := decide_eq_true (by omega)
            have HE : Hid (rightL l = false) := right_no HF.out (by rw [HQ.out]; intro h; have := h.2.2; cases this; omega)
            go_wp2_with fail
            go_ret
            exact ⟨by rw [HE.out]; rfl, HB3.out⟩
          · obtain rfl : q = j := by omega
            go_wp2_with fail
            exact ⟨⟨q + 1, by omega, by go_num, hid (fun m hm f' hf' => by
              by_cases e : m = q
              · subst e; rw [HF.out] at hf'; cases hf'; exact ⟨HNB.out.symm, HMB.out.symm, HQ.out⟩
              · exact HA.out m (by omega) f' hf'), HB3⟩, by simp [intOf]; omega⟩
    · obtain rfl : j = n := by omega
      have HE : Hid (rightL l = decide ((j : Int) < 17)) := by
        show _ = _
        rw [Bool.eq_iff_iff, rightL_iff, decide_eq_true_eq]
        refine ⟨fun h => by have := h.1; have := HL.out; omega, fun h => ⟨by have := HL.out; omega, fun i f hi => ?_⟩⟩
        refine HA.out i ?_ f hi
        have := HL.out
        by_cases cc : i < l.length
        · omega
        · rw [List.getElem?_eq_none (by omega)] at hi; cases hi
      go_wp2_with fail
      go_ret
      exact ⟨by rw [HE.out]; rfl, HB.out⟩

/-! ### rows of numbers of the call's own -/
def iv (x : Int) : Value := .int .i64 x
def OwI (w : World) (base : Nat) (v : Value) (l : List Int) : Prop := w.ownsRow base 3 1 v l.length (l.map iv)
theorem OwI.nil (w : World) (base : Nat) : OwI w base (.slice none 0 0) [] := World.ownsRow_nil _ _ _ _
section
variable {w w' : World} {base : Nat} {v : Value} {l : List Int}
theorem OwI.on (h : OwI w base v l) (hb : Below w.heap.size w w') : OwI w' base v l := by
  refine ⟨h.1, ?_⟩
  rcases h.2 with h1 | ⟨g, cap, cur, hv, hbase, hg, h3⟩
  · exact .inl h1
  · exact .inr ⟨g, cap, cur, hv, hbase, (hb.block g (row_lt hg)).trans hg, h3⟩
theorem OwI.row (h : OwI w base v l) : ∀ j, v.ownBlock = some j → base ≤ j := by
  intro j hj
  rcases h.2 with ⟨e, _⟩ | ⟨g, cap, cur, e, hbase, _⟩
  · rw [e] at hj; simp [Value.ownBlock] at hj
  · rw [e] at hj; simp [Value.ownBlock] at hj; omega
theorem OwI.rd (h : OwI w base v l) (hx : ∀ x ∈ l, I64 x) : ∃ A cap, v = .slice A l.length cap ∧ RdI w w.heap.size A l.length cap l := by
  rcases h.2 with ⟨rfl, hn⟩ | ⟨g, cap, cur, rfl, hbase, hg, hnc, hm, hs, hl⟩
  · have : l = [] := List.eq_nil_of_length_eq_zero hn
    subst this
    exact ⟨none, 0, rfl, RdI.nil _ _⟩
  · refine ⟨some ⟨g, 0, none⟩, cap, rfl, rfl, hnc, hm, hx, fun hn => ⟨g, 0, rfl, row_lt hg, fun i hi => ?_⟩⟩
    rw [Nat.zero_add, row_cell hg]
    have h2 : (cur.toList.take (l.length * 1))[i]? = some (iv l[i]) := by rw [hl]; simp [hi]
    rw [Nat.mul_one, List.getElem?_take_of_lt hi] at h2
    simpa [iv] using h2
end
theorem infoI : (Try.prog.info? 3).map (fun i => (i.zero, i.size, i.bytes)) = some (some (.int .i64 0), 1, 8) := by kernel_rfl
/-- append(v, x). -/
theorem run_appI {w : World} {base : Nat} {v : Value} {l : List Int} (h : OwI w base v l) (x : Int) (hlen : l.length ≤ 1000000) (hb : base ≤ w.heap.size) (ty : TypeId) :
    ∃ v' w', (Builtin.append_ #[25, 25] ty #[v, .slice (some ⟨w.heap.size, 0, none⟩) 1 1]).run Try.prog (w.alloc (.cells #[.int .i64 x] 3)) = .ok v' w' ∧ OwI w' base v' (l ++ [x]) ∧ Below base (w.alloc (.cells #[.int .i64 x] 3)) w' := by
  have hi8 := infoI
  have hk : Below w.heap.size w (w.alloc (.cells #[.int .i64 x] 3)) := B1 _ _
  cases hi : Try.prog.info? 3 with
  | none => rw [hi] at hi8; cases hi8
  | some i =>
    rw [hi] at hi8
    simp only [Option.map_some, Option.some.injEq, Prod.mk.injEq] at hi8
    obtain ⟨hz, hsz, hby⟩ := hi8
    obtain ⟨v', W', hr, ho, hg, hnil⟩ := run_append_own (P := Try.prog) (w.alloc (.cells #[.int .i64 x] 3)) base 25 ty 3 i (.int .i64 0) 1 8 Try.underlying25 hi hz hsz hby rfl (by omega) v l.length (l.map iv) (h.on hk) ⟨w.heap.size, 0, none⟩ 1 1 [iv x] rfl (fun j u hj => by rw [add_plain, Nat.zero_add, row_cell (heap_alloc_new w _)]; match j, hj with | 0, h => exact h) (by intro u hu; simp at hu; subst hu; rfl) (by unfold maxLen; omega) (by omega) (Nat.le_trans hb hk.size)
    refine ⟨v', W', hr, ?_, (Below.refl _ _).grown hg (Nat.le_trans hb hk.size) (fun j hj => h.row j hj)⟩
    unfold OwI
    rw [List.length_append, List.map_append]; exact ho
theorem wpList_appI {w w' : World} {ops : Array Oper} {rest : List Oper} {o : Oper} {a : Act} {Q : Exit → Act → World → Prop} {v v' u : Value} (hgd : o.guard = none) (s x : Operand)
    (hop : o.op = .call { callee := .builtin .append, args := #[s, x], argTypes := #[25, 25] }) (hs : a.eval s = v) (hx : a.eval x = u)
    (hrun : (Builtin.append_ #[25, 25] o.type #[v, u]).run Try.prog w = .ok v' w') (hk : wpList Try.prog ops Q rest (a.put o.dst v') w') : wpList Try.prog ops Q (o :: rest) a w := by
  refine wpList_plain hgd fun K hK => ?_
  unfold Oper.wp execOp
  simp only [hop, resolve, invoke, builtin, Sem.run_bind, Sem.run_pure, Result.andThen_ok, List.map_toArray, List.map_cons, List.map_nil, hs, hx, hrun]
  exact hK _ _ hk

def layL (l : List Fd) : List Int := if rightL l then layP 0 l else []
def layT (l : List Fd) : Int := if rightL l then layN l else 0
def LayQ (w : World) (l : List Fd) (e : Ending) (w' : World) : Prop := ∃ v, e = .returned (.tuple #[v, .int .i64 (layT l)]) ∧ OwI w' w.heap.size v (layL l) ∧ Below w.heap.size w w'
theorem up8_first {a z : Int} (h1 : a ≤ z) (h2 : z ≤ up8 a) (h3 : z % 8 = 0) : z = up8 a := by unfold up8 at *; omega
set_option maxRecDepth 20000 in
set_option maxHeartbeats 4000000 in
theorem r6layout_any {w : World} {A : Option Addr} {n c : Nat} {l : List Fd} (h : RdF w w.heap.size A n c l) (hs : short l) :
    Calls Try.prog 14 #[.slice A n c] w (LayQ w l) := by
  have HL := hid h.1
  have H := hid h; have HS := hid hs; clear h hs
  cases hr : rightL l with
  | false =>
    have HE : Hid (layL l = [] ∧ layT l = 0) := by refine ⟨?_, ?_⟩ <;> (first | unfold layL | unfold layT) <;> rw [hr] <;> rfl
    have HR := hid hr
    clear hr
    go_enter Try.func14, Try.ntmps14
    go_wp2_with fail
    refine (r6right_any H.out HS.out).mono ?_
    rintro e w1 ⟨rfl, hb1⟩
    rw [HR.out]
    go_wp2_with fail
    go_ret2
    exact ⟨_, by rw [HE.out.2]; rfl, by rw [HE.out.1]; exact OwI.nil _ _, hb1⟩
  | true =>
    have HE : Hid (layL l = layP 0 l ∧ layT l = layN l) := by refine ⟨?_, ?_⟩ <;> (first | unfold layL | unfold layT) <;> rw [hr] <;> rfl
    have HR := hid hr
    have HM := hid (right_may hr)
    have hn16 : (n : Int) ≤ 16 := by have := right_len hr; have := HL.out; omega
    have HBD : Hid (∀ j, 0 ≤ layE 0 (l.take j) ∧ layE 0 (l.take j) ≤ 1152) := fun j => by
      have h1 := layE_bounds (l.take j) 0 (fun f hf => right_may hr f (List.mem_of_mem_take hf)) (Int.le_refl _)
      have h2 : (l.take j).length ≤ 16 := by have := right_len hr; rw [List.length_take]; omega
      omega
    clear hr
    go_enter Try.func14, Try.ntmps14
    go_wp2_with fail
    refine (r6right_any H.out HS.out).mono ?_
    rintro e w1 ⟨rfl, hb1⟩
    rw [HR.out]
    have HB1 := hid hb1; clear hb1
    go_wp2_with fail
    go_loopw [4, 5, 6] (fun v a i wr => ∃ (j : Nat) (z : Int), j ≤ n ∧ i = .int .i64 j ∧ a = .int .i64 z ∧ Hid (z = layE 0 (l.take j)) ∧ Hid (OwI wr w.heap.size v (layP 0 (l.take j))) ∧ Hid (Below w.heap.size w wr)) (fun _ _ i _ => n - (intOf i).toNat)
    case atStart => exact ⟨0, 0, by omega, rfl, rfl, hid rfl, hid (OwI.nil _ _), HB1⟩
    case round =>
      obtain ⟨j, z0, hj, rfl, rfl, HZ0, HO, HB⟩ := hrel
      by_cases hlt : j < n
      · have hjl : j < l.length := by have := HL.out; omega
        obtain ⟨f, hf⟩ : ∃ f, l[j]? = some f := ⟨_, List.getElem?_eq_getElem hjl⟩
        obtain ⟨_, _, _, _, b, off, rfl, hc⟩ := H.out.at hf
        have HF := hid hf; have HC := hid hc
        have hfm := HM.out f (List.mem_of_getElem? hf)
        have HFM := hid hfm
        have hz0 : 0 ≤ z0 ∧ z0 ≤ 1152 := by rw [HZ0.out]; exact HBD.out j
        obtain ⟨hz00, hz01⟩ := hz0
        obtain ⟨P, hP⟩ : ∃ P, P = placeF z0 f := ⟨_, rfl⟩
        obtain ⟨L, hL⟩ : ∃ L, L = longF f.k f.g := ⟨_, rfl⟩
        have hpg := place_ge hfm hz00
        have hlp : 1 ≤ L ∧ L ≤ 64 := by rw [hL]; exact long_pos hfm
        rw [← hP] at hpg
        have HP := hid hP; have HLL := hid hL; have HPG := hid hpg
        obtain ⟨hl1, hl64⟩ := hlp
        have hP0 : z0 ≤ P := hpg.1
        have hP1 : P < z0 + 8 := hpg.2.1
        have hji : (j : Int) < n := by omega
        have hj0 : (0 : Int) ≤ j := by omega
        clear hc hjl hf hfm hP hL hpg
        go_wp2_with fail
        go_loopw [5] (fun a wr' => ∃ z : Int, z0 ≤ z ∧ z ≤ P ∧ a = .int .i64 z ∧ Hid (Below wr.heap.size wr wr')) (fun a _ => (P - intOf a).toNat)
        case atStart => exact ⟨z0, by omega, by omega, rfl, B0 _⟩
        case round =>
          obtain ⟨z, hz1, hz2, rfl, HBz⟩ := hrel
          have HBW := hid (Bt HB.out HBz.out)
          obtain ⟨c0, c1, c2⟩ := HC.out wr HBW.out
          by_cases h12 : f.k = 12
          · have hzP : z = P := by
              have h1 : P = z0 := by rw [HP.out]; unfold placeF; rw [if_pos h12]
              omega
            subst hzP
            have t12 : (f.k != 12) = false := by rw [h12]; rfl
            have t12' : (f.k == 12) = true := by rw [h12]; rfl
            clear h12
            obtain ⟨v', w3, hrun, hown, hbw⟩ := run_appI (HO.out.on HBz.out) z (by rw [layP_length, List.length_take]; omega) HBW.out.size 25
            have HRUN := hid hrun; have HOW := hid hown
            have HB3 : Hid (Below w.heap.size w w3) := HBW.out.trans (((Below.refl _ _).alloc HBW.out.size _).trans hbw)
            obtain ⟨d0, d1, d2⟩ := HC.out w3 HB3.out
            have q1 : IntKind.i64.wrap (z + L) = z + L := by rw [IntKind.wrap_i64]; omega
            clear hrun hown hbw
            go_wp2_with (at_builtin; refine wpList_appI rfl _ _ rfl rfl rfl HRUN.out ?_)
            refine (rlong_any (bs f.nm) f.k f.g w3).mono ?_
            rintro e w4 ⟨rfl, hb4⟩
            rw [← HLL.out]
            have HB4 := hid (Bt HB3.out hb4); have HO4 := hid (HOW.out.on hb4)
            clear hb4 c0 c1 c2 d0 d1 d2
            go_wp2_with fail
            go_roundw
            case rel => exact ⟨j + 1, z + L, by omega, by simp, rfl, hid (by rw [layE_take HF.out, ← HZ0.out, ← HP.out, HLL.out]; rfl), hid (by rw [layP_take HF.out, ← HZ0.out, ← HP.out]; exact HO4.out), HB4⟩
            case measure => simp [intOf]; omega
          · have t12 : (f.k != 12) = true := by simpa using h12
            have t12' : (f.k == 12) = false := by simpa using h12
            have hL0 : (L == 0) = false := by rw [beq_eq_false_iff_ne]; omega
            have hLn : L ≠ 0 := by omega
            have tmod : z.tmod L = z % L := Int.tmod_eq_emod_of_nonneg (by omega)
            by_cases hzP : z < P
            · have hne : z % L ≠ 0 := fun h => by
                have := place_first HFM.out h12 hz00 hz1 (by rw [← HP.out]; omega) (by show z % f.long = 0; rw [show f.long = L from HLL.out.symm]; exact h)
                rw [← HP.out] at this; omega
              have tne : (z % L != 0) = true := by simpa using hne
              clear hne h12
              go_wp2_with fail
              refine (rlong_any (bs f.nm) f.k f.g wr).mono ?_
              rintro e w4 ⟨rfl, hb4⟩
              rw [← HLL.out]
              have HB4 := hid (Bt HBz.out hb4)
              clear hb4 c0 c1 c2
              go_wp2_with fail
              exact ⟨⟨z + 1, by omega, by omega, by go_num, HB4⟩, by simp [intOf]; omega⟩
            · obtain rfl : z = P := by omega
              have heq : z % L = 0 := by
                have := (HPG.out.2.2 h12).1
                rw [show f.long = L from HLL.out.symm] at this; exact this
              have tne : (z % L != 0) = false := by rw [heq]; rfl
              clear heq h12
              go_wp2_with fail
              refine (rlong_any (bs f.nm) f.k f.g wr).mono ?_
              rintro e w4 ⟨rfl, hb4⟩
              rw [← HLL.out]
              have HB4 := hid (Bt HBW.out hb4)
              obtain ⟨v', w3, hrun, hown, hbw⟩ := run_appI (HO.out.on (Bt HBz.out hb4)) z (by rw [layP_length, List.length_take]; omega) HB4.out.size 25
              have HRUN := hid hrun; have HOW := hid hown
              have HB3 : Hid (Below w.heap.size w w3) := HB4.out.trans (((Below.refl _ _).alloc HB4.out.size _).trans hbw)
              obtain ⟨d0, d1, d2⟩ := HC.out w3 HB3.out
              have q1 : IntKind.i64.wrap (z + L) = z + L := by rw [IntKind.wrap_i64]; omega
              clear hrun hown hbw hb4 c0 c1 c2
              go_wp2_with (at_builtin; refine wpList_appI rfl _ _ rfl rfl rfl HRUN.out ?_)
              refine (rlong_any (bs f.nm) f.k f.g w3).mono ?_
              rintro e w5 ⟨rfl, hb5⟩
              rw [← HLL.out]
              have HB5 := hid (Bt HB3.out hb5); have HO5 := hid (HOW.out.on hb5)
              clear hb5 d0 d1 d2
              go_wp2_with fail
              go_roundw
              case rel => exact ⟨j + 1, z + L, by omega, by simp, rfl, hid (by rw [layE_take HF.out, ← HZ0.out, ← HP.out, HLL.out]; rfl), hid (by rw [layP_take HF.out, ← HZ0.out, ← HP.out]; exact HO5.out), HB5⟩
              case measure => simp [intOf]; omega
      · obtain rfl : j = n := by omega
        have et : l.take j = l := by rw [← HL.out]; exact List.take_length
        have hz0 : 0 ≤ z0 ∧ z0 ≤ 1152 := by rw [HZ0.out]; exact HBD.out j
        rw [et] at HZ0 HO
        obtain ⟨hz00, hz01⟩ := hz0
        have hup := up8_ge z0
        obtain ⟨P, hP⟩ : ∃ P, P = up8 z0 := ⟨_, rfl⟩
        rw [← hP] at hup
        have HP := hid hP; have HU := hid hup
        have hP0 : z0 ≤ P := hup.1
        have hP1 : P < z0 + 8 := hup.2.1
        clear hP hup et
        go_wp2_with fail
        go_loopw [5] (fun a wr' => ∃ z : Int, z0 ≤ z ∧ z ≤ P ∧ a = .int .i64 z ∧ Hid (Below wr.heap.size wr wr')) (fun a _ => (P - intOf a).toNat)
        case atStart => exact ⟨z0, by omega, by omega, rfl, B0 _⟩
        case round =>
          obtain ⟨z, hz1, hz2, rfl, HBz⟩ := hrel
          have tmod : z.tmod 8 = z % 8 := Int.tmod_eq_emod_of_nonneg (by omega)
          by_cases hzP : z < P
          · have hne : z % 8 ≠ 0 := fun h => by
              have := up8_first hz1 (by rw [← HP.out]; omega) h
              rw [← HP.out] at this; omega
            have tne : (z % 8 != 0) = true := by simpa using hne
            clear hne
            go_wp2_with fail
            exact ⟨⟨z + 1, by omega, by omega, by go_num, HBz⟩, by simp [intOf]; omega⟩
          · obtain rfl : z = P := by omega
            have heq : z % 8 = 0 := HU.out.2.2
            have tne : (z % 8 != 0) = false := by rw [heq]; rfl
            clear heq
            go_wp2_with fail
            go_ret2
            exact ⟨_, by rw [HE.out.2, layN, ← HZ0.out, ← HP.out]; rfl, by rw [HE.out.1]; exact HO.out.on HBz.out, Bt HB.out HBz.out⟩
end Go.Proofs.Ytggfcbncjkpkgaa

namespace Go.Proofs.Ytggfcbncjkpkgaa
open Go.RowKit
set_option linter.unusedVariables false

/-- What a range over a text reads at a place. -/
theorem text_at {s : List UInt8} {j : Nat} (hj : j < s.length) : ∃ (r d : Nat), Utf8.decode (bs s) j = (r, d) ∧ 1 ≤ d ∧ r ≤ 2147483647 ∧ ((r < 128 ∧ r = s[j].toNat ∧ d = 1) ∨ (128 ≤ r ∧ 128 ≤ s[j].toNat)) := by
  have h2 : j < (bs s).size := by simpa [ByteArray.size] using hj
  have hb := bs_at hj h2
  refine ⟨(Utf8.decode (bs s) j).1, (Utf8.decode (bs s) j).2, rfl, ?_⟩
  by_cases ha : ((bs s)[j]'h2).toNat < 128
  · rw [decode_ascii (bs s) j h2 ha]
    rw [hb] at ha ⊢
    exact ⟨Nat.le_refl _, by omega, .inl ⟨ha, rfl, rfl⟩⟩
  · have h3 := decode_high (bs s) j h2 (by omega)
    rw [hb] at ha
    exact ⟨h3.2, decode_le _ _, .inr ⟨h3.1, by omega⟩⟩
theorem chB_hi {c : UInt8} (h : 128 ≤ c.toNat) : chB c = false := by
  simp [chB, ltB]; omega
/-- A byte that is read tells whether it may be in a name. -/
theorem text_ch {s : List UInt8} {j r d : Nat} (hj : j < s.length) (h : (r < 128 ∧ r = s[j].toNat ∧ d = 1) ∨ (128 ≤ r ∧ 128 ≤ s[j].toNat)) :
    ltB s[j] = (decide (97 ≤ r) && decide (r ≤ 122)) ∧ chB s[j] = (decide (97 ≤ r) && decide (r ≤ 122) || (decide (48 ≤ r) && decide (r ≤ 57)) || decide (r = 95)) ∧ (chB s[j] = true → d = 1) := by
  rcases h with ⟨h1, h2, h3⟩ | ⟨h1, h2⟩
  · subst h2
    exact ⟨rfl, rfl, fun _ => h3⟩
  · refine ⟨?_, ?_, fun h => by rw [chB_hi h2] at h; cases h⟩
    · rw [Bool.eq_iff_iff]; simp [ltB]; omega
    · rw [chB_hi h2, Bool.eq_iff_iff]; simp; omega
theorem name_no' {s : List UInt8} {j : Nat} (hj : j < s.length) (h : chB s[j] = false) : nameB s = false := name_no hj rfl h

theorem name_head {s : List UInt8} {c : UInt8} (h : 0 < s.length) (hc : c = s[0]) (hl : ltB c = true) : s.head?.any ltB = true := by
  cases s with
  | nil => simp at h
  | cons x s => subst hc; simpa using hl
set_option maxRecDepth 1000000 in
set_option maxHeartbeats 2000000 in
theorem p6name_any {w : World} (s : List UInt8) (hs : s.length ≤ 100000) :
    Calls Try.prog 23 #[.string (bs s)] w fun e w' => e = .returned (.bool (nameB s)) ∧ Below w.heap.size w w' := by
  have hsz : ((bs s).size : Int) = s.length := rfl
  by_cases h0 : s = []
  · subst h0
    go_enter Try.func23, Try.ntmps23
    go_wp2_with fail
    go_ret
    exact ⟨rfl, B0 _⟩
  have e0 : s.isEmpty = false := by simpa using h0
  by_cases h15 : 15 < s.length
  · have e1 : decide ((15 : Int) < (s.length : Int)) = true := decide_eq_true (by omega)
    have HE : Hid (nameB s = false) := by
      show _ = _
      unfold nameB
      rw [show decide (s.length ≤ 15) = false from decide_eq_false (by omega)]; simp
    clear h0
    go_enter Try.func23, Try.ntmps23
    go_wp2_with fail
    go_ret
    exact ⟨by rw [HE.out]; rfl, B0 _⟩
  have e1 : decide ((15 : Int) < (s.length : Int)) = false := decide_eq_false (by omega)
  have H15 := hid h15; have HNE := hid h0
  clear h0 h15
  go_enter Try.func23, Try.ntmps23
  go_wp2_with fail
  go_loopw [] (fun wr => ∃ pos : Nat, pos ≤ s.length ∧ wr = w.iter (bs s) pos ∧ Hid ((s.take pos).all chB = true) ∧ Hid (0 < pos → s.head?.any ltB = true)) (fun wr => s.length - wr.iterPos w.heap.size)
  case atStart => exact ⟨0, by omega, rfl, hid (by simp), hid (fun h => absurd h (by omega))⟩
  case round =>
    obtain ⟨pos, hpos, rfl, HA, HH⟩ := hrel
    have HB : Hid (Below w.heap.size w (w.iter (bs s) pos)) := B1 w _
    by_cases hlt : pos < s.length
    · obtain ⟨r, d, hdec, hd1, hr31, hrc⟩ := text_at hlt
      obtain ⟨c, hc0⟩ : ∃ c, c = s[pos] := ⟨_, rfl⟩
      obtain ⟨tl, tc, td⟩ := text_ch hlt hrc
      rw [← hc0] at tl tc td hrc
      have HCC := hid hc0
      have hlt2 : pos < (bs s).size := hlt
      have hnx : ∀ ty, (Instr.next (.pointer (some ⟨w.heap.size, 0, none⟩)) true ty).run Try.prog (w.iter (bs s) pos) = .ok (.tuple #[.bool true, .int .i64 pos, .int .i32 (r : Int)]) (w.iter (bs s) (pos + d)) := fun ty => by
        have := run_next_any (P := Try.prog) w (bs s) pos ty hlt2
        rw [hdec] at this; exact this
      have HB2 : Hid (Below w.heap.size w (w.iter (bs s) (pos + d))) := B1 w _
      have HNX := hid hnx
      obtain ⟨x, hx⟩ : ∃ x : Int, x = r := ⟨_, rfl⟩
      rw [← hx] at hnx
      have HX := hid hx
      have HLT := hid hlt
      have TL := hid tl; have TC := hid tc; have TD := hid td
      have hx0 : 0 ≤ x := by omega
      clear HNX hdec hrc tl tc td hx hlt2 hr31 hc0
      rcases (by omega : (x < 48) ∨ (48 ≤ x ∧ x ≤ 57) ∨ (57 < x ∧ x < 95) ∨ (x = 95) ∨ (x = 96) ∨ (97 ≤ x ∧ x ≤ 122) ∨ (122 < x)) with hc | hc | hc | hc | hc | hc | hc
      · skip
        have f1 : decide ((97 : Int) ≤ x) = false := decide_eq_false (by omega)
        have f2 : decide (x ≤ 122) = true := decide_eq_true (by omega)
        have f3 : decide ((48 : Int) ≤ x) = false := decide_eq_false (by omega)
        have f4 : decide (x ≤ 57) = true := decide_eq_true (by omega)
        have f5 : (x == 95) = false := by rw [beq_eq_false_iff_ne]; omega
        have HL : Hid (ltB c = false) := by show _ = _; rw [TL.out, Bool.eq_iff_iff]; have := HX.out; simp; try omega
        have HC : Hid (chB c = false) := by show _ = _; rw [TC.out, Bool.eq_iff_iff]; have := HX.out; simp; try omega
        by_cases hz : pos = 0
        · subst hz
          have HE : Hid (nameB s = false) := name_no HLT.out HCC.out HC.out
          clear hc
          go_wp2_with fail
          go_ret
          exact ⟨by rw [HE.out]; rfl, B1 w _⟩
        · have hz1 : ((pos : Int) == 0) = false := by rw [beq_eq_false_iff_ne]; omega
          have HE : Hid (nameB s = false) := name_no HLT.out HCC.out HC.out
          clear hc
          go_wp2_with fail
          go_ret
          exact ⟨by rw [HE.out]; rfl, B1 w _⟩
      · skip
        have f1 : decide ((97 : Int) ≤ x) = false := decide_eq_false (by omega)
        have f2 : decide (x ≤ 122) = true := decide_eq_true (by omega)
        have f3 : decide ((48 : Int) ≤ x) = true := decide_eq_true (by omega)
        have f4 : decide (x ≤ 57) = true := decide_eq_true (by omega)
        have f5 : (x == 95) = false := by rw [beq_eq_false_iff_ne]; omega
        have HL : Hid (ltB c = false) := by show _ = _; rw [TL.out, Bool.eq_iff_iff]; have := HX.out; simp; try omega
        have HC : Hid (chB c = true) := by show _ = _; rw [TC.out, Bool.eq_iff_iff]; have := HX.out; simp; try omega
        by_cases hz : pos = 0
        · subst hz
          have HE : Hid (nameB s = false) := name_no0 HLT.out HCC.out HL.out
          clear hc
          go_wp2_with fail
          go_ret
          exact ⟨by rw [HE.out]; rfl, B1 w _⟩
        · have hz1 : ((pos : Int) == 0) = false := by rw [beq_eq_false_iff_ne]; omega
          have HD := TD.out HC.out
          clear hc
          go_wp2_with fail
          go_roundw
          case rel => exact ⟨pos + 1, HLT.out, rfl, hid (name_take HLT.out HCC.out HA.out HC.out), hid (fun _ => HH.out (by omega))⟩
          case measure => simp; omega
      · skip
        have f1 : decide ((97 : Int) ≤ x) = false := decide_eq_false (by omega)
        have f2 : decide (x ≤ 122) = true := decide_eq_true (by omega)
        have f3 : decide ((48 : Int) ≤ x) = true := decide_eq_true (by omega)
        have f4 : decide (x ≤ 57) = false := decide_eq_false (by omega)
        have f5 : (x == 95) = false := by rw [beq_eq_false_iff_ne]; omega
        have HL : Hid (ltB c = false) := by show _ = _; rw [TL.out, Bool.eq_iff_iff]; have := HX.out; simp; try omega
        have HC : Hid (chB c = false) := by show _ = _; rw [TC.out, Bool.eq_iff_iff]; have := HX.out; simp; try omega
        by_cases hz : pos = 0
        · subst hz
          have HE : Hid (nameB s = false) := name_no HLT.out HCC.out HC.out
          clear hc
          go_wp2_with fail
          go_ret
          exact ⟨by rw [HE.out]; rfl, B1 w _⟩
        · have hz1 : ((pos : Int) == 0) = false := by rw [beq_eq_false_iff_ne]; omega
          have HE : Hid (nameB s = false) := name_no HLT.out HCC.out HC.out
          clear hc
          go_wp2_with fail
          go_ret
          exact ⟨by rw [HE.out]; rfl, B1 w _⟩
      · skip
        have f1 : decide ((97 : Int) ≤ x) = false := decide_eq_false (by omega)
        have f2 : decide (x ≤ 122) = true := decide_eq_true (by omega)
        have f3 : decide ((48 : Int) ≤ x) = true := decide_eq_true (by omega)
        have f4 : decide (x ≤ 57) = false := decide_eq_false (by omega)
        have f5 : (x == 95) = true := by rw [beq_iff_eq]; omega
        have HL : Hid (ltB c = false) := by show _ = _; rw [TL.out, Bool.eq_iff_iff]; have := HX.out; simp; try omega
        have HC : Hid (chB c = true) := by show _ = _; rw [TC.out, Bool.eq_iff_iff]; have := HX.out; simp; try omega
        by_cases hz : pos = 0
        · subst hz
          have HE : Hid (nameB s = false) := name_no0 HLT.out HCC.out HL.out
          clear hc
          go_wp2_with fail
          go_ret
          exact ⟨by rw [HE.out]; rfl, B1 w _⟩
        · have hz1 : ((pos : Int) == 0) = false := by rw [beq_eq_false_iff_ne]; omega
          have HD := TD.out HC.out
          clear hc
          go_wp2_with fail
          go_roundw
          case rel => exact ⟨pos + 1, HLT.out, rfl, hid (name_take HLT.out HCC.out HA.out HC.out), hid (fun _ => HH.out (by omega))⟩
          case measure => simp; omega
      · skip
        have f1 : decide ((97 : Int) ≤ x) = false := decide_eq_false (by omega)
        have f2 : decide (x ≤ 122) = true := decide_eq_true (by omega)
        have f3 : decide ((48 : Int) ≤ x) = true := decide_eq_true (by omega)
        have f4 : decide (x ≤ 57) = false := decide_eq_false (by omega)
        have f5 : (x == 95) = false := by rw [beq_eq_false_iff_ne]; omega
        have HL : Hid (ltB c = false) := by show _ = _; rw [TL.out, Bool.eq_iff_iff]; have := HX.out; simp; try omega
        have HC : Hid (chB c = false) := by show _ = _; rw [TC.out, Bool.eq_iff_iff]; have := HX.out; simp; try omega
        by_cases hz : pos = 0
        · subst hz
          have HE : Hid (nameB s = false) := name_no HLT.out HCC.out HC.out
          clear hc
          go_wp2_with fail
          go_ret
          exact ⟨by rw [HE.out]; rfl, B1 w _⟩
        · have hz1 : ((pos : Int) == 0) = false := by rw [beq_eq_false_iff_ne]; omega
          have HE : Hid (nameB s = false) := name_no HLT.out HCC.out HC.out
          clear hc
          go_wp2_with fail
          go_ret
          exact ⟨by rw [HE.out]; rfl, B1 w _⟩
      · skip
        have f1 : decide ((97 : Int) ≤ x) = true := decide_eq_true (by omega)
        have f2 : decide (x ≤ 122) = true := decide_eq_true (by omega)
        have f3 : decide ((48 : Int) ≤ x) = true := decide_eq_true (by omega)
        have f4 : decide (x ≤ 57) = false := decide_eq_false (by omega)
        have f5 : (x == 95) = false := by rw [beq_eq_false_iff_ne]; omega
        have HL : Hid (ltB c = true) := by show _ = _; rw [TL.out, Bool.eq_iff_iff]; have := HX.out; simp; try omega
        have HC : Hid (chB c = true) := by show _ = _; rw [TC.out, Bool.eq_iff_iff]; have := HX.out; simp; try omega
        by_cases hz : pos = 0
        · subst hz
          have HD := TD.out HC.out
          clear hc
          go_wp2_with fail
          go_roundw
          case rel => exact ⟨0 + 1, HLT.out, rfl, hid (name_take HLT.out HCC.out HA.out HC.out), hid (fun _ => name_head HLT.out HCC.out HL.out)⟩
          case measure => simp; omega
        · skip
          have HD := TD.out HC.out
          clear hc
          go_wp2_with fail
          go_roundw
          case rel => exact ⟨pos + 1, HLT.out, rfl, hid (name_take HLT.out HCC.out HA.out HC.out), hid (fun _ => HH.out (by omega))⟩
          case measure => simp; omega
      · skip
        have f1 : decide ((97 : Int) ≤ x) = true := decide_eq_true (by omega)
        have f2 : decide (x ≤ 122) = false := decide_eq_false (by omega)
        have f3 : decide ((48 : Int) ≤ x) = true := decide_eq_true (by omega)
        have f4 : decide (x ≤ 57) = false := decide_eq_false (by omega)
        have f5 : (x == 95) = false := by rw [beq_eq_false_iff_ne]; omega
        have HL : Hid (ltB c = false) := by show _ = _; rw [TL.out, Bool.eq_iff_iff]; have := HX.out; simp; try omega
        have HC : Hid (chB c = false) := by show _ = _; rw [TC.out, Bool.eq_iff_iff]; have := HX.out; simp; try omega
        by_cases hz : pos = 0
        · subst hz
          have HE : Hid (nameB s = false) := name_no HLT.out HCC.out HC.out
          clear hc
          go_wp2_with fail
          go_ret
          exact ⟨by rw [HE.out]; rfl, B1 w _⟩
        · have hz1 : ((pos : Int) == 0) = false := by rw [beq_eq_false_iff_ne]; omega
          have HE : Hid (nameB s = false) := name_no HLT.out HCC.out HC.out
          clear hc
          go_wp2_with fail
          go_ret
          exact ⟨by rw [HE.out]; rfl, B1 w _⟩
    · obtain rfl : pos = s.length := by omega
      have hnlt : ¬ s.length < (bs s).size := by show ¬ s.length < s.length; omega
      have hnx : ∀ ty, (Instr.next (.pointer (some ⟨w.heap.size, 0, none⟩)) true ty).run Try.prog (w.iter (bs s) s.length) = .ok (.tuple #[.bool false]) (w.iter (bs s) s.length) := fun ty => run_next_end (P := Try.prog) w (bs s) s.length ty hnlt
      have HE : Hid (nameB s = true) := by
        show _ = _
        have h1 := HA.out; have h2 := H15.out; have h3 := HNE.out
        rw [List.take_length] at h1
        have h4 : 0 < s.length := by
          cases s with
          | nil => exact absurd rfl h3
          | cons x s => simp
        unfold nameB
        rw [h1, HH.out h4, show decide (1 ≤ s.length) = true from decide_eq_true h4, show decide (s.length ≤ 15) = true from decide_eq_true (by omega)]
        rfl
      clear hnlt hlt
      go_wp2_with fail
      go_ret
      exact ⟨by rw [HE.out]; rfl, HB.out⟩
end Go.Proofs.Ytggfcbncjkpkgaa
