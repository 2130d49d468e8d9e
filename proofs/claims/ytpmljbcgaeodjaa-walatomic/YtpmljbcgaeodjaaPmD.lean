/-
  The contract of Crash.
-/
import Derived.Test.YtpmljbcgaeodjaaPmC
namespace Go.Proofs.Ytpmljbcgaeodjaa
open Go.RowKit Go.Maps
set_option linter.unusedVariables false

theorem setL_get (S : List UInt8) (at_ : Nat) (xs : List UInt8) (h : at_ + xs.length ≤ S.length) (i : Nat) :
    (setL S at_ xs)[i]? = if at_ ≤ i ∧ i < at_ + xs.length then xs[i - at_]? else S[i]? := by
  unfold setL splice
  by_cases h1 : i < at_
  · rw [if_neg (by omega), List.getElem?_append_left (by simp; omega), List.getElem?_take_of_lt h1]
  · rw [List.getElem?_append_right (by simp; omega)]
    have e : (S.take at_).length = at_ := by simp; omega
    rw [e]
    by_cases h2 : i < at_ + xs.length
    · rw [if_pos (by omega), List.getElem?_append_left (by omega)]
    · rw [if_neg (by omega), List.getElem?_append_right (by omega), List.getElem?_drop]
      congr 1; omega

theorem crS_get {S : List UInt8} {L : Int → Option (List UInt8)} {done : Int → Bool} {i : Nat} (h : i < S.length) :
    (crS S L done)[i]? = some (match L (i / 8 : Nat) with
      | some x => if done (i / 8 : Nat) then x.getD (i % 8) 0 else S.getD i 0
      | none => S.getD i 0) := by
  unfold crS
  rw [List.getElem?_map, List.getElem?_range h]; rfl
theorem crS_none {S : List UInt8} {L : Int → Option (List UInt8)} {done : Int → Bool} {i : Nat} (h : S.length ≤ i) : (crS S L done)[i]? = none :=
  List.getElem?_eq_none (by rw [crS_length]; exact h)
theorem crS_congr {S : List UInt8} {L : Int → Option (List UInt8)} {done done' : Int → Bool} (h : ∀ k x, L k = some x → done k = done' k) : crS S L done = crS S L done' := by
  unfold crS
  refine List.map_congr_left fun i _ => ?_
  cases hl : L (i / 8 : Nat) with
  | none => rfl
  | some x => simp only [h _ x hl]
theorem crS_id {S : List UInt8} {L : Int → Option (List UInt8)} {done : Int → Bool} (h : ∀ k x, L k = some x → done k = false) : crS S L done = S := by
  refine List.ext_getElem? fun i => ?_
  by_cases hi : i < S.length
  · rw [crS_get hi]
    cases hl : L (i / 8 : Nat) with
    | none => simp [List.getD_eq_getElem?_getD, hi]
    | some x => simp only [h _ x hl, Bool.false_eq_true, if_false]; simp [List.getD_eq_getElem?_getD, hi]
  · rw [crS_none (by omega), List.getElem?_eq_none (by omega)]
theorem crS_set {S : List UInt8} {L : Int → Option (List UInt8)} {done : Int → Bool} {k : Int} {m : Nat} {x : List UInt8} (hm : (m : Int) = k * 8) (h8 : m + 8 ≤ S.length) (hl : L k = some x) (hx : x.length = 8) :
    setL (crS S L done) m x = crS S L (fun j => done j || decide (j = k)) := by
  refine List.ext_getElem? fun i => ?_
  rw [setL_get _ _ _ (by rw [crS_length]; omega)]
  by_cases hi : i < S.length
  · rw [crS_get hi, crS_get hi]
    by_cases hik : m ≤ i ∧ i < m + x.length
    · have e1 : ((i / 8 : Nat) : Int) = k := by omega
      have e2 : i % 8 = i - m := by omega
      rw [if_pos hik, e1, hl, e2]
      simp [List.getD_eq_getElem?_getD, show i - m < x.length by omega]
    · have e1 : ((i / 8 : Nat) : Int) ≠ k := by omega
      rw [if_neg hik]
      simp only [decide_eq_false e1, Bool.or_false]
  · rw [if_neg (by omega), crS_none (by omega), crS_none (by omega)]

theorem rd_arr {w : World} {g : Nat} {y : List UInt8} {cs : Array Value} {t : TypeId} (hblk : w.heap[g]? = some (.cells cs t (0, 0))) (hn : arr y = .agg cs) (h8 : y.length = 8) : Rd w w.heap.size (some ⟨g, 0, none⟩) 8 8 y := by
  have hyc : (y.map bv).toArray = cs := by unfold arr at hn; exact Value.agg.inj hn
  rw [← hyc] at hblk
  refine ⟨h8, Nat.le_refl _, by decide, (by simp), fun _ => ⟨g, 0, rfl, row_lt hblk, fun i hi => ?_⟩⟩
  rw [Nat.zero_add, row_cell hblk]; simp [hi]

theorem step_copyM {w w' : World} {o : Oper} {a : Act} {K : Act → World → Prop} {Q : Exit → Act → World → Prop} {y : Nat → Option Bool} {v1 v2 v : Value} (hgd : o.guard = none) (m x : Operand)
    (hop : o.op = Op.call { callee := Callee.builtin Builtin.copy, args := #[m, x], argTypes := #[35, 35] }) (hm : a.eval m = v1) (hx : a.eval x = v2)
    (hrun : (Builtin.copy_ #[35, 35] o.type #[v1, v2]).run Try.prog w = .ok v w') (hk : K (a.put o.dst v) w') :
    if Region.wanted o y = true then Oper.wp Try.prog o a w K Q else K (a.put o.dst undef) w := by
  simp only [Region.wanted, hgd, if_true]
  unfold Oper.wp
  simp [execOp, hop, resolve, invoke, builtin, hm, hx, hrun, Result.andThen]
  exact hk

set_option maxHeartbeats 2000000 in
theorem crash_any {w : World} {B d g cap lb fb : Nat} {S : List UInt8} {L : Int → Option (List UInt8)} {F : Int → Bool} (h : Dev w B d g cap lb fb S L F) {A : Option Addr} {n c : Nat} {l : List Int} (hk : RdI w w.heap.size A n c l) :
    Calls Try.prog 16 #[.pointer (some ⟨d, 0, none⟩), .slice A n c] w fun e w' => e = .returned (.tuple #[]) ∧ Dev w' B d g cap lb fb (crS S L (fun k => !decide (k ∈ l))) (fun _ => none) (fun _ => false) ∧ Fr g lb fb w w' := by
  have HD := hid h; have HK := hid hk
  clear h hk
  go_enter Try.func16, Try.ntmps16
  go_wp2_with fail
  refine (among_any HK.out).mono ?_
  rintro e w1 ⟨rfl, hq1, ⟨m, hm1⟩, hb1⟩
  obtain ⟨q, hq⟩ : ∃ q, q = w.heap.size + 1 := ⟨_, rfl⟩
  obtain ⟨mb, hmb⟩ : ∃ mb, mb = w.heap.size := ⟨_, rfl⟩
  rw [← hq, ← hmb] at hq1
  rw [← hmb] at hm1
  rw [← hq]
  have HQ1 := hid hq1; have HM1 := hid hm1; have Hq := hid hq; have Hmb := hid hmb
  have HD1 := hid (HD.out.on hb1)
  have HB1 : Hid (Fr g lb fb w w1) := (Fr.refl g lb fb w).then hb1
  have hcl := HD1.out.c1
  clear hq1 hm1 hq hmb hb1
  go_wp2_with (at_range; refine wpList_rangeM rfl _ 82 rfl 87 Try.underlying82 HD1.out.mpL rfl ?_; intro w0 cnt0 hrg0 hg0 hs0)
  go_frame
  have HS1 : Hid (w.heap.size ≤ w1.heap.size) := HB1.out.size
  have hb0 : Below w1.heap.size w1 w0 := (B0 w1).grown hg0 (Nat.le_refl _) (fun j hj => by cases hj)
  have HQ0 : Hid (w0.heap[q]? = some (.cells #[.map (some mb)] 83 (0, 0))) := (hb0.block q (row_lt HQ1.out)).trans HQ1.out
  have HM0 := hid (HM1.out.below hb0 HM1.out.lt)
  have HD0 := hid (HD1.out.on hb0)
  have HB0 : Hid (Fr g lb fb w w0) := HB1.out.then hb0
  obtain ⟨r, hr⟩ : ∃ r, r = w1.heap.size := ⟨_, rfl⟩
  have Hrd : Hid (d < r) := show _ < _ by rw [hr]; exact HD1.out.dlt
  have Hrg : Hid (g < r) := show _ < _ by rw [hr]; exact HD1.out.glt
  have Hrl : Hid (lb < r) := show _ < _ by rw [hr]; exact HD1.out.llt
  have Hrf : Hid (fb < r) := show _ < _ by rw [hr]; exact HD1.out.flt
  have Hrq : Hid (q < r) := show _ < _ by rw [hr]; exact row_lt HQ1.out
  have Hrm : Hid (mb < r) := show _ < _ by rw [hr]; exact HM1.out.lt
  have Hgq : Hid (g < q) := show _ < _ by have := HD.out.glt; have := Hq.out; omega
  have Hgm : Hid (g < mb) := show _ < _ by have := HD.out.glt; have := Hmb.out; omega
  rw [← hr] at hrg0 ⊢
  have HBr : Hid (w.heap.size ≤ r) := show _ ≤ _ by rw [hr]; exact HS1.out
  clear hr hg0 hs0 hb0 HQ1 HM1 HD1 HB1 hcl
  go_loopw [5] (fun _ wr => ∃ (left : Int → Bool) (cnt : Nat), Hid (MRg wr lb r 8192 (lfun L) left cnt) ∧ Hid (Dev wr B d g cap lb fb (crS S L (fun k => !left k && !decide (k ∈ l))) L F) ∧ Hid (wr.heap[q]? = some (.cells #[.map (some mb)] 83 (0, 0))) ∧ Hid (Mp wr mb m (inF l)) ∧ Hid (Fr g lb fb w wr)) (fun _ wr => wr.rangeLeft lb r)
  case atStart =>
    refine ⟨_, cnt0, hrg0, ?_, HQ0, HM0, HB0⟩
    rw [crS_id (fun k x hl => by simp [lfun, hl])]
    exact HD0
  case round =>
    obtain ⟨left, cnt, hrg, hr, hqr, hmr, hbw⟩ := hrel
    have hcr1 := hr.out.c1; have hcr2 := hr.out.c2
    have HMe := hid hrg.out.left_eq
    clear HQ0 HM0 HD0 HB0
    go_wp2_with (at_next; refine wpList_nextM rfl _ rfl hrg.out rfl ?_ ?_)
    · intro hl0
      have HL0 := hid hl0; clear hl0
      have HD1 : Hid (Dev wr B d g cap lb fb (crS S L (fun k => !decide (k ∈ l))) L F) := by
        have e : crS S L (fun k => !left k && !decide (k ∈ l)) = crS S L (fun k => !decide (k ∈ l)) := crS_congr fun k x hl => by
          have h1 := HD.out.keyL k x hl; have h2 := HD.out.len.2
          simp [HL0.out k (i64_iff.2 (by omega))]
        rw [← e]; exact hr
      obtain ⟨w3, hrun3, hm3, ht3⟩ := HD1.out.mpL.clear Try.underlying82
      have hg3 := ht3.grown
      have HD3 : Hid (Dev w3 B d g cap lb fb (crS S L (fun k => !decide (k ∈ l))) (fun _ => none) F) := HD1.out.setL hg3 ⟨_, hm3.ext fun j => by simp [lfun]⟩ fun j x hj => by cases hj
      have HB3 : Hid (Fr g lb fb w w3) := Fr.l hbw.out hg3
      have hc32 := HD3.out.c2
      clear hm3 ht3 hg3
      obtain ⟨w4, hrun4, hm4, ht4⟩ := HD3.out.mpF.clear Try.underlying83
      have hg4 := ht4.grown
      have HD4 : Hid (Dev w4 B d g cap lb fb (crS S L (fun k => !decide (k ∈ l))) (fun _ => none) (fun _ => false)) := HD3.out.setF hg4 ⟨_, hm4.ext fun j => by simp [ffun]⟩ fun j hj => by cases hj
      have HB4 : Hid (Fr g lb fb w w4) := Fr.f HB3.out hg4
      clear hm4 ht4 hg4
      go_wp2_with fail
      go_end0
      exact ⟨rfl, HD4.out, HB4.out⟩
    · intro x c1 w1 cnt1 hx hlx hfx hrg1 hlt hg1 hs1 hen
      obtain ⟨y, hLy, hcy⟩ : ∃ y, L x = some y ∧ arr y = c1 := by
        unfold lfun at hfx
        cases hl : L x with
        | none => rw [hl] at hfx; cases hfx
        | some y => rw [hl] at hfx; exact ⟨y, rfl, by simpa using hfx⟩
      have hky := HD.out.keyL x y hLy
      obtain ⟨n0, n1, n2, n3, n4, n5, n6, n7, hn⟩ := arr8 hky.2.2
      rw [hn] at hcy
      subst hcy
      have HD1 : Hid (Dev w1 B d g cap lb fb (crS S L (fun k => !left k && !decide (k ∈ l))) L F) := hr.out.keep hg1 Hrd.out Hrg.out Hrl.out Hrf.out
      have HQ1 : Hid (w1.heap[q]? = some (.cells #[.map (some mb)] 83 (0, 0))) := (hg1.block q (row_lt hqr.out) (by have := Hrq.out; simp; omega)).trans hqr.out
      have HM1 := hid (hmr.out.kept hg1 (by have := Hrm.out; simp; omega))
      have HB1 : Hid (Fr g lb fb w w1) := Fr.n hbw.out hg1 HBr.out
      have HR1 := hid hrg1; have HFX := hid hfx; have HN := hid hn; have HLy := hid hLy; have HKY := hid hky
      have HLT := hid hlt
      clear hrg1 hfx hg1 hn hLy hky hcr1 hcr2 hs1 hlt
      go_wp2_with fail
      have hqc : ∀ o, (w1.alloc o).cell? ⟨q, 0, none⟩ = some (.map (some mb)) := fun o => by
        rw [row_cell (((B1 w1 o).block q (row_lt HQ1.out)).trans HQ1.out)]; rfl
      refine (asked_any (hqc _) (HM1.out.alloc _) x hx).mono ?_
      rintro e w2 ⟨rfl, rfl⟩
      have HRN := hid (HR1.out.alloc (.cells #[.int .u8 n0, .int .u8 n1, .int .u8 n2, .int .u8 n3, .int .u8 n4, .int .u8 n5, .int .u8 n6, .int .u8 n7] 87))
      have HDN := hid (HD1.out.alloc (.cells #[.int .u8 n0, .int .u8 n1, .int .u8 n2, .int .u8 n3, .int .u8 n4, .int .u8 n5, .int .u8 n6, .int .u8 n7] 87))
      by_cases hin : x ∈ l
      · have hind : decide (x ∈ l) = true := decide_eq_true hin
        go_wp2_with fail
        refine ⟨⟨fun z => left z && !decide (z = x), cnt1, HRN.out, ?_, ?_, HM1.out.alloc _, Fr.alloc HB1.out _⟩, ?_⟩
        · have e : crS S L (fun k => !(left k && !decide (k = x)) && !decide (k ∈ l)) = crS S L (fun k => !left k && !decide (k ∈ l)) := crS_congr fun k z hl => by
            by_cases e : k = x
            · subst e; simp [hin]
            · simp [e]
          rw [e]; exact HDN.out
        · exact ((B1 w1 _).block q (row_lt HQ1.out)).trans HQ1.out
        · rw [HRN.out.left_eq, HMe.out]; exact HLT.out
      · have hind : decide (x ∈ l) = false := decide_eq_false hin
        obtain ⟨m0, hm0⟩ : ∃ m0 : Nat, (m0 : Int) = x * 8 := ⟨(x * 8).toNat, by have := HKY.out; omega⟩
        have HM0 := hid hm0; clear hm0
        have HM8 : Hid (m0 + 8 ≤ S.length) := show _ ≤ _ by have := HM0.out; have := HKY.out; omega
        have HMC : Hid (m0 + 8 ≤ (crS S L (fun k => !left k && !decide (k ∈ l))).length) := show _ ≤ _ by rw [crS_length]; exact HM8.out
        go_wp2_with fail
        refine reg_beginO (some g) (by kernel_rfl) (fun w0 hh0 hx0 hHeld => ?_)
        have HD0 := hid (HDN.out.cong (w' := w0) (by rw [hh0.out]) (by rw [hh0.out]) (by rw [hh0.out]) (by rw [hh0.out]))
        have HRd := hid (rd_arr (w := w0) (g := w1.heap.size) (by rw [hh0.out]; exact heap_alloc_new w1 _) HN.out HKY.out.2.2)
        refine reg_takeO 0 (v := ?vb0) at0 (by kernel_rfl) (by kernel_rfl) (by kernel_rfl) (by rfl) ?hyb0 hHeld ?restb0
        case hyb0 => (intro w' hSw; go_simp; try with_reducible rfl)
        try simp only [Act.put, List.setIfInBounds_toArray, List.set_cons_zero, List.set_cons_succ]
        refine reg_takeO 1 (v := ?vb1) (atS at0) (by kernel_rfl) (by kernel_rfl) (by kernel_rfl) (by rfl) ?hyb1 hHeld ?restb1
        case hyb1 => (intro w' hSw; go_simp; try with_reducible rfl)
        try simp only [Act.put, List.setIfInBounds_toArray, List.set_cons_zero, List.set_cons_succ]
        refine reg_takeO 3 (v := ?vb3) (atS (atS (atS at0))) (by kernel_rfl) (by kernel_rfl) (by kernel_rfl) (by rfl) ?hyb3 hHeld ?restb3
        case hyb3 => (intro w' hSw; go_simp; try with_reducible rfl)
        try simp only [Act.put, List.setIfInBounds_toArray, List.set_cons_zero, List.set_cons_succ]
        refine wpAnyH_ready (rs := [2]) (by kernel_rfl) (by simp) ?_
        refine AllReadyH.cons (atS (atS at0)) (fun K hK => ?_) AllReadyH.nil
        go_simp
        refine (word_any HD0.out x m0 HM0.out HMC.out).mono ?_
        rintro e w4 ⟨rfl, rfl⟩
        go_wp2_with fail
        refine hK.out _ _ (ExO.refl _ _) (fun hHeld => ?_)
        clear hK K
        try simp only [Act.put, List.setIfInBounds_toArray, List.set_cons_zero, List.set_cons_succ]
        obtain ⟨w5, hrun5, hrow5, hg5⟩ := HD0.out.row.copy (off := m0) (m := 8) (k := cap - m0) HRd.out (Nat.le_refl _) HMC.out 3
        have hg5 : ExO (some g) w4 w5 := hg5
        refine wpAnyH_ready (rs := [4]) (by kernel_rfl) (by simp) ?_
        refine AllReadyH.cons (atS (atS (atS (atS at0)))) (fun K hK => ?_) AllReadyH.nil
        refine step_copyM (by rfl) (.tmp 25) (.tmp 26) (by rfl) (by rfl) (by rfl) hrun5 ?_
        refine hK.out _ _ hg5 (fun hHeld => ?_)
        clear hK K
        try simp only [Act.put, List.setIfInBounds_toArray, List.set_cons_zero, List.set_cons_succ]
        refine wpAnyH_done (by kernel_rfl) ?_ _
        refine NoPanic.normal ?_
        have HD5 : Hid (Dev w5 B d g cap lb fb (crS S L (fun k => !(left k && !decide (k = x)) && !decide (k ∈ l))) L F) := by
          have e : setL (crS S L (fun k => !left k && !decide (k ∈ l))) m0 y = crS S L (fun k => !(left k && !decide (k = x)) && !decide (k ∈ l)) := by
            rw [crS_set HM0.out HM8.out HLy.out HKY.out.2.2]
            exact crS_congr fun k z hl => by
              by_cases e : k = x
              · subst e; simp [hin]
              · simp [e]
          rw [← e]
          exact HD0.out.setS hg5 hrow5 (setL_length _ _ _ (by have := HKY.out.2.2; have := HMC.out; omega))
        have HB5 : Hid (Fr g lb fb w w5) := Fr.row ((Fr.alloc HB1.out _).heap hh0.out hx0) hg5
        have HR5 : Hid (MRg w5 lb r 8192 (lfun L) (fun z => left z && !decide (z = x)) cnt1) := (HRN.out.kept hx0 (by have := HD.out.gl; simp; omega) (by have := Hrg.out; simp; omega)).kept hg5 (by have := HD.out.gl; simp; omega) (by have := Hrg.out; simp; omega)
        have HM5 : Hid (Mp w5 mb m (inF l)) := ((HM1.out.alloc _).kept hx0 (by have := Hgm.out; simp; omega)).kept hg5 (by have := Hgm.out; simp; omega)
        have HQ5 : Hid (w5.heap[q]? = some (.cells #[.map (some mb)] 83 (0, 0))) := by
          have h1 := ((B1 w1 (.cells #[.int .u8 n0, .int .u8 n1, .int .u8 n2, .int .u8 n3, .int .u8 n4, .int .u8 n5, .int .u8 n6, .int .u8 n7] 87)).block q (row_lt HQ1.out)).trans HQ1.out
          have h2 := (hx0.block q (row_lt h1) (by have := Hgq.out; simp; omega)).trans h1
          exact (hg5.block q (row_lt h2) (by have := Hgq.out; simp; omega)).trans h2
        clear hrun5 hrow5 HD0 HRd
        go_wp2_with fail
        refine ⟨⟨fun z => left z && !decide (z = x), cnt1, HR5, HD5, HQ5, HM5, HB5⟩, ?_⟩
        rw [HR5.out.left_eq, HMe.out]; exact HLT.out
end Go.Proofs.Ytpmljbcgaeodjaa
