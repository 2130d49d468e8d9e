/-
  The walk of ChangeBack.
-/
import Derived.Test.YtjodbopnibdolaaM36

namespace Go.Proofs.Ytjodbopnibdolaa
open Go.RowKit
set_option linter.unusedVariables false
set_option linter.unusedSimpArgs false

theorem infoI1 : (Try.prog.info? 3).map (fun i => (i.zero, i.size, i.bytes)) = some (some (.int .i64 0), 1, 8) := by kernel_rfl
theorem run_makeI (m : Nat) (hm : m ≤ 1000000) (w : World) :
    (Instr.makeSlice 28 (.int .i64 m) (.int .i64 m)).run Try.prog w = .ok (.slice (some ⟨w.heap.size, 0, none⟩) m m) (w.alloc (.cells ((List.replicate m (0 : Int)).map iv).toArray 3)) := by
  have h := infoI1
  cases hi : Try.prog.info? 3 with
  | none => rw [hi] at h; cases h
  | some i =>
    rw [hi] at h
    simp only [Option.map_some, Option.some.injEq, Prod.mk.injEq] at h
    obtain ⟨hz, hs, hb⟩ := h
    have hr := run_make (P := Try.prog) w 28 3 i (.int .i64 0) Try.underlying28 hi hz .i64 .i64 m m (by omega) (by omega) (by rw [hb]; omega) (by omega)
    rw [hr, hs]
    have e : (madeCells (Value.int IntKind.i64 0).cells (((m : Int)).toNat * 1)) = ((List.replicate m (0 : Int)).map iv).toArray := by
      have h2 := toList_madeCells_one (.int .i64 0) m
      have h3 : (Value.int IntKind.i64 0).cells = #[.int .i64 0] := rfl
      rw [h3]
      apply Array.toList_inj.1
      simp only [Int.toNat_natCast, Nat.mul_one]
      rw [h2, List.map_replicate]; rfl
    rw [e]; simp
theorem rowI_set {L : List Int} {i : Nat} (x : Int) : (L.map iv).toArray.setIfInBounds i (.int .i64 x) = ((L.set i x).map iv).toArray := by
  rw [List.setIfInBounds_toArray, List.map_set]; rfl
theorem rowI_rd {w : World} {g : Nat} {L : List Int} (h : w.heap[g]? = some (.cells (L.map iv).toArray 3 (0, 0))) (hx : ∀ x ∈ L, I64 x) (hl : L.length ≤ 1000000) : RdI w w.heap.size (some ⟨g, 0, none⟩) L.length L.length L :=
  ⟨rfl, Nat.le_refl _, by unfold maxLen; omega, hx, fun _ => ⟨g, 0, rfl, row_lt h, fun i hi => by rw [row_cell h, Nat.zero_add]; simp [hi, iv]⟩⟩
theorem backL_I64 {n : Nat} {od : List Int} (hn : n ≤ 1000) : ∀ j, j ≤ 1000 → ∀ x ∈ backL n od j, I64 x
  | 0, _, x, hx => by
    rw [show backL n od 0 = List.replicate n 0 from rfl, List.mem_replicate] at hx
    rw [hx.2]; exact i64_iff.2 ⟨by omega, by omega⟩
  | j + 1, hj, x, hx => by
    cases h : od[j]? with
    | none =>
      have e : backL n od (j + 1) = backL n od j := by
        show (match od[j]? with | some x => (backL n od j).set x.toNat (j : Int) | none => backL n od j) = _
        rw [h]
      rw [e] at hx; exact backL_I64 hn j (by omega) x hx
    | some y =>
      rw [backL_succ h] at hx
      rcases List.mem_or_eq_of_mem_set hx with h1 | h1
      · exact backL_I64 hn j (by omega) x h1
      · subst h1; exact i64_iff.2 ⟨by omega, by omega⟩
theorem okOd (od : List Int) : chOk (cOd od) := 
  have z : I64 0 := i64_iff.2 (by decide)
  have u : U64 0 := ⟨Int.le_refl _, by rw [pw8]; decide⟩
  ⟨(show I64 5 from i64_iff.2 (by decide)), z, z, z, u, by show 0 ≤ 100000; omega⟩
theorem okRn (nm to : List UInt8) (h : to.length ≤ 100000) : chOk (cRn nm to) :=
  have z : I64 0 := i64_iff.2 (by decide)
  have u : U64 0 := ⟨Int.le_refl _, by rw [pw8]; decide⟩
  ⟨(show I64 3 from i64_iff.2 (by decide)), z, z, z, u, h⟩
theorem rdC_nil (w : World) : RdC w w.heap.size none 0 0 [] := ⟨rfl, by omega, by unfold maxLen; omega, by simp, fun h => by omega⟩

set_option maxRecDepth 20000 in
set_option maxHeartbeats 16000000 in
theorem walk_ChangeBack (A : Option Addr) (n cp : Nat) (l : List Fd) (Ao : Option Addr) (no co : Nat) (od : List Int) (nmb : ByteArray) (w : World) (h : RdF w w.heap.size A n cp l) (ho : RdI w w.heap.size Ao no co od) (hnb : nmb.size ≤ maxLen) :
    Calls Try.prog 4 #[.slice A n cp, .slice Ao no co, .string nmb] w fun e w' => e = .returned (.bool true) ∧ Below w.heap.size w w' := by
  obtain ⟨x, rfl⟩ : ∃ x, nmb = bs x := ⟨nmb.data.toList, by unfold bs; simp⟩
  have hxl : (x.length : Int) ≤ 9223372036854775807 := by
    have : (bs x).size = x.length := by unfold bs; rfl
    unfold maxLen at hnb; omega
  have hnoi : (no : Int) ≤ 9223372036854775807 := by have := Nat.le_trans ho.2.1 ho.2.2.1; unfold maxLen at this; omega
  have H := hid h; have HO := hid ho
  have HLN : Hid (l.length = n) := hid h.1
  have HON : Hid (od.length = no) := hid ho.1
  clear h ho hnb
  go_enter Try.func4, Try.ntmps4
  go_wp2_with fail
  refine (few8_any H.out (rdC_nil _) (by simp)).mono ?_
  rintro e w1 ⟨fb, rfl, hfew, hb1⟩
  have HFEW := hid hfew; have HB1 := hid hb1
  clear hfew hb1
  cases fb with
  | false =>
    go_wp2_with fail
    refine (alive8_any _).mono ?_
    rintro e w3 ⟨rfl, hb3⟩
    go_wp2_with fail
    go_ret
    exact ⟨rfl, Bt HB1.out hb3⟩
  | true =>
    have HF := hid (HFEW.out rfl)
    go_wp2_with fail
    refine (r6right_any (H.out.on HB1.out) (few_short HF.out)).mono ?_
    rintro e w2 ⟨rfl, hb2⟩
    have HB2 := hid (Bt HB1.out hb2)
    clear hb2
    cases hr : rightL l with
    | false =>
      clear hr
      go_wp2_with fail
      refine (alive8_any _).mono ?_
      rintro e w3 ⟨rfl, hb3⟩
      go_wp2_with fail
      go_ret
      exact ⟨rfl, Bt HB2.out hb3⟩
    | true =>
      have HR := hid hr
      have hn16 : (n : Int) ≤ 16 := by have := right_len hr; have := HLN.out; omega
      clear hr
      by_cases h40 : (40 : Int) < no
      · have t1 : decide ((40 : Int) < no) = true := decide_eq_true h40
        go_wp2_with fail
        refine (alive8_any _).mono ?_
        rintro e w3 ⟨rfl, hb3⟩
        go_wp2_with fail
        go_ret
        exact ⟨rfl, Bt HB2.out hb3⟩
      · have t1 : decide ((40 : Int) < no) = false := decide_eq_false h40
        by_cases h100 : (100 : Int) < x.length
        · have t2 : decide ((100 : Int) < x.length) = true := decide_eq_true h100
          go_wp2_with fail
          refine (alive8_any _).mono ?_
          rintro e w3 ⟨rfl, hb3⟩
          go_wp2_with fail
          go_ret
          exact ⟨rfl, Bt HB2.out hb3⟩
        · have t2 : decide ((100 : Int) < x.length) = false := decide_eq_false h100
          have HXL : Hid (x.length ≤ 100) := hid (by omega)
          have HNO : Hid (no ≤ 40) := hid (by omega)
          clear h40 h100
          go_wp2_with fail
          refine (p8apply_any (c := cOd od) (H.out.on HB2.out) (few_short HF.out) (okOd od) (HO.out.on HB2.out)).mono ?_
          rintro e w3 ⟨A3, n3, c3, rfl, h3, hb3⟩
          have HB3 := hid (Bt HB2.out hb3)
          have H3 := hid h3
          clear hb3 h3 t1 t2
          obtain ⟨me, hme⟩ : ∃ me, me = mkE l (cOd od) := ⟨_, rfl⟩
          rw [← hme]
          have HME := hid hme
          clear hme
          -- both ways
          by_cases hm0 : me = 0
          · subst hm0
            have HMO := hid (mk_od HME.out.symm)
            have HBKO := hid (od_back HME.out.symm)
            rw [HMO.out.2] at H3 HBKO
            have HMEM := hid (allB_mem HMO.out.1)
            have HNN : Hid (no = n) := hid (by have := (allB_iff.1 HMO.out.1).1; have := HON.out; have := HLN.out; omega)
            have hmk := run_makeI n (by omega)
            obtain ⟨cs0, hcs0⟩ : ∃ cs0, cs0 = ((List.replicate n (0 : Int)).map iv).toArray := ⟨_, rfl⟩
            rw [← hcs0] at hmk
            obtain ⟨g, hg⟩ : ∃ g, g = w3.heap.size := ⟨_, rfl⟩
            obtain ⟨w4, hw4⟩ : ∃ w4, w4 = w3.alloc (.cells cs0 3) := ⟨_, rfl⟩
            have HG := hid hg; have HW4 := hid hw4
            have HG4 : Hid (w4.heap[g]? = some (.cells ((backL n od 0).map iv).toArray 3 (0, 0))) := by rw [hw4, hg, hcs0]; exact hid (heap_alloc_new _ _)
            have HB34 : Hid (Below w3.heap.size w3 w4) := by rw [hw4]; exact hid (B1 _ _)
            clear hg hw4 hcs0
            go_upto_region 6 with fail
            rw [← HW4.out, ← HG.out]
            clear hmk
            go_wp2_with fail
            go_loopw [51] (fun i wr => ∃ j : Nat, j ≤ no ∧ i = .int .i64 j ∧ Hid (wr.heap[g]? = some (.cells ((backL n od j).map iv).toArray 3 (0, 0))) ∧ Hid (Below w3.heap.size w3 wr)) (fun i _ => no - (intOf i).toNat)
            case atStart => exact ⟨0, by omega, rfl, HG4, HB34⟩
            case round =>
              obtain ⟨j, hj, rfl, HGJ, HBJ⟩ := hrel
              by_cases hlt : j < no
              · obtain ⟨y, hy⟩ : ∃ y, od[j]? = some y := ⟨_, List.getElem?_eq_getElem (by have := HON.out; omega)⟩
                obtain ⟨hy0, hy1⟩ := HMEM.out y (List.mem_of_getElem? hy)
                rw [HLN.out] at hy1
                obtain ⟨_, _, ob, oo, rfl, hoc⟩ := HO.out.at hy
                have o0 := hoc wr (Bt HB3.out HBJ.out)
                have hji : (j : Int) < no := by omega
                have hj0 : (0 : Int) ≤ j := by omega
                have ty0 : decide (y < 0) = false := decide_eq_false (by omega)
                have ty1 : decide ((n : Int) ≤ y) = false := decide_eq_false (by omega)
                have fz := row_frozen HGJ.out y.toNat
                obtain ⟨cu, hcu⟩ : ∃ cu, wr.cell? ⟨g, y.toNat, none⟩ = some cu := ⟨_, by rw [row_cell HGJ.out, Array.getElem?_eq_getElem (by simp [backL_length]; omega)]⟩
                obtain ⟨w5, hw5⟩ : ∃ w5, w5 = wr.setCell ⟨g, y.toNat, none⟩ (.int .i64 (j : Int)) := ⟨_, rfl⟩
                have HW5 := hid hw5
                have HG5 : Hid (w5.heap[g]? = some (.cells ((backL n od (j + 1)).map iv).toArray 3 (0, 0))) := by
                  rw [hw5, backL_succ hy, ← rowI_set]; exact hid (row_set HGJ.out _ _)
                have HB5 : Hid (Below w3.heap.size w3 w5) := by rw [hw5]; exact hid (HBJ.out.setCell (p := ⟨g, y.toNat, none⟩) (show w3.heap.size ≤ g by rw [HG.out]; omega) _)
                clear hoc hy hw5
                go_upto_region 12 with fail
                rw [← HW5.out]
                go_wp2_with fail
                exact ⟨⟨j + 1, by omega, by go_num, HG5, HB5⟩, by simp [intOf]; omega⟩
              · obtain rfl : j = no := by omega
                have HGN : Hid (wr.heap[g]? = some (.cells ((backL n od n).map iv).toArray 3 (0, 0))) := hid (by have := HGJ.out; rw [HNN.out] at this; exact this)
                have HRI : Hid (RdI wr wr.heap.size (some ⟨g, 0, none⟩) n n (backL n od n)) := hid (by
                  have h1 := rowI_rd HGN.out (backL_I64 (by omega) n (by omega)) (by rw [backL_length]; omega)
                  rw [backL_length] at h1; exact h1)
                have HB6 := hid (Bt HB3.out HBJ.out)
                have H6 := hid (H3.out.on HBJ.out)
                have HSO : Hid (short (odF l od)) := hid (by
                  have := (mkT_short HME.out.symm).2; rwa [HMO.out.2] at this)
                rw [HLN.out] at HBKO
                go_wp2_with fail
                refine (p8apply_any (c := cOd (backL n od n)) H6.out HSO.out (okOd _) HRI.out).mono ?_
                rintro e w7 ⟨A5, n5, c5, rfl, h5, hb7⟩
                rw [HBKO.out.1]
                rw [HBKO.out.2] at h5
                have HB7 := hid (Bt HB6.out hb7)
                have H5 := hid h5
                clear h5 hb7
                go_wp2_with fail
                refine (r6same_any H5.out (H.out.on HB7.out)).mono ?_
                rintro e w8 ⟨rfl, hb8⟩
                rw [decide_eq_true rfl]
                have HB8 := hid (Bt HB7.out hb8)
                clear hb8
                go_upto_region 16 with fail
                by_cases hn0 : n = 0
                · subst hn0
                  go_wp2_with fail
                  refine (alive8_any _).mono ?_
                  rintro e wr1 ⟨rfl, hbr1⟩
                  go_wp2_with fail
                  go_ret
                  exact ⟨rfl, Bt HB8.out hbr1⟩
                · obtain ⟨f, hf⟩ : ∃ f, l[0]? = some f := ⟨_, List.getElem?_eq_getElem (by have := HLN.out; omega)⟩
                  have hnn : ((n : Int) == 0) = false := by simpa using hn0
                  have hn1 : (0 : Int) < n := by omega
                  have HFF := hid hf
                  obtain ⟨_, _, _, hfn, fb, fo, rfl, hfc⟩ := (H.out.on HB8.out).at hf
                  have HFC := hid hfc
                  obtain ⟨f0, f1, f2⟩ := hfc _ (B0 _)
                  rw [Nat.zero_mul, Nat.add_zero] at f0 f1 f2
                  have HFS : Hid (f.nm.length ≤ 100000) := hid (few_short HF.out f (List.mem_of_getElem? hf))
                  clear hfc hf hn0
                  go_wp2_with fail
                  refine (p8apply_any (c := cRn f.nm x) (A2 := none) (n2 := 0) (c2 := 0) (H.out.on HB8.out) (few_short HF.out) (okRn f.nm x (by have := HXL.out; omega)) (RdI.nil _ _)).mono ?_
                  rintro e wr1 ⟨A7, n7, c7, rfl, h7, hbr1⟩
                  have HBR1 := hid (Bt HB8.out hbr1)
                  have H7 := hid h7
                  have HFC1 := hid (fun w' h => HFC.out w' (Bt hbr1 h))
                  clear h7 hbr1 f0 f1 f2
                  obtain ⟨mg, hmg⟩ : ∃ mg, mg = mkE l (cRn f.nm x) := ⟨_, rfl⟩
                  rw [← hmg]
                  have HMG := hid hmg
                  clear hmg
                  by_cases hg0 : mg = 0
                  · subst hg0
                    have HBK := hid (rn_back HR.out HFF.out (to := x) HMG.out.symm)
                    rw [HBK.out.1] at H7
                    have HSY : Hid (short (l.set 0 ⟨x, f.k, f.g⟩)) := hid (fun g hg => by
                      rcases List.mem_or_eq_of_mem_set hg with h1 | h1
                      · exact few_short HF.out g h1
                      · subst h1; show x.length ≤ _; have := HXL.out; omega)
                    obtain ⟨f0, f1, f2⟩ := HFC1.out _ (B0 _)
                    rw [Nat.zero_mul, Nat.add_zero] at f0 f1 f2
                    go_wp2_with fail
                    refine (p8apply_any (c := cRn x f.nm) (A2 := none) (n2 := 0) (c2 := 0) H7.out HSY.out (okRn x f.nm HFS.out) (RdI.nil _ _)).mono ?_
                    rintro e wr2 ⟨A8, n8, c8, rfl, h8, hbr2⟩
                    rw [HBK.out.2.1]
                    rw [HBK.out.2.2] at h8
                    have HBR2 := hid (Bt HBR1.out hbr2)
                    have H8 := hid h8
                    clear h8 hbr2 f0 f1 f2
                    go_wp2_with fail
                    refine (alive8_any _).mono ?_
                    rintro e wr3 ⟨rfl, hbr3⟩
                    have HBR3 := hid (Bt HBR2.out hbr3)
                    have H83 := hid (H8.out.on hbr3)
                    clear hbr3
                    go_wp2_with fail
                    refine (r6same_any H83.out (H.out.on HBR3.out)).mono ?_
                    rintro e wr4 ⟨rfl, hbr4⟩
                    rw [decide_eq_true rfl]
                    go_wp2_with fail
                    go_ret
                    exact ⟨rfl, Bt HBR3.out hbr4⟩
                  · have tg : (mg != 0) = true := by simpa using hg0
                    have HNO2 : Hid (nameB x = true → 0 < findI l x) := hid (rn_no HR.out HFF.out (by rw [← HMG.out]; exact hg0))
                    clear hg0
                    go_wp2_with fail
                    refine (alive8_any _).mono ?_
                    rintro e wr3 ⟨rfl, hbr3⟩
                    have HBR3 := hid (Bt HBR1.out hbr3)
                    clear hbr3
                    go_wp2_with fail
                    refine (r6name_any x (by have := HXL.out; omega)).mono ?_
                    rintro e wr4 ⟨rfl, hbr4⟩
                    have HBR4 := hid (Bt HBR3.out hbr4)
                    clear hbr4
                    cases hnb : nameB x with
                    | false =>
                      clear hnb
                      go_wp2_with fail
                      go_ret
                      exact ⟨rfl, HBR4.out⟩
                    | true =>
                      have hpos := HNO2.out hnb
                      clear hnb
                      go_wp2_with fail
                      refine (r6find_any (H.out.on HBR4.out) x).mono ?_
                      rintro e wr5 ⟨rfl, hbr5⟩
                      obtain ⟨fi, hfi⟩ : ∃ fi, fi = findI l x := ⟨_, rfl⟩
                      rw [← hfi] at hpos ⊢
                      have tf : decide (0 < fi) = true := decide_eq_true hpos
                      clear hfi
                      go_wp2_with fail
                      go_ret
                      exact ⟨rfl, Bt HBR4.out hbr5⟩
          · have tm : (me == 0) = false := by simpa using hm0
            clear hm0
            go_upto_region 16 with fail
            by_cases hn0 : n = 0
            · subst hn0
              go_wp2_with fail
              refine (alive8_any _).mono ?_
              rintro e wr1 ⟨rfl, hbr1⟩
              go_wp2_with fail
              go_ret
              exact ⟨rfl, Bt HB3.out hbr1⟩
            · obtain ⟨f, hf⟩ : ∃ f, l[0]? = some f := ⟨_, List.getElem?_eq_getElem (by have := HLN.out; omega)⟩
              have hnn : ((n : Int) == 0) = false := by simpa using hn0
              have hn1 : (0 : Int) < n := by omega
              have HFF := hid hf
              obtain ⟨_, _, _, hfn, fb, fo, rfl, hfc⟩ := (H.out.on HB3.out).at hf
              have HFC := hid hfc
              obtain ⟨f0, f1, f2⟩ := hfc _ (B0 _)
              rw [Nat.zero_mul, Nat.add_zero] at f0 f1 f2
              have HFS : Hid (f.nm.length ≤ 100000) := hid (few_short HF.out f (List.mem_of_getElem? hf))
              clear hfc hf hn0
              go_wp2_with fail
              refine (p8apply_any (c := cRn f.nm x) (A2 := none) (n2 := 0) (c2 := 0) (H.out.on HB3.out) (few_short HF.out) (okRn f.nm x (by have := HXL.out; omega)) (RdI.nil _ _)).mono ?_
              rintro e wr1 ⟨A7, n7, c7, rfl, h7, hbr1⟩
              have HBR1 := hid (Bt HB3.out hbr1)
              have H7 := hid h7
              have HFC1 := hid (fun w' h => HFC.out w' (Bt hbr1 h))
              clear h7 hbr1 f0 f1 f2
              obtain ⟨mg, hmg⟩ : ∃ mg, mg = mkE l (cRn f.nm x) := ⟨_, rfl⟩
              rw [← hmg]
              have HMG := hid hmg
              clear hmg
              by_cases hg0 : mg = 0
              · subst hg0
                have HBK := hid (rn_back HR.out HFF.out (to := x) HMG.out.symm)
                rw [HBK.out.1] at H7
                have HSY : Hid (short (l.set 0 ⟨x, f.k, f.g⟩)) := hid (fun g hg => by
                  rcases List.mem_or_eq_of_mem_set hg with h1 | h1
                  · exact few_short HF.out g h1
                  · subst h1; show x.length ≤ _; have := HXL.out; omega)
                obtain ⟨f0, f1, f2⟩ := HFC1.out _ (B0 _)
                rw [Nat.zero_mul, Nat.add_zero] at f0 f1 f2
                go_wp2_with fail
                refine (p8apply_any (c := cRn x f.nm) (A2 := none) (n2 := 0) (c2 := 0) H7.out HSY.out (okRn x f.nm HFS.out) (RdI.nil _ _)).mono ?_
                rintro e wr2 ⟨A8, n8, c8, rfl, h8, hbr2⟩
                rw [HBK.out.2.1]
                rw [HBK.out.2.2] at h8
                have HBR2 := hid (Bt HBR1.out hbr2)
                have H8 := hid h8
                clear h8 hbr2 f0 f1 f2
                go_wp2_with fail
                refine (alive8_any _).mono ?_
                rintro e wr3 ⟨rfl, hbr3⟩
                have HBR3 := hid (Bt HBR2.out hbr3)
                have H83 := hid (H8.out.on hbr3)
                clear hbr3
                go_wp2_with fail
                refine (r6same_any H83.out (H.out.on HBR3.out)).mono ?_
                rintro e wr4 ⟨rfl, hbr4⟩
                rw [decide_eq_true rfl]
                go_wp2_with fail
                go_ret
                exact ⟨rfl, Bt HBR3.out hbr4⟩
              · have tg : (mg != 0) = true := by simpa using hg0
                have HNO2 : Hid (nameB x = true → 0 < findI l x) := hid (rn_no HR.out HFF.out (by rw [← HMG.out]; exact hg0))
                clear hg0
                go_wp2_with fail
                refine (alive8_any _).mono ?_
                rintro e wr3 ⟨rfl, hbr3⟩
                have HBR3 := hid (Bt HBR1.out hbr3)
                clear hbr3
                go_wp2_with fail
                refine (r6name_any x (by have := HXL.out; omega)).mono ?_
                rintro e wr4 ⟨rfl, hbr4⟩
                have HBR4 := hid (Bt HBR3.out hbr4)
                clear hbr4
                cases hnb : nameB x with
                | false =>
                  clear hnb
                  go_wp2_with fail
                  go_ret
                  exact ⟨rfl, HBR4.out⟩
                | true =>
                  have hpos := HNO2.out hnb
                  clear hnb
                  go_wp2_with fail
                  refine (r6find_any (H.out.on HBR4.out) x).mono ?_
                  rintro e wr5 ⟨rfl, hbr5⟩
                  obtain ⟨fi, hfi⟩ : ∃ fi, fi = findI l x := ⟨_, rfl⟩
                  rw [← hfi] at hpos ⊢
                  have tf : decide (0 < fi) = true := decide_eq_true hpos
                  clear hfi
                  go_wp2_with fail
                  go_ret
                  exact ⟨rfl, Bt HBR4.out hbr5⟩
end Go.Proofs.Ytjodbopnibdolaa
