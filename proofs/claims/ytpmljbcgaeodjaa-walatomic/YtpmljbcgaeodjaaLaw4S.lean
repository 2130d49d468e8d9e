/-
  WalSeqs holds: for all lists of sets the statement answers true, and nothing that was there has turned.
-/
import Derived.Test.YtpmljbcgaeodjaaLaw4T
import Derived.Test.YtpmljbcgaeodjaaLiftS
import Derived.Deep.QuietTactic
import Derived.BigQuiet
namespace Go.Proofs.Ytpmljbcgaeodjaa
open Go.RowKit Go.Maps Go.Shelf
set_option linter.unusedVariables false

/-- What is wanted of words, behind sets. -/
def setW (W : List Int) (xs : List (Int × Int)) : List Int := xs.foldl (fun W x => W.set x.1.toNat x.2) W
theorem setW_length (W : List Int) : ∀ (xs : List (Int × Int)), (setW W xs).length = W.length := by
  intro xs
  induction xs generalizing W with
  | nil => rfl
  | cons x xs ih => show (setW (W.set x.1.toNat x.2) xs).length = _; rw [ih]; simp
theorem setW_take (W : List Int) {xs : List (Int × Int)} {k : Nat} {x : Int × Int} (h : xs[k]? = some x) : setW W (xs.take (k + 1)) = (setW W (xs.take k)).set x.1.toNat x.2 := by
  unfold setW; rw [List.take_add_one, h, List.foldl_append]; rfl
def u64V (W : List Int) : List Value := W.map fun x => .int .u64 x
/-- The words that are wanted stand there. -/
def WInv (S : List UInt8) (W : List Int) : Prop := S.length = 160 ∧ W.length = 20 ∧ (∀ x ∈ W, U64 x) ∧ ∀ (k : Nat) (h : k < W.length), ¬ (2 ≤ k ∧ k < 11) → wordOf S k = le W[k] 8
theorem word_set {S : List UInt8} {x : Int} {v : Int} (h0 : 0 ≤ x) (h : x * 8 + 8 ≤ S.length) (k : Nat) : wordOf (setL S (x * 8).toNat (le v 8)) k = if (k : Int) = x then le v 8 else wordOf S k := by
  by_cases hk : (k : Int) = x
  · rw [if_pos hk]
    unfold wordOf
    refine List.ext_getElem? fun i => ?_
    by_cases hi : i < 8
    · rw [List.getElem?_take_of_lt hi, List.getElem?_drop, setL_get _ _ _ (by rw [le_length]; omega), if_pos (by rw [le_length]; omega)]
      congr 1; omega
    · rw [List.getElem?_eq_none (by simp; omega), List.getElem?_eq_none (by rw [le_length]; omega)]
  · rw [if_neg hk]
    refine word_of_get (by omega) fun i h1 h2 => ?_
    rw [setL_get _ _ _ (by rw [le_length]; omega), if_neg (by rw [le_length]; omega)]
theorem winv_set {S : List UInt8} {W : List Int} (h : WInv S W) {x : Int × Int} (h0 : 0 ≤ x.1) (h1 : x.1 < 20) (hu : U64 x.2) : WInv (setL S (x.1 * 8).toNat (le x.2 8)) (W.set x.1.toNat x.2) := by
  obtain ⟨a, b, c, d⟩ := h
  refine ⟨by rw [setL_length _ _ _ (by rw [le_length]; omega)]; exact a, by simpa using b, fun y hy => ?_, fun k hk hr => ?_⟩
  · rcases List.mem_or_eq_of_mem_set hy with h | h
    · exact c y h
    · rw [h]; exact hu
  · simp at hk
    rw [word_set h0 (by omega) k]
    by_cases hkx : (k : Int) = x.1
    · rw [if_pos hkx]
      have : x.1.toNat = k := by omega
      rw [List.getElem_set, if_pos this]
    · rw [if_neg hkx, List.getElem_set, if_neg (by omega)]
      exact d k hk hr
theorem winv_bring : ∀ {xs : List (Int × Int)} {S : List UInt8} {W : List Int}, WInv S W → (∀ x ∈ xs, 0 ≤ x.1 ∧ x.1 < 20 ∧ U64 x.2) → WInv (bringL S xs) (setW W xs) := by
  intro xs
  induction xs with
  | nil => intro S W h _; exact h
  | cons x xs ih =>
    intro S W h hx
    have h1 := hx x (by simp)
    exact ih (winv_set h h1.1 h1.2.1 h1.2.2) (fun y hy => hx y (by simp [hy]))
theorem winv_rec {S : List UInt8} {W : List Int} (h : WInv S W) {next : Int} {xs : List (Int × Int)} (hl : xs.length ≤ 4) : WInv (recW S 2 next xs) W := by
  obtain ⟨a, b, c, d⟩ := h
  have hlen : (headL xs.length next (bodyL xs) ++ bodyL xs).length = 8 + xs.length * 16 := by rw [List.length_append, headL_length, bodyL_length]
  refine ⟨by unfold recW; rw [setL_length _ _ _ (by rw [hlen]; omega)]; exact a, b, c, fun k hk hr => ?_⟩
  rw [← d k hk hr]
  unfold recW
  refine word_of_get (by omega) fun i h1 h2 => ?_
  rw [setL_get _ _ _ (by rw [hlen]; omega), if_neg (by rw [hlen]; omega)]
theorem winv_zero : WInv (zeros 160) (List.replicate 20 0) := by
  refine ⟨zeros_length 160, by simp, fun x hx => by rw [List.eq_of_mem_replicate hx]; unfold U64; rw [pw8]; omega, fun k hk _ => ?_⟩
  rw [List.getElem_replicate]
  simp at hk
  unfold wordOf zeros
  rw [List.drop_replicate, List.take_replicate, show min 8 (160 - ((k : Int) * 8).toNat) = 8 by omega]
  decide
theorem winv_byte {S : List UInt8} {W : List Int} (h : WInv S W) {k i : Nat} (hk : k < W.length) (hr : ¬ (2 ≤ k ∧ k < 11)) (hi : i < 8) : ∃ hlt : 8 * k + i < S.length, bv (S[8 * k + i]'hlt) = .int .u8 (W[k] / pw i % 256) := by
  obtain ⟨a, b, c, d⟩ := h
  have hlt : 8 * k + i < S.length := by omega
  refine ⟨hlt, ?_⟩
  have hw := d k hk hr
  have hg := congrArg (fun l : List UInt8 => l[i]?) hw
  have e1 : (wordOf S k)[i]? = S[8 * k + i]? := by
    unfold wordOf
    rw [List.getElem?_take_of_lt hi, List.getElem?_drop]; congr 1; omega
  have e2 : (le W[k] 8)[i]? = some (byteAt W[k] i) := by
    match i, hi with
    | 0, _ => rfl
    | 1, _ => rfl
    | 2, _ => rfl
    | 3, _ => rfl
    | 4, _ => rfl
    | 5, _ => rfl
    | 6, _ => rfl
    | 7, _ => rfl
  have hg' : S[8 * k + i]? = some (byteAt W[k] i) := by rw [← e1, ← e2]; exact hg
  rw [List.getElem?_eq_getElem hlt] at hg'
  rw [Option.some.inj hg', bv_byteAt]

theorem info64 : (Try.prog.info? 40).map (fun i => (i.zero, i.size, i.bytes)) = some (some (.int .u64 0), 1, 8) := by kernel_rfl
theorem run_make20 (w : World) :
    (Instr.makeSlice 49 (.int .i64 20) (.int .i64 20)).run Try.prog w = .ok (.slice (some ⟨w.heap.size, 0, none⟩) 20 20) (w.alloc (.cells (u64V (List.replicate 20 0)).toArray 40)) := by
  have h := info64
  cases hi : Try.prog.info? 40 with
  | none => rw [hi] at h; cases h
  | some i =>
    rw [hi] at h
    simp only [Option.map_some, Option.some.injEq, Prod.mk.injEq] at h
    obtain ⟨hz, hs, hb⟩ := h
    have hr := run_make (P := Try.prog) w 49 40 i (.int .u64 0) Try.underlying49 hi hz .i64 .i64 20 20 (by omega) (by omega) (by rw [hb]; omega) (by omega)
    rw [hr, hs]
    have e : (madeCells (Value.int IntKind.u64 0).cells (((20 : Int)).toNat * 1)) = (u64V (List.replicate 20 0)).toArray := by
      have h2 := toList_madeCells_one (.int .u64 0) 20
      have h3 : (Value.int IntKind.u64 0).cells = #[.int .u64 0] := rfl
      rw [h3]
      apply Array.toList_inj.1
      rw [show ((20 : Int).toNat * 1) = 20 from rfl, h2]; rfl
    rw [e]; rfl
theorem frp_log {w w' : World} {p g lb fb q : Nat} {cs : Array Value} {t : TypeId} (h : w.heap[q]? = some (.cells cs t (0, 0))) (hf : FrP p g lb fb w w') (h1 : q ≠ p) (h2 : q ≠ g) (h3 : q ≠ lb) (h4 : q ≠ fb) : w'.heap[q]? = some (.cells cs t (0, 0)) :=
  (hf.block _ (row_lt h) h1 h2 h3 h4).trans h

set_option maxRecDepth 20000 in
set_option maxHeartbeats 16000000 in
theorem walk_WalSeqs (A : Option Addr) (n c : Nat) (ls : List SlS) (w : World) (h : RdSS w w.heap.size A n c ls) :
    Calls Try.prog 4 #[.slice A n c] w fun e w' => e = .returned (.bool true) ∧ Below w.heap.size w w' := by
  have HRD := hid h
  have HN : Hid (ls.length = n) := h.1
  have hnm : (n : Int) ≤ 9223372036854775807 := by have := h.2.1; have := h.2.2.1; unfold maxLen at *; omega
  clear h
  by_cases hbig : 30 < (n : Int)
  · have d1 : decide (30 < (n : Int)) = true := by simp; omega
    go_enter Try.func4, Try.ntmps4
    go_wp2_with fail
    refine (new_ok 20 160 rfl (by decide) (by decide) w).mono ?_
    rintro e w1 ⟨d, g, lb, fb, rfl, hd1, hb1⟩
    clear hd1
    go_wp2_with fail
    refine (alive_any _).mono ?_
    rintro e w2 ⟨rfl, hb⟩
    go_wp2_with fail
    go_ret
    exact ⟨rfl, Bt hb1 hb⟩
  · have d1 : decide (30 < (n : Int)) = false := by simp; omega
    have hn50 : (n : Int) ≤ 30 := by omega
    clear hbig hnm
    go_enter Try.func4, Try.ntmps4
    go_wp2_with fail
    refine (new_ok 20 160 rfl (by decide) (by decide) w).mono ?_
    rintro e w1 ⟨d, g, lb, fb, rfl, hd1, hb1⟩
    have HD1 := hid (DevS.clean hd1); have HB1 := hid hb1
    clear hd1 hb1
    go_wp2_with fail
    refine (open_ok (S := zeros 160) (n := 20) HD1.out len20 b20.2.2).mono ?_
    rintro e w2 ⟨p, rfl, hl2, hp2, hb2⟩
    rw [b20.2.1] at hl2
    have HL2 : Hid (LogV w2 p d 2 9 1) := hl2
    have HB2 := hid (Bt HB1.out hb2); have HP : Hid (w.heap.size ≤ p) := Nat.le_trans HB1.out.size hp2
    have HD2 : Hid (DevS w2 w.heap.size d g 160 lb fb (cl (zeros 160))) := Dev.on HD1.out hb2
    clear hl2 hb2 hp2
    obtain ⟨w3, hw3⟩ : ∃ w3, w3 = w2.alloc (.cells (u64V (List.replicate 20 0)).toArray 40) := ⟨_, rfl⟩
    have hmk := run_make20 w2
    rw [← hw3] at hmk
    have hb3 : Below w2.heap.size w2 w3 := by rw [hw3]; exact B1 _ _
    have hq3 : w3.heap[w2.heap.size]? = some (.cells (u64V (List.replicate 20 0)).toArray 40 (0, 0)) := by rw [hw3]; exact heap_alloc_new _ _
    obtain ⟨q, hq⟩ : ∃ q, q = w2.heap.size := ⟨_, rfl⟩
    rw [← hq] at hmk hq3
    have HD3 : Hid (DevS w3 w.heap.size d g 160 lb fb (cl (zeros 160))) := Dev.on HD2.out hb3
    have HL3 : Hid (LogV w3 p d 2 9 1) := (hb3.block _ (row_lt HL2.out)).trans HL2.out
    have HB3 := hid (Bt HB2.out hb3)
    have HQ3 := hid hq3
    have HQQ : Hid (w.heap.size ≤ q ∧ q ≠ p ∧ q ≠ g ∧ q ≠ lb ∧ q ≠ fb ∧ q ≠ d) := by
      have l1 := row_lt HL2.out; have l2 := Dev.glt HD2.out; have l3 := Dev.llt HD2.out; have l4 := Dev.flt HD2.out; have l5 := Dev.dlt HD2.out; have l6 := HB2.out.size
      exact ⟨by omega, by omega, by omega, by omega, by omega, by omega⟩
    clear hw3 hb3 hq3 hq
    go_wp2_with fail
    go_loopw [8, 55] (fun cn i wr => ∃ (j k : Nat) (S : List UInt8) (W : List Int), j ≤ n ∧ k ≤ j ∧ i = .int .i64 j ∧ cn = .int .i64 k ∧ Hid (DevS wr w.heap.size d g 160 lb fb (cl S)) ∧ Hid (LogV wr p d 2 9 ((k : Int) + 1)) ∧ Hid (wr.heap[q]? = some (.cells (u64V W).toArray 40 (0, 0))) ∧ Hid (WInv S W) ∧ Hid (Below w.heap.size w wr)) (fun _ i _ => n - (intOf i).toNat)
    case atStart => exact ⟨0, 0, zeros 160, List.replicate 20 0, Nat.zero_le _, Nat.le_refl _, rfl, rfl, HD3, HL3, HQ3, hid winv_zero, HB3⟩
    case round =>
      obtain ⟨j, k, S, W, hj, hkj, rfl, rfl, HD, HL, HQ, HI, HB⟩ := hrel
      by_cases hlt : j < n
      · have hjx : j < ls.length := by rw [HN.out]; exact hlt
        obtain ⟨b, off, rfl, hbl, hc⟩ := HRD.out.2.2.2.2 (by omega)
        obtain ⟨⟨sa, sn, sc, sl⟩, hsl⟩ : ∃ x, x = ls[j] := ⟨_, rfl⟩
        have hcj : wr.cell? ⟨b, off + j, none⟩ = some (.slice sa sn sc) := by
          have := (HB.out.cell (p := ⟨b, off + j, none⟩) hbl).trans (hc j hjx)
          rw [← hsl] at this; exact this
        have hrs : RdS w w.heap.size sa sn sc sl := by
          have := HRD.out.2.2.2.1 ls[j] (List.getElem_mem _)
          rw [← hsl] at this; exact this
        have HRS := hid hrs
        have HSN : Hid (sl.length = sn) := hrs.1
        have hsnm : (sn : Int) ≤ 9223372036854775807 := by have := hrs.2.1; have := hrs.2.2.1; unfold maxLen at *; omega
        clear hc hsl hrs hjx
        by_cases c1 : 20 < (sn : Int)
        · have d2 : decide (20 < (sn : Int)) = true := by simp; omega
          go_wp2_with fail
          go_roundw
          case rel => exact ⟨j + 1, k, S, W, by omega, by omega, by simp, rfl, HD, HL, HQ, HI, HB⟩
          case measure => simp [intOf]; omega
        · have d2 : decide (20 < (sn : Int)) = false := by simp; omega
          have hs20 : (sn : Int) ≤ 20 := by omega
          clear c1 hsnm
          go_wp2_with fail
          refine (own_any (HRS.out.on HB.out) (by have := HSN.out; omega)).mono ?_
          rintro e w6 ⟨v6, rfl, ho6, hb6⟩
          have hxok : ∀ x ∈ sl, I64 x.1 ∧ U64 x.2 := HRS.out.2.2.2.1
          obtain ⟨A6, c6, rfl⟩ := ho6.shape
          have hr6 := (ho6.rd hxok).1
          have HXO := hid hxok
          rw [HSN.out] at hr6 ⊢
          have HD6 : Hid (DevS w6 w.heap.size d g 160 lb fb (cl S)) := Dev.on HD.out hb6
          have HL6 : Hid (LogV w6 p d 2 9 ((k : Int) + 1)) := (hb6.block _ (row_lt HL.out)).trans HL.out
          have HQ6 : Hid (w6.heap[q]? = some (.cells (u64V W).toArray 40 (0, 0))) := (hb6.block _ (row_lt HQ.out)).trans HQ.out
          have HB6 := hid (Bt HB.out hb6)
          have hS20 : (20 : Int) = (((cl S).S.length : Nat) : Int) / 8 := by rw [show (cl S).S = S from rfl, HI.out.1]; rfl
          have HS20 := hid hS20
          have hcom := commit_any (N := 20) HD6.out hS20 (by decide) (by decide) (by decide) HL6.out hr6 (by omega) (by omega)
          obtain ⟨er, her⟩ : ∃ er, er = begE 20 2 9 ((k : Int) + 1) sl := ⟨_, rfl⟩
          rw [← her] at hcom
          have HC := hid hcom; have HER := hid her
          clear hcom ho6 hr6 hb6 her hxok hS20
          go_wp2_with fail
          refine HC.out.mono ?_
          rintro e w7 ⟨rfl, hd7, hl7, hf7⟩
          have HB7 := hid (HB6.out.trans (hf7.base HP.out (Dev.Bg HD6.out) (Dev.Bl HD6.out) (Dev.Bf HD6.out) HB6.out.size))
          have HQ7 := hid (frp_log HQ6.out hf7 HQQ.out.2.1 HQQ.out.2.2.1 HQQ.out.2.2.2.1 HQQ.out.2.2.2.2.1)
          by_cases hz : er = 0
          · subst hz
            rw [if_pos rfl, commit_clean (S := S) (n := 20) (words := 9) (show (20 : Int) = (S.length : Int) / 8 from HS20.out) (by decide) (by decide) (by decide) HER.out.symm] at hd7
            rw [if_pos rfl] at hl7
            obtain ⟨e1, e2, e3, e4⟩ := begE_ok HER.out.symm
            have hxr : ∀ x ∈ sl, 0 ≤ x.1 ∧ x.1 < 20 ∧ U64 x.2 := fun x hx => by
              have hm := List.all_eq_true.1 e2 x hx
              unfold mayB at hm
              simp only [Bool.and_eq_true, decide_eq_true_eq] at hm
              exact ⟨hm.1.1, hm.1.2, (HXO.out x hx).2⟩
            obtain ⟨S7, hS7⟩ : ∃ S7, S7 = bringL (recW S 2 ((k : Int) + 1) sl) sl := ⟨_, rfl⟩
            have HI7 : Hid (WInv S7 (setW W sl)) := by rw [hS7]; exact winv_bring (winv_rec HI.out (by omega)) hxr
            have HD7 : Hid (DevS w7 w.heap.size d g 160 lb fb (cl S7)) := by rw [hS7]; exact hd7
            have HL7 := hid hl7; have HXR := hid hxr
            have HWL : Hid (W.length = 20) := HI.out.2.1
            have q5 : IntKind.i64.wrap ((k : Int) + 1) = (k : Int) + 1 := by rw [IntKind.wrap_i64]; omega
            clear hd7 hl7 hf7 hS7 e1 e2 e3 e4 hxr
            go_wp2_with fail
            obtain ⟨W7, hW7⟩ : ∃ W7, W7 = w7 := ⟨_, rfl⟩
            have HW7 := hid hW7
            go_loopw [73] (fun i wr => ∃ t : Nat, t ≤ sn ∧ i = .int .i64 t ∧ Hid (wr.heap[q]? = some (.cells (u64V (setW W (sl.take t))).toArray 40 (0, 0))) ∧ Hid (W7.grownBy wr (some q))) (fun i _ => sn - (intOf i).toNat)
            case atStart => exact ⟨0, Nat.zero_le _, rfl, HQ7, hid (by rw [HW7.out]; exact grown_refl _ _)⟩
            case round =>
              obtain ⟨t, ht, rfl, HQt, HGt⟩ := hrel
              have hBt : Below w.heap.size w wr := by
                have h1 := HB7.out; rw [← HW7.out] at h1
                exact h1.grown HGt.out h1.size (fun i hi => by cases hi; exact HQQ.out.1)
              by_cases htl : t < sn
              · have htx : t < sl.length := by rw [HSN.out]; exact htl
                obtain ⟨b2, off2, hbe, hbl2, hc2⟩ := (HRS.out.below hBt).2.2.2.2 (by omega)
                subst hbe
                obtain ⟨hc3, hc4⟩ := hc2 t htx
                obtain ⟨⟨x1, x2⟩, hx⟩ : ∃ x, x = sl[t] := ⟨_, rfl⟩
                have HXk : Hid (sl[t]? = some (x1, x2)) := by rw [hx]; exact List.getElem?_eq_getElem htx
                have hxr := HXR.out (x1, x2) (by rw [hx]; exact List.getElem_mem _)
                rw [← hx] at hc3 hc4
                simp only at hc3 hc4 hxr
                obtain ⟨i1, hi1⟩ : ∃ i1 : Nat, (i1 : Int) = x1 := ⟨x1.toNat, by omega⟩
                subst hi1
                have hi20 : i1 < 20 := by omega
                obtain ⟨wa, hwa⟩ : ∃ wa, wa = wr.alloc (.cells #[.int .i64 (i1 : Int), .int .u64 x2] 42) := ⟨_, rfl⟩
                have hba : Below wr.heap.size wr wa := by rw [hwa]; exact B1 _ _
                have hqa := (hba.block _ (row_lt HQt.out)).trans HQt.out
                have hul : (u64V (setW W (sl.take t))).length = 20 := by unfold u64V; rw [List.length_map, setW_length]; exact HWL.out
                obtain ⟨old, hold⟩ : ∃ old, (u64V (setW W (sl.take t)))[i1]? = some old := ⟨_, List.getElem?_eq_getElem (by omega)⟩
                have hca : wa.cell? ⟨q, i1, none⟩ = some old := by rw [row_cell hqa]; simpa using hold
                have hfa := row_frozen hqa i1
                have hsa := row_set hqa i1 (.int .u64 x2)
                have hga : wr.grownBy wa none := by rw [hwa]; exact World.grownBy_alloc _ _ _
                have HGS : Hid (W7.grownBy (wa.setCell ⟨q, i1, none⟩ (.int .u64 x2)) (some q)) := by
                  have h1 : W7.grownBy wa (some q) := ⟨hga.os.trans HGt.out.os, hga.tape.trans HGt.out.tape, hga.output.trans HGt.out.output, Nat.le_trans HGt.out.size hga.size, fun i hi hne => (hga.block i (Nat.lt_of_lt_of_le hi HGt.out.size) (by simp)).trans (HGt.out.block i hi hne)⟩
                  exact grown_set h1 i1 _
                have HQS : Hid ((wa.setCell ⟨q, i1, none⟩ (.int .u64 x2)).heap[q]? = some (.cells (u64V (setW W (sl.take (t + 1)))).toArray 40 (0, 0))) := by
                  rw [setW_take W HXk.out]
                  have e : (u64V (setW W (sl.take t))).toArray.setIfInBounds i1 (.int .u64 x2) = (u64V ((setW W (sl.take t)).set ((i1 : Int)).toNat x2)).toArray := by
                    apply Array.toList_inj.1
                    rw [Array.toList_setIfInBounds]
                    unfold u64V
                    simp [List.map_set]
                  rw [← e]; exact hsa
                rw [hwa] at hca hfa
                have hWA := hid hwa
                clear hc2 hx htx hxr hsa hga hqa hba hold hul
                go_wp2_with fail
                rw [← hWA.out]
                go_roundw
                case rel => exact ⟨t + 1, by omega, by simp, HQS, HGS⟩
                case measure => simp [intOf]; omega
              · obtain rfl : t = sn := by omega
                have e : sl.take t = sl := by rw [← HSN.out]; exact List.take_length
                rw [e] at HQt
                have HBt := hid hBt
                have HDt : Hid (DevS wr w.heap.size d g 160 lb fb (cl S7)) := by
                  have h1 := HD7.out; rw [← HW7.out] at h1
                  exact Dev.cong h1 (HGt.out.block _ (Dev.dlt h1) (by have := HQQ.out; simp; omega)) (HGt.out.block _ (Dev.glt h1) (by have := HQQ.out; simp; omega)) (HGt.out.block _ (Dev.llt h1) (by have := HQQ.out; simp; omega)) (HGt.out.block _ (Dev.flt h1) (by have := HQQ.out; simp; omega))
                have HLt : Hid (LogV wr p d 2 9 (((k + 1 : Nat) : Int) + 1)) := by
                  have h1 := HL7.out; rw [← HW7.out] at h1
                  have h2 := (HGt.out.block _ (row_lt h1) (by have := HQQ.out; simp; omega)).trans h1
                  have e5 : ((k : Int) + 1 + 1) = (((k + 1 : Nat) : Int) + 1) := by omega
                  rw [← e5]; exact h2
                clear e hBt htl
                go_wp2_with fail
                go_roundw
                case rel => exact ⟨j + 1, k + 1, S7, setW W sl, by omega, by omega, by simp, by simp, HDt, HLt, HQt, HI7, HBt⟩
                case measure => simp [intOf]; omega
          · have hz2 : (er == 0) = false := by rw [beq_eq_false_iff_ne]; exact hz
            rw [if_neg hz] at hd7 hl7
            have HD7 := hid hd7; have HL7 := hid hl7
            clear hd7 hl7 hf7 hz
            go_wp2_with fail
            go_roundw
            case rel => exact ⟨j + 1, k, S, W, by omega, by omega, by simp, rfl, HD7, HL7, HQ7, HI, HB7⟩
            case measure => simp [intOf]; omega
      · obtain rfl : j = n := by omega
        clear hlt
        go_wp2_with fail
        refine (bytes_any HD.out).mono ?_
        rintro e w8 ⟨v8, rfl, ho8, hb8⟩
        have hS160 : (cl S).S.length = 160 := HI.out.1
        obtain ⟨q8, c8, cs8, rfl, g1, g2, g3, g4, g5⟩ := own_at ho8 (by rw [hS160]; omega)
        rw [hS160] at g2 ⊢
        have HCS : Hid (∀ i (h : i < S.length), cs8[0 + i]? = some (bv S[i])) := g5
        have HG4 := hid g4
        have HQ8 := hid ((hb8.block _ (row_lt HQ.out)).trans HQ.out)
        have HB8 := hid (Bt HB.out hb8)
        have HD8 := hid (Dev.on HD.out hb8)
        have HL8 : Hid (LogV w8 p d 2 9 ((k : Int) + 1)) := (hb8.block _ (row_lt HL.out)).trans HL.out
        have hc160 : 160 ≤ c8 := g2
        clear ho8 g1 g2 g3 g4 g5 hb8 hS160
        go_wp2_with fail
        go_loopw [89] (fun i wr => ∃ m : Nat, m ≤ 20 ∧ i = .int .i64 m ∧ Hid (Below w8.heap.size w8 wr)) (fun i _ => 20 - (intOf i).toNat)
        case atStart => exact ⟨0, by omega, rfl, hid (B0 _)⟩
        case round =>
          obtain ⟨m, hm, rfl, HBm⟩ := hrel
          by_cases hm20 : m < 20
          · have hml : m < W.length := by rw [HI.out.2.1]; exact hm20
            obtain ⟨x, hx⟩ : ∃ x, x = W[m] := ⟨_, rfl⟩
            have hxu : U64 x := by rw [hx]; exact HI.out.2.2.1 _ (List.getElem_mem _)
            have hcx : wr.cell? ⟨q, m, none⟩ = some (.int .u64 x) := by
              rw [row_cell ((HBm.out.block _ (row_lt HQ8.out)).trans HQ8.out)]
              unfold u64V
              simp [hml, hx]
            unfold U64 at hxu
            rw [pw8] at hxu
            by_cases c2 : (2 : Int) ≤ m
            · have d2 : decide ((2 : Int) ≤ m) = true := by simp; omega
              by_cases c3 : (m : Int) < 11
              · have d3 : decide ((m : Int) < 11) = true := by simp; omega
                clear hx
                go_wp2_with fail
                go_roundw
                case rel => exact ⟨m + 1, by omega, by simp, HBm⟩
                case measure => simp [intOf]; omega
              · have d3 : decide ((m : Int) < 11) = false := by simp; omega
                have hby : ∀ t, t < 8 → ∀ w', Below w8.heap.size w8 w' → w'.cell? ⟨q8, 8 * m + t, none⟩ = some (.int .u8 (x / pw t % 256)) := fun t ht w' hw' => by
                  obtain ⟨hlt', hbv⟩ := winv_byte HI.out hml (by omega) ht
                  rw [row_cell ((hw'.block _ (row_lt HG4.out)).trans HG4.out)]
                  have := HCS.out (8 * m + t) hlt'
                  rw [Nat.zero_add] at this
                  rw [this, hbv, hx]
                have HBY := hid hby
                clear hx hby hml
                go_wp2_with fail
                go_loopw [100] (fun i wr => ∃ t : Nat, t ≤ 8 ∧ i = .int .i64 t ∧ Hid (Below w8.heap.size w8 wr)) (fun i _ => 8 - (intOf i).toNat)
                case atStart => exact ⟨0, by omega, rfl, HBm⟩
                case round =>
                  obtain ⟨t, ht, rfl, HBt⟩ := hrel
                  by_cases ht8 : t < 8
                  · have hcb := HBY.out t ht8 wr HBt.out
                    obtain ⟨N, hN⟩ : ∃ N : Nat, N = 8 * m + t := ⟨_, rfl⟩
                    obtain ⟨T, hT⟩ : ∃ T : Nat, T = 8 * t := ⟨_, rfl⟩
                    have w1' : IntKind.i64.wrap (8 * (m : Int)) = 8 * (m : Int) := by rw [IntKind.wrap_i64]; omega
                    have w2' : IntKind.i64.wrap (8 * (m : Int) + t) = (N : Int) := by rw [IntKind.wrap_i64]; omega
                    have w3' : IntKind.i64.wrap (8 * (t : Int)) = (T : Int) := by rw [IntKind.wrap_i64]; omega
                    have hidx : (N : Int) < 160 := by omega
                    have hT64 : (T : Int) < 64 := by omega
                    have hti : (t : Int) < 8 := by omega
                    rw [← hN] at hcb
                    have HBt' := HBt
                    have HN8 := hid hN; have HT8 := hid hT; have HT := hid ht8
                    clear ht hN hT ht8
                    have hne : (x / pw ↑t % 256 != IntKind.u8.wrap (x / 2 ^ T)) = false := by rw [HT8.out, two_pw, IntKind.wrap_u8]; simp
                    go_wp2_with fail
                    refine reg_begin (by kernel_rfl) (fun w0z hx0z hHeld => ?_)
                    have hcb' : ∀ w', Ext w0z w' → w'.cell? ⟨q8, N, none⟩ = some (.int .u8 (x / pw t % 256)) := fun w' hw => by rw [HN8.out]; exact HBY.out t HT.out w' (Bt HBt'.out (Bt hx0z hw))
                    refine reg_take 0 (v := ?vb0) at0 (by kernel_rfl) (by kernel_rfl) (by kernel_rfl) (by rfl) ?hyb0 hHeld ?restb0
                    case hyb0 => (intro w' hSw; go_simp; try with_reducible rfl)
                    try simp only [Act.put, List.setIfInBounds_toArray, List.set_cons_zero, List.set_cons_succ]
                    refine reg_take 1 (v := ?vb1) (atS at0) (by kernel_rfl) (by kernel_rfl) (by kernel_rfl) (by rfl) ?hyb1 hHeld ?restb1
                    case hyb1 => (intro w' hSw; go_simp; try with_reducible rfl)
                    try simp only [Act.put, List.setIfInBounds_toArray, List.set_cons_zero, List.set_cons_succ]
                    refine reg_take 2 (v := ?vb2) (atS (atS at0)) (by kernel_rfl) (by kernel_rfl) (by kernel_rfl) (by rfl) ?hyb2 hHeld ?restb2
                    case hyb2 => (intro w' hSw; go_simp; try with_reducible rfl)
                    try simp only [Act.put, List.setIfInBounds_toArray, List.set_cons_zero, List.set_cons_succ]
                    refine reg_take 3 (v := ?vb3) (atS (atS (atS at0))) (by kernel_rfl) (by kernel_rfl) (by kernel_rfl) (by rfl) ?hyb3 hHeld ?restb3
                    case hyb3 => (intro w' hSw; go_simp; try with_reducible rfl)
                    try simp only [Act.put, List.setIfInBounds_toArray, List.set_cons_zero, List.set_cons_succ]
                    refine reg_take 4 (v := ?vb4) (atS (atS (atS (atS at0)))) (by kernel_rfl) (by kernel_rfl) (by kernel_rfl) (by rfl) ?hyb4 hHeld ?restb4
                    case hyb4 => (intro w' hSw; go_simp; try with_reducible rfl)
                    try simp only [Act.put, List.setIfInBounds_toArray, List.set_cons_zero, List.set_cons_succ]
                    refine reg_take 5 (v := ?vb5) (atS5 at0) (by kernel_rfl) (by kernel_rfl) (by kernel_rfl) (by rfl) ?hyb5 hHeld ?restb5
                    case hyb5 => (intro w' hSw; go_simp; try with_reducible rfl)
                    try simp only [Act.put, List.setIfInBounds_toArray, List.set_cons_zero, List.set_cons_succ]
                    refine reg_take 6 (v := ?vb6) (atS5 (atS at0)) (by kernel_rfl) (by kernel_rfl) (by kernel_rfl) (by rfl) ?hyb6 hHeld ?restb6
                    case hyb6 => (intro w' hSw; go_simp; try with_reducible rfl)
                    try simp only [Act.put, List.setIfInBounds_toArray, List.set_cons_zero, List.set_cons_succ]
                    refine reg_take 7 (v := ?vb7) (atS5 (atS (atS at0))) (by kernel_rfl) (by kernel_rfl) (by kernel_rfl) (by rfl) ?hyb7 hHeld ?restb7
                    case hyb7 => (intro w' hSw; go_simp; try with_reducible rfl)
                    try simp only [Act.put, List.setIfInBounds_toArray, List.set_cons_zero, List.set_cons_succ]
                    refine reg_take 8 (v := ?vb8) (atS5 (atS (atS (atS at0)))) (by kernel_rfl) (by kernel_rfl) (by kernel_rfl) (by rfl) ?hyb8 hHeld ?restb8
                    case hyb8 => (intro w' hSw; go_simp; try with_reducible rfl)
                    try simp only [Act.put, List.setIfInBounds_toArray, List.set_cons_zero, List.set_cons_succ]
                    refine reg_take 9 (v := ?vb9) (atS5 (atS (atS (atS (atS at0))))) (by kernel_rfl) (by kernel_rfl) (by kernel_rfl) (by rfl) ?hyb9 hHeld ?restb9
                    case hyb9 => (intro w' hSw; go_simp; try with_reducible rfl)
                    try simp only [Act.put, List.setIfInBounds_toArray, List.set_cons_zero, List.set_cons_succ]
                    refine reg_take 10 (v := ?vb10) (atS5 (atS5 at0)) (by kernel_rfl) (by kernel_rfl) (by kernel_rfl) (by rfl) ?hyb10 hHeld ?restb10
                    case hyb10 => (intro w' hSw; go_simp; try with_reducible rfl)
                    try simp only [Act.put, List.setIfInBounds_toArray, List.set_cons_zero, List.set_cons_succ]
                    refine reg_take 11 (v := ?vb11) (atS5 (atS5 (atS at0))) (by kernel_rfl) (by kernel_rfl) (by kernel_rfl) (by rfl) ?hyb11 hHeld ?restb11
                    case hyb11 => (intro w' hSw; go_simp; try with_reducible rfl)
                    try simp only [Act.put, List.setIfInBounds_toArray, List.set_cons_zero, List.set_cons_succ]
                    refine reg_take 12 (v := ?vb12) (atS5 (atS5 (atS (atS at0)))) (by kernel_rfl) (by kernel_rfl) (by kernel_rfl) (by rfl) ?hyb12 hHeld ?restb12
                    case hyb12 => (intro w' hSw; go_simp; try with_reducible rfl)
                    try simp only [Act.put, List.setIfInBounds_toArray, List.set_cons_zero, List.set_cons_succ]
                    refine reg_take 13 (v := ?vb13) (atS5 (atS5 (atS (atS (atS at0))))) (by kernel_rfl) (by kernel_rfl) (by kernel_rfl) (by rfl) ?hyb13 hHeld ?restb13
                    case hyb13 => (intro w' hSw; go_simp; try with_reducible rfl)
                    try simp only [Act.put, List.setIfInBounds_toArray, List.set_cons_zero, List.set_cons_succ]
                    refine reg_take 14 (v := ?vb14) (atS5 (atS5 (atS (atS (atS (atS at0)))))) (by kernel_rfl) (by kernel_rfl) (by kernel_rfl) (by rfl) ?hyb14 hHeld ?restb14
                    case hyb14 => (intro w' hSw; go_simp; try with_reducible rfl)
                    try simp only [Act.put, List.setIfInBounds_toArray, List.set_cons_zero, List.set_cons_succ]
                    refine reg_take 15 (v := ?vb15) (atS5 (atS5 (atS5 at0))) (by kernel_rfl) (by kernel_rfl) (by kernel_rfl) (by rfl) ?hyb15 hHeld ?restb15
                    case hyb15 => (intro w' hSw; go_simp; try with_reducible rfl)
                    try simp only [Act.put, List.setIfInBounds_toArray, List.set_cons_zero, List.set_cons_succ]
                    refine reg_take 16 (v := ?vb16) (atS5 (atS5 (atS5 (atS at0)))) (by kernel_rfl) (by kernel_rfl) (by kernel_rfl) (by rfl) ?hyb16 hHeld ?restb16
                    case hyb16 => (intro w' hSw; go_simp; try with_reducible rfl)
                    try simp only [Act.put, List.setIfInBounds_toArray, List.set_cons_zero, List.set_cons_succ]
                    refine reg_take 17 (v := ?vb17) (atS5 (atS5 (atS5 (atS (atS at0))))) (by kernel_rfl) (by kernel_rfl) (by kernel_rfl) (by rfl) ?hyb17 hHeld ?restb17
                    case hyb17 => (intro w' hSw; go_simp; try with_reducible rfl)
                    try simp only [Act.put, List.setIfInBounds_toArray, List.set_cons_zero, List.set_cons_succ]
                    refine wpAnyH_done (by kernel_rfl) ?_ _
                    refine NoPanic.normal ?_
                    go_wp2_with fail
                    go_roundw
                    case rel => exact ⟨t + 1, by have := HT.out; omega, by simp, hid (Bt HBt'.out hx0z)⟩
                    case measure => have := HT.out; simp [intOf]; omega
                  · obtain rfl : t = 8 := by omega
                    clear ht ht8
                    go_wp2_with fail
                    go_roundw
                    case rel => exact ⟨m + 1, by omega, by simp, HBt⟩
                    case measure => simp [intOf]; omega
            · have d2 : decide ((2 : Int) ≤ m) = false := by simp; omega
              have hby : ∀ t, t < 8 → ∀ w', Below w8.heap.size w8 w' → w'.cell? ⟨q8, 8 * m + t, none⟩ = some (.int .u8 (x / pw t % 256)) := fun t ht w' hw' => by
                obtain ⟨hlt', hbv⟩ := winv_byte HI.out hml (by omega) ht
                rw [row_cell ((hw'.block _ (row_lt HG4.out)).trans HG4.out)]
                have := HCS.out (8 * m + t) hlt'
                rw [Nat.zero_add] at this
                rw [this, hbv, hx]
              have HBY := hid hby
              clear hx hby hml
              go_wp2_with fail
              go_loopw [100] (fun i wr => ∃ t : Nat, t ≤ 8 ∧ i = .int .i64 t ∧ Hid (Below w8.heap.size w8 wr)) (fun i _ => 8 - (intOf i).toNat)
              case atStart => exact ⟨0, by omega, rfl, HBm⟩
              case round =>
                obtain ⟨t, ht, rfl, HBt⟩ := hrel
                by_cases ht8 : t < 8
                · have hcb := HBY.out t ht8 wr HBt.out
                  obtain ⟨N, hN⟩ : ∃ N : Nat, N = 8 * m + t := ⟨_, rfl⟩
                  obtain ⟨T, hT⟩ : ∃ T : Nat, T = 8 * t := ⟨_, rfl⟩
                  have w1' : IntKind.i64.wrap (8 * (m : Int)) = 8 * (m : Int) := by rw [IntKind.wrap_i64]; omega
                  have w2' : IntKind.i64.wrap (8 * (m : Int) + t) = (N : Int) := by rw [IntKind.wrap_i64]; omega
                  have w3' : IntKind.i64.wrap (8 * (t : Int)) = (T : Int) := by rw [IntKind.wrap_i64]; omega
                  have hidx : (N : Int) < 160 := by omega
                  have hT64 : (T : Int) < 64 := by omega
                  have hti : (t : Int) < 8 := by omega
                  rw [← hN] at hcb
                  have HBt' := HBt
                  have HN8 := hid hN; have HT8 := hid hT; have HT := hid ht8
                  clear ht hN hT ht8
                  have hne : (x / pw ↑t % 256 != IntKind.u8.wrap (x / 2 ^ T)) = false := by rw [HT8.out, two_pw, IntKind.wrap_u8]; simp
                  go_wp2_with fail
                  refine reg_begin (by kernel_rfl) (fun w0y hx0y hHeld => ?_)
                  have hcb' : ∀ w', Ext w0y w' → w'.cell? ⟨q8, N, none⟩ = some (.int .u8 (x / pw t % 256)) := fun w' hw => by rw [HN8.out]; exact HBY.out t HT.out w' (Bt HBt'.out (Bt hx0y hw))
                  refine reg_take 0 (v := ?vc0) at0 (by kernel_rfl) (by kernel_rfl) (by kernel_rfl) (by rfl) ?hyc0 hHeld ?restc0
                  case hyc0 => (intro w' hSw; go_simp; try with_reducible rfl)
                  try simp only [Act.put, List.setIfInBounds_toArray, List.set_cons_zero, List.set_cons_succ]
                  refine reg_take 1 (v := ?vc1) (atS at0) (by kernel_rfl) (by kernel_rfl) (by kernel_rfl) (by rfl) ?hyc1 hHeld ?restc1
                  case hyc1 => (intro w' hSw; go_simp; try with_reducible rfl)
                  try simp only [Act.put, List.setIfInBounds_toArray, List.set_cons_zero, List.set_cons_succ]
                  refine reg_take 2 (v := ?vc2) (atS (atS at0)) (by kernel_rfl) (by kernel_rfl) (by kernel_rfl) (by rfl) ?hyc2 hHeld ?restc2
                  case hyc2 => (intro w' hSw; go_simp; try with_reducible rfl)
                  try simp only [Act.put, List.setIfInBounds_toArray, List.set_cons_zero, List.set_cons_succ]
                  refine reg_take 3 (v := ?vc3) (atS (atS (atS at0))) (by kernel_rfl) (by kernel_rfl) (by kernel_rfl) (by rfl) ?hyc3 hHeld ?restc3
                  case hyc3 => (intro w' hSw; go_simp; try with_reducible rfl)
                  try simp only [Act.put, List.setIfInBounds_toArray, List.set_cons_zero, List.set_cons_succ]
                  refine reg_take 4 (v := ?vc4) (atS (atS (atS (atS at0)))) (by kernel_rfl) (by kernel_rfl) (by kernel_rfl) (by rfl) ?hyc4 hHeld ?restc4
                  case hyc4 => (intro w' hSw; go_simp; try with_reducible rfl)
                  try simp only [Act.put, List.setIfInBounds_toArray, List.set_cons_zero, List.set_cons_succ]
                  refine reg_take 5 (v := ?vc5) (atS5 at0) (by kernel_rfl) (by kernel_rfl) (by kernel_rfl) (by rfl) ?hyc5 hHeld ?restc5
                  case hyc5 => (intro w' hSw; go_simp; try with_reducible rfl)
                  try simp only [Act.put, List.setIfInBounds_toArray, List.set_cons_zero, List.set_cons_succ]
                  refine reg_take 6 (v := ?vc6) (atS5 (atS at0)) (by kernel_rfl) (by kernel_rfl) (by kernel_rfl) (by rfl) ?hyc6 hHeld ?restc6
                  case hyc6 => (intro w' hSw; go_simp; try with_reducible rfl)
                  try simp only [Act.put, List.setIfInBounds_toArray, List.set_cons_zero, List.set_cons_succ]
                  refine reg_take 7 (v := ?vc7) (atS5 (atS (atS at0))) (by kernel_rfl) (by kernel_rfl) (by kernel_rfl) (by rfl) ?hyc7 hHeld ?restc7
                  case hyc7 => (intro w' hSw; go_simp; try with_reducible rfl)
                  try simp only [Act.put, List.setIfInBounds_toArray, List.set_cons_zero, List.set_cons_succ]
                  refine reg_take 8 (v := ?vc8) (atS5 (atS (atS (atS at0)))) (by kernel_rfl) (by kernel_rfl) (by kernel_rfl) (by rfl) ?hyc8 hHeld ?restc8
                  case hyc8 => (intro w' hSw; go_simp; try with_reducible rfl)
                  try simp only [Act.put, List.setIfInBounds_toArray, List.set_cons_zero, List.set_cons_succ]
                  refine reg_take 9 (v := ?vc9) (atS5 (atS (atS (atS (atS at0))))) (by kernel_rfl) (by kernel_rfl) (by kernel_rfl) (by rfl) ?hyc9 hHeld ?restc9
                  case hyc9 => (intro w' hSw; go_simp; try with_reducible rfl)
                  try simp only [Act.put, List.setIfInBounds_toArray, List.set_cons_zero, List.set_cons_succ]
                  refine reg_take 10 (v := ?vc10) (atS5 (atS5 at0)) (by kernel_rfl) (by kernel_rfl) (by kernel_rfl) (by rfl) ?hyc10 hHeld ?restc10
                  case hyc10 => (intro w' hSw; go_simp; try with_reducible rfl)
                  try simp only [Act.put, List.setIfInBounds_toArray, List.set_cons_zero, List.set_cons_succ]
                  refine reg_take 11 (v := ?vc11) (atS5 (atS5 (atS at0))) (by kernel_rfl) (by kernel_rfl) (by kernel_rfl) (by rfl) ?hyc11 hHeld ?restc11
                  case hyc11 => (intro w' hSw; go_simp; try with_reducible rfl)
                  try simp only [Act.put, List.setIfInBounds_toArray, List.set_cons_zero, List.set_cons_succ]
                  refine reg_take 12 (v := ?vc12) (atS5 (atS5 (atS (atS at0)))) (by kernel_rfl) (by kernel_rfl) (by kernel_rfl) (by rfl) ?hyc12 hHeld ?restc12
                  case hyc12 => (intro w' hSw; go_simp; try with_reducible rfl)
                  try simp only [Act.put, List.setIfInBounds_toArray, List.set_cons_zero, List.set_cons_succ]
                  refine reg_take 13 (v := ?vc13) (atS5 (atS5 (atS (atS (atS at0))))) (by kernel_rfl) (by kernel_rfl) (by kernel_rfl) (by rfl) ?hyc13 hHeld ?restc13
                  case hyc13 => (intro w' hSw; go_simp; try with_reducible rfl)
                  try simp only [Act.put, List.setIfInBounds_toArray, List.set_cons_zero, List.set_cons_succ]
                  refine reg_take 14 (v := ?vc14) (atS5 (atS5 (atS (atS (atS (atS at0)))))) (by kernel_rfl) (by kernel_rfl) (by kernel_rfl) (by rfl) ?hyc14 hHeld ?restc14
                  case hyc14 => (intro w' hSw; go_simp; try with_reducible rfl)
                  try simp only [Act.put, List.setIfInBounds_toArray, List.set_cons_zero, List.set_cons_succ]
                  refine reg_take 15 (v := ?vc15) (atS5 (atS5 (atS5 at0))) (by kernel_rfl) (by kernel_rfl) (by kernel_rfl) (by rfl) ?hyc15 hHeld ?restc15
                  case hyc15 => (intro w' hSw; go_simp; try with_reducible rfl)
                  try simp only [Act.put, List.setIfInBounds_toArray, List.set_cons_zero, List.set_cons_succ]
                  refine reg_take 16 (v := ?vc16) (atS5 (atS5 (atS5 (atS at0)))) (by kernel_rfl) (by kernel_rfl) (by kernel_rfl) (by rfl) ?hyc16 hHeld ?restc16
                  case hyc16 => (intro w' hSw; go_simp; try with_reducible rfl)
                  try simp only [Act.put, List.setIfInBounds_toArray, List.set_cons_zero, List.set_cons_succ]
                  refine reg_take 17 (v := ?vc17) (atS5 (atS5 (atS5 (atS (atS at0))))) (by kernel_rfl) (by kernel_rfl) (by kernel_rfl) (by rfl) ?hyc17 hHeld ?restc17
                  case hyc17 => (intro w' hSw; go_simp; try with_reducible rfl)
                  try simp only [Act.put, List.setIfInBounds_toArray, List.set_cons_zero, List.set_cons_succ]
                  refine wpAnyH_done (by kernel_rfl) ?_ _
                  refine NoPanic.normal ?_
                  go_wp2_with fail
                  go_roundw
                  case rel => exact ⟨t + 1, by have := HT.out; omega, by simp, hid (Bt HBt'.out hx0y)⟩
                  case measure => have := HT.out; simp [intOf]; omega
                · obtain rfl : t = 8 := by omega
                  clear ht ht8
                  go_wp2_with fail
                  go_roundw
                  case rel => exact ⟨m + 1, by omega, by simp, HBt⟩
                  case measure => simp [intOf]; omega
          · obtain rfl : m = 20 := by omega
            clear hm20 hm
            have HWr := hid (Bt HB8.out HBm.out)
            have HLr : Hid (LogV wr p d 2 9 ((k : Int) + 1)) := (HBm.out.block _ (row_lt HL8.out)).trans HL8.out
            have HDr := hid (Dev.on HD8.out HBm.out)
            have q5 : IntKind.i64.wrap ((k : Int) + 1) = (k : Int) + 1 := by rw [IntKind.wrap_i64]; omega
            go_wp2_with fail
            refine (alive_any _).mono ?_
            rintro e y1 ⟨rfl, by1⟩
            go_wp2_with fail
            refine (seq_any ((by1.block _ (row_lt HLr.out)).trans HLr.out)).mono ?_
            rintro e y2 ⟨rfl, rfl⟩
            go_wp2_with fail
            refine (loose_any (Dev.on HDr.out by1)).mono ?_
            rintro e y3 ⟨v3, rfl, ho3, by3⟩
            have hll : looseL ((cl S).S.length / 8) (cl S).L = [] := by simp [looseL, cl]
            rw [hll] at ho3
            obtain ⟨A3, c3, rfl⟩ : ∃ A3 c3, v3 = .slice A3 0 c3 := by
              rcases ho3.2 with ⟨e, _⟩ | ⟨g', cap', cur', e, _⟩
              · exact ⟨none, 0, e⟩
              · exact ⟨_, cap', e⟩
            clear ho3 hll
            go_wp2_with fail
            go_ret
            exact ⟨rfl, Bt (Bt HWr.out by1) by3⟩
end Go.Proofs.Ytpmljbcgaeodjaa
