/-
  WalAtomic holds: for all sets and all that is kept the statement answers true, and nothing that was there has turned.
-/
import Derived.Test.YtpmljbcgaeodjaaWalP
import Derived.Test.YtpmljbcgaeodjaaLaw4S
namespace Go.Proofs.Ytpmljbcgaeodjaa
open Go.RowKit Go.Maps Go.Shelf
set_option linter.unusedVariables false

theorem Row.set {w : World} {g cap : Nat} {S : List UInt8} (h : Row w g cap S) {i : Nat} (hi : i < S.length) (x : UInt8) : Row (w.setCell ⟨g, i, none⟩ (bv x)) g cap (S.set i x) := by
  obtain ⟨cur, h1, h2, h3, h4, h5⟩ := h
  refine ⟨cur.setIfInBounds i (bv x), row_set h1 i _, by simpa using h2, by simpa using h3, h4, ?_⟩
  rw [Array.toList_setIfInBounds, List.length_set, List.take_set, h5, List.map_set]
theorem Row.cell {w : World} {g cap : Nat} {S : List UInt8} (h : Row w g cap S) {i : Nat} (hi : i < S.length) : w.cell? ⟨g, i, none⟩ = some (bv S[i]) ∧ w.frozen? ⟨g, i, none⟩ = false := by
  obtain ⟨cur, h1, h2, h3, h4, h5⟩ := h
  refine ⟨?_, row_frozen h1 i⟩
  rw [row_cell h1]
  have : (cur.toList.take S.length)[i]? = (S.map bv)[i]? := by rw [h5]
  rw [List.getElem?_take_of_lt hi] at this
  rw [← Array.getElem?_toList, this]; simp [hi]
theorem Row.own {w : World} {g cap base : Nat} {S : List UInt8} (h : Row w g cap S) (hb : base ≤ g) : Own w base (.slice (some ⟨g, 0, none⟩) S.length cap) S := by
  obtain ⟨cur, h1, h2, h3, h4, h5⟩ := h
  exact ⟨by simp, .inr ⟨g, cap, cur, rfl, hb, h1, h3, h4, by omega, by rw [Nat.mul_one]; exact h5⟩⟩
theorem own_row2 {w : World} {base : Nat} {v : Value} {l : List UInt8} (h : Own w base v l) (hl : 0 < l.length) : ∃ g cap, v = .slice (some ⟨g, 0, none⟩) l.length cap ∧ base ≤ g ∧ Row w g cap l := by
  rcases h.2 with ⟨_, h0⟩ | ⟨g, c, cur, hv, hb, hg, h1, h2, h3, h4⟩
  · omega
  · exact ⟨g, c, hv, hb, cur, hg, by omega, h1, h2, by rw [Nat.mul_one] at h4; exact h4⟩
theorem setL_snoc (S : List UInt8) (a : Nat) (l : List UInt8) (k : Nat) (h : a + l.length ≤ S.length) (hk : k < l.length) : setL S a (l.take (k + 1)) = (setL S a (l.take k)).set (a + k) l[k] := by
  have h1 : (setL S a (l.take k)).length = S.length := setL_length _ _ _ (by rw [List.length_take]; omega)
  refine List.ext_getElem? fun i => ?_
  rw [setL_get _ _ _ (by rw [List.length_take]; omega), List.getElem?_set, setL_get _ _ _ (by rw [List.length_take]; omega), List.length_take, List.length_take, h1]
  by_cases c1 : a + k = i
  · rw [if_pos c1, if_pos (by omega), if_pos (by omega), List.getElem?_take_of_lt (by omega), show i - a = k by omega, List.getElem?_eq_getElem hk]
  · rw [if_neg c1]
    by_cases c2 : a ≤ i ∧ i < a + min k l.length
    · rw [if_pos c2, if_pos (by omega), List.getElem?_take_of_lt (by omega), List.getElem?_take_of_lt (by omega)]
    · rw [if_neg c2, if_neg (by omega)]

set_option maxRecDepth 20000 in
set_option maxHeartbeats 4000000 in
theorem words_any {w : World} {B d g cap lb fb : Nat} {S : List UInt8} {L : Int → Option (List UInt8)} {F : Int → Bool} (h : Dev w B d g cap lb fb S L F) (hS : S.length = 160) :
    Calls Try.prog 13 #[.pointer (some ⟨d, 0, none⟩)] w fun e w' => ∃ v, e = .returned v ∧ Own w' w.heap.size v (wordsL S) ∧ Below w.heap.size w w' := by
  have HB := hid (bytes_any h)
  have HS := hid hS
  clear h hS
  go_enter Try.func13, Try.ntmps13
  go_wp2_with fail
  refine HB.out.mono ?_
  rintro e w1 ⟨v1, rfl, ho1, hb1⟩
  obtain ⟨q, c, rfl, hq, hrow⟩ := own_row2 ho1 (by rw [HS.out]; omega)
  rw [HS.out]
  have HR := hid hrow; have HQ := hid hq; have HB1 := hid hb1
  clear ho1 hrow hq hb1
  go_wp2_with fail
  go_loopw [4] (fun i wr => ∃ j : Nat, j ≤ 72 ∧ i = .int .i64 (16 + (j : Int)) ∧ Hid (Row wr q c (setL S 16 ((zeros 72).take j))) ∧ Hid (Below w.heap.size w wr)) (fun i _ => (88 - intOf i).toNat)
  case atStart => exact ⟨0, by omega, rfl, hid (by rw [List.take_zero, setL_nil]; exact HR.out), HB1⟩
  case round =>
    obtain ⟨j, hj, rfl, HRj, HBj⟩ := hrel
    have hsl : (setL S 16 ((zeros 72).take j)).length = 160 := by rw [setL_length _ _ _ (by rw [List.length_take, zeros_length, HS.out]; omega)]; exact HS.out
    by_cases hlt : j < 72
    · obtain ⟨hc1, hf1⟩ := HRj.out.cell (i := 16 + j) (by omega)
      have hst := HRj.out.set (i := 16 + j) (by omega) 0
      have HRs : Hid (Row (wr.setCell ⟨q, 16 + j, none⟩ (.int .u8 0)) q c (setL S 16 ((zeros 72).take (j + 1)))) := by
        rw [setL_snoc _ _ _ _ (by rw [zeros_length, HS.out]; omega) (by rw [zeros_length]; omega)]
        have e : (zeros 72)[j]'(by rw [zeros_length]; omega) = 0 := List.getElem_replicate _
        rw [e]; exact hst
      have HBs : Hid (Below w.heap.size w (wr.setCell ⟨q, 16 + j, none⟩ (.int .u8 0))) := HBj.out.setCell (p := ⟨q, 16 + j, none⟩) HQ.out _
      obtain ⟨x, hc2⟩ : ∃ x, wr.cell? ⟨q, 16 + j, none⟩ = some x := ⟨_, hc1⟩
      clear hc1
      obtain ⟨N, hN⟩ : ∃ N : Nat, N = 16 + j := ⟨_, rfl⟩
      have hNi : 16 + (j : Int) = (N : Int) := by omega
      rw [← hN] at hc2 hf1 HRs HBs
      rw [hNi]
      have n1 : (N : Int) < 88 := by omega
      have n2 : (N : Int) < 160 := by omega
      have HNN := hid hN
      clear hst hN hNi hsl
      go_wp2_with fail
      go_roundw
      case rel => exact ⟨j + 1, by omega, by have := HNN.out; congr 1; omega, HRs, HBs⟩
      case measure => have := HNN.out; simp [intOf]; omega
    · obtain rfl : j = 72 := by omega
      have e : setL S 16 ((zeros 72).take 72) = wordsL S := by unfold wordsL; rw [List.take_of_length_le (by rw [zeros_length]; omega)]
      rw [e] at HRj
      have hown := HRj.out.own HQ.out
      rw [words_length HS.out] at hown
      have HO := hid hown
      clear hown e hlt hsl
      go_wp2_with fail
      go_ret
      exact ⟨_, rfl, HO.out, HBj.out⟩

theorem rdI_fr {w w' : World} {n c : Nat} {A : Option Addr} {l : List Int} (h : RdI w w.heap.size A n c l) (hb : Below w.heap.size w w') : RdI w' w'.heap.size A n c l := h.on hb
theorem stab_zero : wordsL (recv (zeros 160)) = wordsL (zeros 160) := by
  have : recv (zeros 160) = zeros 160 := by
    unfold recv
    rw [if_neg]
    decide +kernel
  rw [this]
/-- Behind a commit a recovery changes no word. -/
theorem stab_com {S : List UInt8} (hS : S.length = 160) {next : Int} {xs : List (Int × Int)} (hx : ∀ x ∈ xs, I64 x.1 ∧ U64 x.2) (hn : 1 ≤ next) (hb : begE 20 2 9 next xs = 0) : wordsL (recv (bringL (recW S 2 next xs) xs)) = wordsL (bringL (recW S 2 next xs) xs) ∧ (bringL (recW S 2 next xs) xs).length = 160 := by
  obtain ⟨e1, e2, e3, e4⟩ := begE_ok hb
  have hn20 : (20 : Int) = (S.length : Int) / 8 := by rw [hS]; rfl
  obtain ⟨r1, r2, r3⟩ := com_rec (n := 20) (words := 9) (S := S) hn20 (by decide) (by decide) (by decide) hb
  obtain ⟨k1, k2, k3⟩ := rec_yes (n := 20) (at_ := 2) (words := 9) (next := next) e1 (by omega) hn e4 e2 hx r1 (by rw [r2]; omega)
  have l3 : (recW S 2 next xs).length = S.length := by unfold recW; exact setL_length _ _ _ (by rw [List.length_append, headL_length, bodyL_length, hS]; omega)
  have hok : okX (recW S 2 next xs).length xs := may_ok (n := 20) (at_ := 2) (words := 9) (by rw [l3]; exact hn20) e2
  refine ⟨?_, by rw [r3]; exact hS⟩
  unfold recv
  rw [if_pos k1, k3, setsL_bodyL (fun x hx' => ⟨(hok x hx').1, hx x hx'⟩), bring_idem hok]

set_option maxRecDepth 20000 in
set_option maxHeartbeats 4000000 in
/-- Recover of the words 2 to 10 of a device of 20 words with nothing loose. -/
theorem recover20 {w : World} {B d g cap lb fb : Nat} {S : List UInt8} (h : DevS w B d g cap lb fb (cl S)) (hS : S.length = 160) :
    Calls Try.prog 17 #[.pointer (some ⟨d, 0, none⟩), .int .i64 2, .int .i64 9] w fun e w' => ∃ q : Int, e = .returned (.tuple #[.int .i64 q, .int .i64 0]) ∧ DevS w' B d g cap lb fb (cl (recv S)) ∧ (recv S).length = 160 ∧ Fr g lb fb w w' := by
  have hn20 : (20 : Int) = (((cl S).S.length : Nat) : Int) / 8 := by show (20 : Int) = ((S.length : Nat) : Int) / 8; rw [hS]; rfl
  cases hr : recOk 20 2 9 (recB S 2 9) with
  | true =>
    have hr2 := hr
    unfold recOk at hr2
    simp only [Bool.and_eq_true, decide_eq_true_eq] at hr2
    have hok : okX S.length (setsL (recY (recB S 2 9))) := may_ok (n := 20) (at_ := 2) (words := 9) (by rw [hS]; rfl) hr2.2
    refine (recover_some (n := 20) h hn20 b20.2.2 hr).mono ?_
    rintro e w' ⟨rfl, hd, hf⟩
    rw [show (cl S).S = S from rfl, bring_clean hok] at hd
    have e : recv S = bringL S (setsL (recY (recB S 2 9))) := by unfold recv; rw [if_pos hr]
    exact ⟨_, rfl, by rw [e]; exact hd, by rw [e, bringL_length hok]; exact hS, hf⟩
  | false =>
    refine (recover_none (n := 20) h hn20 b20.2.2 hr).mono ?_
    rintro e w' ⟨rfl, hb⟩
    have e : recv S = S := by unfold recv; rw [if_neg (by rw [hr]; simp)]
    exact ⟨_, rfl, by rw [e]; exact Dev.on h hb, by rw [e]; exact hS, (Fr.refl _ _ _ _).then hb⟩

set_option maxRecDepth 20000 in
set_option maxHeartbeats 16000000 in
theorem walk_WalAtomic (A1 : Option Addr) (n1 c1 : Nat) (fs : List (Int × Int)) (A2 : Option Addr) (n2 c2 : Nat) (xs : List (Int × Int)) (A3 : Option Addr) (n3 c3 : Nat) (ks : List Int) (w : World)
    (h1 : RdS w w.heap.size A1 n1 c1 fs) (hz1 : n1 ≤ 140737488351232) (h2 : RdS w w.heap.size A2 n2 c2 xs) (hz2 : n2 ≤ 140737488351232) (h3 : RdI w w.heap.size A3 n3 c3 ks) :
    Calls Try.prog 3 #[.slice A1 n1 c1, .slice A2 n2 c2, .slice A3 n3 c3] w fun e w' => e = .returned (.bool true) ∧ Below w.heap.size w w' := by
  have HF := hid h1; have HX := hid h2; have HK := hid h3
  have HN1 : Hid (fs.length = n1) := h1.1
  have HN2 : Hid (xs.length = n2) := h2.1
  have m1 : (n1 : Int) ≤ 9223372036854775807 := by have := h1.2.1; have := h1.2.2.1; unfold maxLen at *; omega
  have m2 : (n2 : Int) ≤ 9223372036854775807 := by have := h2.2.1; have := h2.2.2.1; unfold maxLen at *; omega
  have m3 : (n3 : Int) ≤ 9223372036854775807 := by have := h3.2.1; have := h3.2.2.1; unfold maxLen at *; omega
  obtain ⟨sm, hs0⟩ : ∃ sm, sm = (n1 : Int) + n2 := ⟨_, rfl⟩
  have hsm : IntKind.i64.wrap ((n1 : Int) + n2) = sm := by rw [hs0, IntKind.wrap_i64]; omega
  have HSM := hid hs0
  clear h1 h2 h3 hs0 hz1 hz2
  by_cases hbig : 20 < sm
  · have d1 : decide (20 < sm) = true := by simp; omega
    go_enter Try.func3, Try.ntmps3
    go_wp2_with fail
    refine (new_ok 20 160 rfl (by decide) (by decide) w).mono ?_
    rintro e w1 ⟨d, g, lb, fb, rfl, hd1, hb1⟩
    clear hd1
    go_wp2_with fail
    refine (alive_any _).mono ?_
    rintro e w2 ⟨rfl, hb⟩
    go_wp2_with fail
    go_ret
    exact ⟨rfl, Bt hb1 hb⟩
  · have d1 : decide (20 < sm) = false := by simp; omega
    by_cases hkb : 100 < (n3 : Int)
    · have d2 : decide (100 < (n3 : Int)) = true := by simp; omega
      go_enter Try.func3, Try.ntmps3
      go_wp2_with fail
      refine (new_ok 20 160 rfl (by decide) (by decide) w).mono ?_
      rintro e w1 ⟨d, g, lb, fb, rfl, hd1, hb1⟩
      clear hd1
      go_wp2_with fail
      refine (alive_any _).mono ?_
      rintro e w2 ⟨rfl, hb⟩
      go_wp2_with fail
      go_ret
      exact ⟨rfl, Bt hb1 hb⟩
    · have d2 : decide (100 < (n3 : Int)) = false := by simp; omega
      have hl1 : (n1 : Int) ≤ 20 := by have := HSM.out; omega
      have hl2 : (n2 : Int) ≤ 20 := by have := HSM.out; omega
      clear hbig hkb m1 m2
      go_enter Try.func3, Try.ntmps3
      go_wp2_with fail
      refine (new_ok 20 160 rfl (by decide) (by decide) w).mono ?_
      rintro e w1 ⟨d, g, lb, fb, rfl, hd1, hb1⟩
      have HD1 := hid (DevS.clean hd1); have HB1 := hid hb1
      clear hd1 hb1
      go_wp2_with fail
      refine (open_ok (S := zeros 160) (n := 20) HD1.out len20 b20.2.2).mono ?_
      rintro e w2 ⟨p, rfl, hl2', hp2, hb2⟩
      rw [b20.2.1] at hl2'
      have HL2 : Hid (LogV w2 p d 2 9 1) := hl2'
      have HB2 := hid (Bt HB1.out hb2); have HP : Hid (w.heap.size ≤ p) := Nat.le_trans HB1.out.size hp2
      have HD2 : Hid (DevS w2 w.heap.size d g 160 lb fb (cl (zeros 160))) := Dev.on HD1.out hb2
      clear hl2' hb2 hp2
      go_wp2_with fail
      refine (own_any (HF.out.on HB2.out) (by have := HN1.out; omega)).mono ?_
      rintro e w6 ⟨v6, rfl, ho6, hb6⟩
      have hfok : ∀ x ∈ fs, I64 x.1 ∧ U64 x.2 := HF.out.2.2.2.1
      obtain ⟨A6, c6, rfl⟩ := ho6.shape
      have hr6 := (ho6.rd hfok).1
      rw [HN1.out] at hr6 ⊢
      have HD6 : Hid (DevS w6 w.heap.size d g 160 lb fb (cl (zeros 160))) := Dev.on HD2.out hb6
      have HL6 : Hid (LogV w6 p d 2 9 1) := (hb6.block _ (row_lt HL2.out)).trans HL2.out
      have HB6 := hid (Bt HB2.out hb6)
      have hcom := commit_any (N := 20) HD6.out len20 (by decide) (by decide) (by decide) HL6.out hr6 (by decide) (by decide)
      obtain ⟨er, her⟩ : ∃ er, er = begE 20 2 9 1 fs := ⟨_, rfl⟩
      rw [← her] at hcom
      have HC := hid hcom; have HER := hid her; have HFO := hid hfok
      clear hcom ho6 hr6 hb6 her hfok
      go_wp2_with fail
      refine HC.out.mono ?_
      rintro e w7 ⟨rfl, hd7, hl7, hf7⟩
      have HB7 := hid (HB6.out.trans (hf7.base HP.out (Dev.Bg HD6.out) (Dev.Bl HD6.out) (Dev.Bf HD6.out) HB6.out.size))
      -- what stands there, and the next number
      obtain ⟨S0, nx, hS0, hnx, hst, hd8, hl8⟩ : ∃ (S0 : List UInt8) (nx : Int), S0.length = 160 ∧ (1 ≤ nx ∧ nx ≤ 2) ∧ wordsL (recv S0) = wordsL S0 ∧ DevS w7 w.heap.size d g 160 lb fb (cl S0) ∧ LogV w7 p d 2 9 nx := by
        by_cases hz : er = 0
        · rw [if_pos hz, commit_clean (n := 20) (words := 9) len20 (by decide) (by decide) (by decide) (by rw [← HER.out]; exact hz)] at hd7
          rw [if_pos hz] at hl7
          obtain ⟨s1, s2⟩ := stab_com (zeros_length 160) (next := 1) HFO.out (by decide) (by rw [← HER.out]; exact hz)
          exact ⟨_, _, s2, by omega, s1, hd7, hl7⟩
        · rw [if_neg hz] at hd7 hl7
          exact ⟨_, _, zeros_length 160, by omega, stab_zero, hd7, hl7⟩
      have HS0 := hid hS0; have HST0 := hid hst; have HD7 := hid hd8; have HL7 := hid hl8; have HNX := hid hnx
      clear hd7 hl7 hf7 hS0 hst hd8 hl8 hnx
      go_wp2_with fail
      refine (words_any HD7.out HS0.out).mono ?_
      rintro e w8 ⟨v8, rfl, ho8, hb8⟩
      obtain ⟨lw, hlw⟩ : ∃ lw, lw = wordsL S0 := ⟨_, rfl⟩
      have hlw160 : lw.length = 160 := by rw [hlw]; exact words_length HS0.out
      have ho8 : Own w8 w7.heap.size v8 (wordsL S0) := ho8
      rw [← hlw] at ho8
      obtain ⟨q8, c8, rfl, hq8, hrow8⟩ := own_row2 ho8 (by omega)
      rw [hlw160]
      have HLW := hid hlw; have HLW160 := hid hlw160
      have HR8 := hid hrow8
      have HD8 : Hid (DevS w8 w.heap.size d g 160 lb fb (cl S0)) := Dev.on HD7.out hb8
      have HL8 : Hid (LogV w8 p d 2 9 nx) := (hb8.block _ (row_lt HL7.out)).trans HL7.out
      have HB8 := hid (Bt HB7.out hb8)
      have HQ8 : Hid (g < q8 ∧ lb < q8 ∧ fb < q8 ∧ p < q8 ∧ d < q8) := ⟨by have := Dev.glt HD7.out; omega, by have := Dev.llt HD7.out; omega, by have := Dev.flt HD7.out; omega, by have := row_lt HL7.out; omega, by have := Dev.dlt HD7.out; omega⟩
      clear ho8 hb8 hq8 hrow8 hlw hlw160
      go_wp2_with fail
      refine (own_any (HX.out.on HB8.out) (by have := HN2.out; omega)).mono ?_
      rintro e w9 ⟨v9, rfl, ho9, hb9⟩
      have hxok : ∀ x ∈ xs, I64 x.1 ∧ U64 x.2 := HX.out.2.2.2.1
      obtain ⟨A9, c9, rfl⟩ := ho9.shape
      have hr9 := (ho9.rd hxok).1
      rw [HN2.out] at hr9 ⊢
      have HXO := hid hxok
      have HD9 : Hid (DevS w9 w.heap.size d g 160 lb fb (cl S0)) := Dev.on HD8.out hb9
      have HL9 : Hid (LogV w9 p d 2 9 nx) := (hb9.block _ (row_lt HL8.out)).trans HL8.out
      have HB9 := hid (Bt HB8.out hb9)
      have HR9 : Hid (Row w9 q8 c8 lw) := HR8.out.cong (hb9.block _ HR8.out.lt)
      have hbeg := begin_any (S := S0) (N := 20) HD9.out (by rw [HS0.out]; rfl) (by decide) (by decide) (by decide) HL9.out hr9 (by have := HNX.out; omega) (by have := HNX.out; omega)
      obtain ⟨eb, heb⟩ : ∃ eb, eb = begE 20 2 9 nx xs := ⟨_, rfl⟩
      rw [← heb] at hbeg
      have HBG := hid hbeg; have HEB := hid heb
      clear hbeg heb ho9 hr9 hxok hb9
      go_wp2_with fail
      refine HBG.out.mono ?_
      intro e w10 hpost
      unfold BegPost at hpost
      by_cases hz : eb = 0
      · rw [if_pos hz] at hpost
        obtain ⟨v10, rfl, hst10, hl10, hg10⟩ := hpost
        subst hz
        have HD10 : Hid (DevS w10 w.heap.size d g 160 lb fb (cl S0)) := Dev.log HD9.out HL9.out hg10
        have HR10 : Hid (Row w10 q8 c8 lw) := HR9.out.cong (hg10.block _ HR9.out.lt (by have := HQ8.out; simp; omega))
        have HB10 : Hid (Below w.heap.size w w10) := HB9.out.grown hg10 HB9.out.size (fun j hj => by cases hj; exact HP.out)
        have HLT : Hid (g < w9.heap.size ∧ lb < w9.heap.size ∧ fb < w9.heap.size ∧ w9.heap.size ≤ w10.heap.size) := ⟨Dev.glt HD9.out, Dev.llt HD9.out, Dev.flt HD9.out, hg10.size⟩
        obtain ⟨lo, hlo⟩ : ∃ lo, lo = w9.heap.size := ⟨_, rfl⟩
        rw [← hlo] at hst10 HLT
        obtain ⟨A10, c10, rfl⟩ := hst10.shape
        obtain ⟨M, hM⟩ : ∃ M, M = (allS 2 nx xs).length := ⟨_, rfl⟩
        have hM2 : (M : Int) ≤ 100 := by have := all_length 2 nx xs; have := HN2.out; omega
        rw [← hM]
        have HST := hid hst10; have HM := hid hM
        have HOK := hid (all_ok (next := nx) (N := S0.length) (n := 20) (at_ := 2) (words := 9) (by rw [HS0.out]; rfl) (by decide) (by decide) (by decide) HEB.out.symm)
        have hokX : okX lw.length xs := by
          rw [HLW160.out]
          exact may_ok (n := 20) (at_ := 2) (words := 9) (N := 160) (by decide) (begE_ok HEB.out.symm).2.1
        have HOX := hid hokX
        have HRD10 : Hid (Rd w10 w10.heap.size (some ⟨q8, 0, none⟩) 160 c8 lw) := by have := HR10.out.rd; rw [HLW160.out] at this; exact this
        clear hst10 hl10 hg10 hM hlo hokX
        go_wp2_with (at_builtin; refine wpList_append8 rfl (.tmp 82) (.tmp 83) rfl rfl (own_new w10 [] 0 rfl (by unfold maxLen; omega)) rfl (HRD10.out.on (B1 _ _)) (by simp) (by simp) ?_; intro v11 w11 ho11 hg11 hnil)
        rw [List.nil_append] at ho11
        obtain ⟨q, c, rfl, hq, hrow11⟩ := own_row2 ho11 (by rw [HLW160.out]; omega)
        rw [HLW160.out]
        have hb11 : Below w10.heap.size w10 w11 := Below.grown (B1 w10 _) hg11 (by simp) (fun j hj => by cases hj; exact Nat.le_refl _)
        have HR11 := hid hrow11; have HQ := hid hq
        have HB11 := hid (Bt HB10.out hb11)
        have HBB := hid hb11
        clear ho11 hg11 hnil hq hrow11 hb11
        go_wp2_with fail
        obtain ⟨W1, hW1⟩ : ∃ W1, W1 = w11 := ⟨_, rfl⟩
        have HW1 := hid hW1
        go_loopw [87] (fun i wr => ∃ t : Nat, t ≤ n2 ∧ i = .int .i64 t ∧ Hid (Row wr q c (bringL lw (xs.take t))) ∧ Hid (W1.grownBy wr (some q))) (fun i _ => n2 - (intOf i).toNat)
        case atStart => exact ⟨0, Nat.zero_le _, rfl, HR11, hid (by rw [HW1.out]; exact grown_refl _ _)⟩
        case round =>
          obtain ⟨t, ht, rfl, HRt, HGt⟩ := hrel
          have hBt : Below w.heap.size w wr := by
            have h1 := HB11.out; rw [← HW1.out] at h1
            exact h1.grown HGt.out h1.size (fun i hi => by cases hi; have := HQ.out; have := HB10.out.size; omega)
          by_cases htl : t < n2
          · have htx : t < xs.length := by rw [HN2.out]; exact htl
            obtain ⟨b2, off2, hbe, hbl2, hc2⟩ := (HX.out.below hBt).2.2.2.2 (by omega)
            subst hbe
            obtain ⟨hc3, hc4⟩ := hc2 t htx
            obtain ⟨⟨x1, x2⟩, hx⟩ : ∃ x, x = xs[t] := ⟨_, rfl⟩
            have HXk : Hid (xs[t]? = some (x1, x2)) := by rw [hx]; exact List.getElem?_eq_getElem htx
            have hxo := HOX.out (x1, x2) (by rw [hx]; exact List.getElem_mem _)
            have hxu := (HXO.out (x1, x2) (by rw [hx]; exact List.getElem_mem _)).2
            unfold U64 at hxu
            rw [pw8] at hxu
            rw [← hx] at hc3 hc4
            rw [HLW160.out] at hxo
            simp only at hc3 hc4 hxo hxu
            obtain ⟨wa, hwa⟩ : ∃ wa, wa = wr.alloc (.cells #[.int .i64 x1, .int .u64 x2] 42) := ⟨_, rfl⟩
            have hba : Below wr.heap.size wr wa := by rw [hwa]; exact B1 _ _
            have hsb : wa.heap[wr.heap.size]? = some (.cells #[.int .i64 x1, .int .u64 x2] 42 (0, 0)) := by rw [hwa]; exact heap_alloc_new _ _
            obtain ⟨sb, hsbe⟩ : ∃ sb, sb = wr.heap.size := ⟨_, rfl⟩
            rw [← hsbe] at hsb
            have HSB := hid hsb
            have HQB : Hid (q < sb) := by show q < sb; rw [hsbe]; exact HRt.out.lt
            have HRa : Hid (Row wa q c (bringL lw (xs.take t))) := HRt.out.cong (hba.block _ HRt.out.lt)
            have HGa : Hid (W1.grownBy wa (some q)) := ⟨hba.os.trans HGt.out.os, hba.tape.trans HGt.out.tape, hba.output.trans HGt.out.output, Nat.le_trans HGt.out.size hba.size, fun i hi hne => (hba.block i (Nat.lt_of_lt_of_le hi HGt.out.size)).trans (HGt.out.block i hi hne)⟩
            obtain ⟨Sx, hSx⟩ : ∃ Sx, Sx = bringL lw (xs.take t) := ⟨_, rfl⟩
            have hSl : Sx.length = 160 := by rw [hSx, bringL_length (fun x hx' => HOX.out x (List.mem_of_mem_take hx'))]; exact HLW160.out
            rw [← hSx] at HRa
            have HSX := hid hSx; have HSL := hid hSl; have HXO1 := hid hxo; have HXU := hid hxu
            have hWA := hid hwa
            have HW4 := hid hsbe
            clear hc2 hx htx hxu hba hsb hSx hSl hsbe hwa
            go_wp2_with fail
            rw [← hWA.out, ← HW4.out]
            go_loopw [91] (fun i wr => ∃ k : Nat, k ≤ 8 ∧ i = .int .i64 k ∧ Hid (Row wr q c (setL Sx (x1 * 8).toNat ((le x2 8).take k))) ∧ Hid (wr.heap[sb]? = some (.cells #[.int .i64 x1, .int .u64 x2] 42 (0, 0))) ∧ Hid (W1.grownBy wr (some q))) (fun i _ => 8 - (intOf i).toNat)
            case atStart => exact ⟨0, by omega, rfl, hid (by rw [List.take_zero, setL_nil]; exact HRa.out), HSB, HGa⟩
            case round =>
              obtain ⟨k, hk, rfl, HRk, HSk, HGk⟩ := hrel
              have hxo1 := HXO1.out
              by_cases hk8 : k < 8
              · have hrl : (setL Sx (x1 * 8).toNat ((le x2 8).take k)).length = 160 := by rw [setL_length _ _ _ (by rw [List.length_take, le_length, HSL.out]; omega)]; exact HSL.out
                obtain ⟨N, hN⟩ : ∃ N : Nat, N = (x1 * 8).toNat + k := ⟨_, rfl⟩
                obtain ⟨T, hT⟩ : ∃ T : Nat, T = 8 * k := ⟨_, rfl⟩
                obtain ⟨hc5, hf5⟩ := HRk.out.cell (i := N) (by omega)
                obtain ⟨old, hc6⟩ : ∃ x, wr.cell? ⟨q, N, none⟩ = some x := ⟨_, hc5⟩
                have HOLD := hid hc6; have HFRZ := hid hf5
                have HNEW : Hid (∀ w0 : World, w0.heap = wr.heap → Row (w0.setCell ⟨q, N, none⟩ (.int .u8 (IntKind.u8.wrap (x2 / 2 ^ T)))) q c (setL Sx (x1 * 8).toNat ((le x2 8).take (k + 1)))) := fun w0 he => by
                  have h1 : Row w0 q c (setL Sx (x1 * 8).toNat ((le x2 8).take k)) := HRk.out.cong (by rw [he])
                  have h2 := h1.set (i := N) (by omega) (byteAt x2 k)
                  rw [bv_byteAt, ← two_pw, ← hT, ← IntKind.wrap_u8] at h2
                  rw [setL_snoc _ _ _ _ (by rw [le_length, HSL.out]; omega) (by rw [le_length]; omega), ← hN]
                  have e : (le x2 8)[k]'(by rw [le_length]; omega) = byteAt x2 k := by
                    rcases (show k = 0 ∨ k = 1 ∨ k = 2 ∨ k = 3 ∨ k = 4 ∨ k = 5 ∨ k = 6 ∨ k = 7 by omega) with h | h | h | h | h | h | h | h <;> (subst h; rfl)
                  rw [e]; exact h2
                have w1' : IntKind.i64.wrap (x1 * 8) = x1 * 8 := by rw [IntKind.wrap_i64]; omega
                have w2' : IntKind.i64.wrap (x1 * 8 + k) = (N : Int) := by rw [IntKind.wrap_i64]; omega
                have w3' : IntKind.i64.wrap (8 * (k : Int)) = (T : Int) := by rw [IntKind.wrap_i64]; omega
                have hidx : (N : Int) < 160 := by omega
                have hT64 : (T : Int) < 64 := by omega
                have hki : (k : Int) < 8 := by omega
                have hsbl : sb < wr.heap.size := row_lt HSk.out
                have hqsb : sb ≠ q := by have := HQB.out; omega
                have HK8 := hid hk8
                clear hk hN hT hk8 hrl hc5 hc6 hf5 hxo1
                go_wp2_with fail
                refine reg_begin2p sb sb (by kernel_rfl) hsbl hsbl (fun w0b hh0b hx0b hHeld => ?_)
                have c1 : ∀ w', Two sb sb w0b w' → w'.cell? ⟨sb, 0, none⟩ = some (.int .i64 x1) := fun w' h => by rw [row_cell (h.h1.trans (by rw [hh0b.out]; exact HSk.out))]; rfl
                have c2 : ∀ w', Two sb sb w0b w' → w'.cell? ⟨sb, 1, none⟩ = some (.int .u64 x2) := fun w' h => by rw [row_cell (h.h1.trans (by rw [hh0b.out]; exact HSk.out))]; rfl
                have hcq : w0b.cell? ⟨q, N, none⟩ = some old := by have := HOLD.out; unfold World.cell? at this ⊢; rw [hh0b.out]; exact this
                have hfq : w0b.frozen? ⟨q, N, none⟩ = false := by have := HFRZ.out; unfold World.frozen? at this ⊢; rw [hh0b.out]; exact this
                refine reg_take2 0 (v := ?vy1_0) at0 (by kernel_rfl) (by kernel_rfl) (by kernel_rfl) (by rfl) ?hyy1_0 hHeld ?resty1_0
                case hyy1_0 => (intro w' hSw; go_simp; try with_reducible rfl)
                try simp only [Act.put, List.setIfInBounds_toArray, List.set_cons_zero, List.set_cons_succ]
                refine reg_take2 1 (v := ?vy2_1) (atS at0) (by kernel_rfl) (by kernel_rfl) (by kernel_rfl) (by rfl) ?hyy2_1 hHeld ?resty2_1
                case hyy2_1 => (intro w' hSw; go_simp; try with_reducible rfl)
                try simp only [Act.put, List.setIfInBounds_toArray, List.set_cons_zero, List.set_cons_succ]
                refine reg_take2 2 (v := ?vy3_2) (atS (atS at0)) (by kernel_rfl) (by kernel_rfl) (by kernel_rfl) (by rfl) ?hyy3_2 hHeld ?resty3_2
                case hyy3_2 => (intro w' hSw; go_simp; try with_reducible rfl)
                try simp only [Act.put, List.setIfInBounds_toArray, List.set_cons_zero, List.set_cons_succ]
                refine reg_take2 3 (v := ?vy4_3) (atS (atS (atS at0))) (by kernel_rfl) (by kernel_rfl) (by kernel_rfl) (by rfl) ?hyy4_3 hHeld ?resty4_3
                case hyy4_3 => (intro w' hSw; go_simp; try with_reducible rfl)
                try simp only [Act.put, List.setIfInBounds_toArray, List.set_cons_zero, List.set_cons_succ]
                refine reg_take2 4 (v := ?vy5_4) (atS (atS (atS (atS at0)))) (by kernel_rfl) (by kernel_rfl) (by kernel_rfl) (by rfl) ?hyy5_4 hHeld ?resty5_4
                case hyy5_4 => (intro w' hSw; go_simp; try with_reducible rfl)
                try simp only [Act.put, List.setIfInBounds_toArray, List.set_cons_zero, List.set_cons_succ]
                refine reg_take2 5 (v := ?vy6_5) (atS5 at0) (by kernel_rfl) (by kernel_rfl) (by kernel_rfl) (by rfl) ?hyy6_5 hHeld ?resty6_5
                case hyy6_5 => (intro w' hSw; go_simp; try with_reducible rfl)
                try simp only [Act.put, List.setIfInBounds_toArray, List.set_cons_zero, List.set_cons_succ]
                refine reg_take2 6 (v := ?vy7_6) (atS5 (atS at0)) (by kernel_rfl) (by kernel_rfl) (by kernel_rfl) (by rfl) ?hyy7_6 hHeld ?resty7_6
                case hyy7_6 => (intro w' hSw; go_simp; try with_reducible rfl)
                try simp only [Act.put, List.setIfInBounds_toArray, List.set_cons_zero, List.set_cons_succ]
                refine reg_take2 7 (v := ?vy8_7) (atS5 (atS (atS at0))) (by kernel_rfl) (by kernel_rfl) (by kernel_rfl) (by rfl) ?hyy8_7 hHeld ?resty8_7
                case hyy8_7 => (intro w' hSw; go_simp; try with_reducible rfl)
                try simp only [Act.put, List.setIfInBounds_toArray, List.set_cons_zero, List.set_cons_succ]
                refine reg_take2 8 (v := ?vy9_8) (atS5 (atS (atS (atS at0)))) (by kernel_rfl) (by kernel_rfl) (by kernel_rfl) (by rfl) ?hyy9_8 hHeld ?resty9_8
                case hyy9_8 => (intro w' hSw; go_simp; try with_reducible rfl)
                try simp only [Act.put, List.setIfInBounds_toArray, List.set_cons_zero, List.set_cons_succ]
                refine reg_take2 9 (v := ?vy10_9) (atS5 (atS (atS (atS (atS at0))))) (by kernel_rfl) (by kernel_rfl) (by kernel_rfl) (by rfl) ?hyy10_9 hHeld ?resty10_9
                case hyy10_9 => (intro w' hSw; go_simp; try with_reducible rfl)
                try simp only [Act.put, List.setIfInBounds_toArray, List.set_cons_zero, List.set_cons_succ]
                refine reg_take2 10 (v := ?vy11_10) (atS5 (atS5 at0)) (by kernel_rfl) (by kernel_rfl) (by kernel_rfl) (by rfl) ?hyy11_10 hHeld ?resty11_10
                case hyy11_10 => (intro w' hSw; go_simp; try with_reducible rfl)
                try simp only [Act.put, List.setIfInBounds_toArray, List.set_cons_zero, List.set_cons_succ]
                refine reg_take2 11 (v := ?vy12_11) (atS5 (atS5 (atS at0))) (by kernel_rfl) (by kernel_rfl) (by kernel_rfl) (by rfl) ?hyy12_11 hHeld ?resty12_11
                case hyy12_11 => (intro w' hSw; go_simp; try with_reducible rfl)
                try simp only [Act.put, List.setIfInBounds_toArray, List.set_cons_zero, List.set_cons_succ]
                refine reg_take2 12 (v := ?vy13_12) (atS5 (atS5 (atS (atS at0)))) (by kernel_rfl) (by kernel_rfl) (by kernel_rfl) (by rfl) ?hyy13_12 hHeld ?resty13_12
                case hyy13_12 => (intro w' hSw; go_simp; try with_reducible rfl)
                try simp only [Act.put, List.setIfInBounds_toArray, List.set_cons_zero, List.set_cons_succ]
                refine wpAnyH_ready (rs := [13]) (by kernel_rfl) (by simp) ?_
                refine AllReadyH.cons (atS5 (atS5 (atS (atS (atS at0))))) (fun K hK => ?_) AllReadyH.nil
                go_simp
                go_simp
                go_wp2_with fail
                refine hK.out _ _ (hHeld.by (grown_set (grown_refl w0b (some q)) N _) (by simpa using hqsb) (by simpa using hqsb)) (fun hHeld => ?_)
                clear hK K
                try simp only [Act.put]
                refine wpAnyH_done (by kernel_rfl) ?_ _
                refine NoPanic.normal ?_
                have HN1 := hid (HNEW.out w0b hh0b.out)
                have HG1 : Hid (W1.grownBy (w0b.setCell ⟨q, N, none⟩ (.int .u8 (IntKind.u8.wrap (x2 / 2 ^ T)))) (some q)) := grown_set (⟨hx0b.os.trans HGk.out.os, hx0b.tape.trans HGk.out.tape, hx0b.output.trans HGk.out.output, Nat.le_trans HGk.out.size hx0b.size, fun i hi hne => (hx0b.block i (Nat.lt_of_lt_of_le hi HGk.out.size)).trans (HGk.out.block i hi hne)⟩ : W1.grownBy w0b (some q)) N _
                have HS1 : Hid ((w0b.setCell ⟨q, N, none⟩ (.int .u8 (IntKind.u8.wrap (x2 / 2 ^ T)))).heap[sb]? = some (.cells #[.int .i64 x1, .int .u64 x2] 42 (0, 0))) := hHeld.h1.trans (by rw [hh0b.out]; exact HSk.out)
                go_wp2_with fail
                go_roundw
                case rel => exact ⟨k + 1, by have := HK8.out; omega, by simp, HN1, HS1, HG1⟩
                case measure => have := HK8.out; simp [intOf]; omega
              · obtain rfl : k = 8 := by omega
                have e : setL Sx (x1 * 8).toNat ((le x2 8).take 8) = bringL lw (xs.take (t + 1)) := by
                  rw [List.take_of_length_le (by rw [le_length]; omega), List.take_add_one, HXk.out]
                  unfold bringL
                  rw [List.foldl_append, HSX.out]; rfl
                rw [e] at HRk
                clear hk hk8 e hxo1
                go_wp2_with fail
                go_roundw
                case rel => exact ⟨t + 1, by omega, by simp, HRk, HGk⟩
                case measure => simp [intOf]; omega
          · obtain rfl : t = n2 := by omega
            have e0 : xs.take t = xs := by rw [← HN2.out]; exact List.take_length
            rw [e0] at HRt
            obtain ⟨lx, hlx⟩ : ∃ lx, lx = bringL lw xs := ⟨_, rfl⟩
            have hlx160 : lx.length = 160 := by rw [hlx, bringL_length HOX.out]; exact HLW160.out
            rw [← hlx] at HRt
            have HLX := hid hlx; have HLX160 := hid hlx160
            -- what is there before the steps
            have HGw : Hid (Below w10.heap.size w10 wr) := by
              have h1 := HBB.out; rw [← HW1.out] at h1
              exact h1.grown HGt.out h1.size (fun i hi => by cases hi; exact HQ.out)
            have HDw : Hid (DevS wr w.heap.size d g 160 lb fb (cl S0)) := Dev.on HD10.out HGw.out
            have HRw : Hid (Row wr q8 c8 lw) := HR10.out.cong (HGw.out.block _ HR10.out.lt)
            have HSTw : Hid (StR wr lo d lo (.slice A10 M c10) (allS 2 nx xs)) := by
              have := HST.out; rw [← HM.out] at this; exact StR.on this HGw.out
            have HBw := hid hBt
            have HQQ : Hid (g < q8 ∧ lb < q8 ∧ fb < q8 ∧ g < q ∧ lb < q ∧ fb < q) := by
              have h1 := HQ8.out; have h2 := HQ.out; have h3 := HLT.out
              refine ⟨by omega, by omega, by omega, by omega, by omega, by omega⟩
            have hM1 : IntKind.i64.wrap ((M : Int) + 1) = (M : Int) + 1 := by rw [IntKind.wrap_i64]; omega
            clear htl ht e0 hBt hlx hlx160
            go_wp2_with fail
            go_loopw [112] (fun i wr => ∃ m : Nat, m ≤ M + 1 ∧ i = .int .i64 m ∧ Hid (DevS wr w.heap.size d g 160 lb fb (runS (cl S0) ((allS 2 nx xs).take m))) ∧ Hid (Row wr q8 c8 lw) ∧ Hid (Row wr q c lx) ∧ Hid (StR wr lo d lo (.slice A10 M c10) (allS 2 nx xs)) ∧ Hid (Below w.heap.size w wr)) (fun i _ => M + 1 - (intOf i).toNat)
            case atStart => exact ⟨0, by omega, rfl, HDw, HRw, HRt, HSTw, HBw⟩
            case round =>
              obtain ⟨m, hm, rfl, HDm, HRm, HXm, HSm, HBm⟩ := hrel
              by_cases hmM : m < M + 1
              · have HAT := hid (atom HS0.out HXO.out HNX.out.1 HEB.out.symm HST0.out (i := m) (by have := HM.out; omega) (fun k => !decide (k ∈ ks)))
                have hmi : (m : Int) < (M : Int) + 1 := by omega
                obtain ⟨D, hD⟩ : ∃ D, D = runS (cl S0) ((allS 2 nx xs).take m) := ⟨_, rfl⟩
                have hDl : D.S.length = 160 := by rw [hD, runS_length (fun s hs => HOK.out s (List.mem_of_mem_take hs))]; exact HS0.out
                rw [← hD] at HDm
                have HDD := hid hD; have HDL := hid hDl
                rw [← hD, ← HM.out, ← HLW.out, ← HLX.out] at HAT
                clear hD hDl
                go_wp2_with fail
                refine (copy_any HDm.out).mono ?_
                rintro e y1 ⟨d', g', cap', lb', fb', rfl, hd1, by1⟩
                have HY1 := hid hd1; have HBY1 := hid by1
                clear hd1 by1
                go_wp2_with fail
                refine (crash_any HY1.out (HK.out.on (Bt HBm.out HBY1.out))).mono ?_
                rintro e y2 ⟨rfl, hd2, hf2⟩
                have HBY2 := hid (HBY1.out.trans (Dev.below HY1.out hf2))
                have HY2 : Hid (DevS y2 wr.heap.size d' g' cap' lb' fb' (cl (crS D.S D.L (fun k => !decide (k ∈ ks))))) := hd2
                have hcl : (crS D.S D.L (fun k => !decide (k ∈ ks))).length = 160 := by rw [crS_length]; exact HDL.out
                obtain ⟨C, hC⟩ : ∃ C, C = crS D.S D.L (fun k => !decide (k ∈ ks)) := ⟨_, rfl⟩
                rw [← hC] at HY2 hcl HAT
                have HCL := hid hcl
                clear hd2 hf2 hcl hC
                go_wp2_with fail
                refine (recover20 HY2.out HCL.out).mono ?_
                rintro e y3 ⟨sq, rfl, hd3, hr3, hf3⟩
                have HBY3 := hid (HBY2.out.trans (Dev.below HY2.out hf3))
                have HY3 := hid hd3; have HR3 := hid hr3
                clear hd3 hf3 hr3
                go_wp2_with fail
                refine (words_any HY3.out HR3.out).mono ?_
                rintro e y4 ⟨v4, rfl, ho4, by4⟩
                have ho4 : Own y4 y3.heap.size v4 (wordsL (recv C)) := ho4
                have HBY4 := hid (Bt HBY3.out by4)
                obtain ⟨ln, hln⟩ : ∃ ln, ln = wordsL (recv C) := ⟨_, rfl⟩
                have hln160 : ln.length = 160 := by rw [hln]; exact words_length HR3.out
                rw [← hln] at ho4 HAT
                obtain ⟨q4, c4, rfl, hq4, hrow4⟩ := own_row2 ho4 (by omega)
                have cn := hrow4.rd.conv
                have cw := (HRm.out.cong (HBY4.out.block _ HRm.out.lt)).rd.conv
                have cx := (HXm.out.cong (HBY4.out.block _ HXm.out.lt)).rd.conv
                rw [hln160] at cn ⊢
                rw [HLW160.out] at cw
                rw [HLX160.out] at cx
                have HCN := hid hrow4
                have HDY := hid (Dev.on HDm.out HBY4.out)
                have HRY : Hid (Row y4 q8 c8 lw) := HRm.out.cong (HBY4.out.block _ HRm.out.lt)
                have HXY : Hid (Row y4 q c lx) := HXm.out.cong (HBY4.out.block _ HXm.out.lt)
                have HSY : Hid (StR y4 lo d lo (.slice A10 M c10) (allS 2 nx xs)) := StR.on HSm.out HBY4.out
                have HBYY := hid (Bt HBm.out HBY4.out)
                obtain ⟨sn, hsn⟩ : ∃ sn : ByteArray, sn = ⟨ln.toArray⟩ := ⟨_, rfl⟩
                obtain ⟨sw, hsw⟩ : ∃ sw : ByteArray, sw = ⟨lw.toArray⟩ := ⟨_, rfl⟩
                obtain ⟨sx, hsx⟩ : ∃ sx : ByteArray, sx = ⟨lx.toArray⟩ := ⟨_, rfl⟩
                rw [← hsn] at cn
                rw [← hsw] at cw
                rw [← hsx] at cx
                have HSN := hid hsn; have HSW := hid hsw; have HSX2 := hid hsx
                clear hsn hsw hsx
                clear ho4 by4 hln hln160 hq4 hrow4
                -- the rest of a round: the test is false, then the step
                by_cases hmM2 : m < M
                · have HMS := hid hmM2
                  have hmi2 : (m : Int) < (M : Int) := by omega
                  have hme : ((m : Int) == (M : Int)) = false := by rw [beq_eq_false_iff_ne]; omega
                  have hkl : m < (allS 2 nx xs).length := by rw [← HM.out]; exact hmM2
                  obtain ⟨s, hs⟩ : ∃ s, (allS 2 nx xs)[m]? = some s := ⟨_, List.getElem?_eq_getElem hkl⟩
                  have hok : s.ok D.S.length := by rw [HDL.out, ← HS0.out]; exact HOK.out s (List.mem_of_getElem? hs)
                  obtain ⟨qs, cs, vs, hv, hvl, hcell, hone, hvs⟩ := HSY.out.out (by omega)
                  rw [← HM.out] at hv
                  cases hv
                  obtain ⟨u, hu1, hu2⟩ := hvs m s hs
                  have hce := hcell m u hu1
                  have HSK := hid hs; have HOKs := hid hok
                  clear hs hok hvs hcell hone hvl hu1 hkl hmM hmM2
                  have HMM := hid hm; clear hm
                  have HKEEP : Hid (∀ z, Fr g lb fb y4 z → Row z q8 c8 lw ∧ Row z q c lx ∧ StR z lo d lo (.slice (some ⟨qs, 0, none⟩) M c10) (allS 2 nx xs) ∧ Below w.heap.size w z) := fun z hf => by
                    have h1 := HQQ.out; have h2 := HLT.out
                    exact ⟨HRY.out.cong (hf.block _ HRY.out.lt (by omega) (by omega) (by omega)), HXY.out.cong (hf.block _ HXY.out.lt (by omega) (by omega) (by omega)), StR.fr HSY.out hf h2.1 h2.2.1 h2.2.2.1 (Nat.le_refl _), HBYY.out.trans (Dev.below HDY.out hf)⟩
                  have HSTEP : Hid (∀ z, DevS z w.heap.size d g 160 lb fb (s.on D) → DevS z w.heap.size d g 160 lb fb (runS (cl S0) ((allS 2 nx xs).take (m + 1)))) := fun z hz => by
                    rw [runS_take HSK.out, ← HDD.out]; exact hz
                  rcases (show sn.toList = sw.toList ∨ (¬ (sn.toList = sw.toList) ∧ ln = lx) by
                    by_cases c0 : sn.toList = sw.toList
                    · exact .inl c0
                    · rcases HAT.out with ⟨h, _⟩ | h
                      · exact absurd (by rw [HSN.out, HSW.out, h]) c0
                      · exact .inr ⟨c0, h⟩) with hcase | ⟨hne, hcase⟩
                  · have t1 : (sn.toList == sw.toList) = true := by simpa using hcase
                    have t2 : decide (sn.toList = sw.toList) = true := by simpa using hcase
                    cases s with
                    | wr at_ l =>
                      obtain ⟨r, a, b, q2, off, c2, x, y, rfl, l1, l2, l3, l4, g5, g6, g7, g8, g9, g9', cs2, g10, g11⟩ := hu2
                      have HC := hid (wr_do HDY.out HOKs.out g5 g6 g7 g9 g9' g10 g11)
                      clear g5 g6 g7 g8 g9 g9' g10 g11 l1 l2 l3 l4
                      go_wp2_with fail
                      refine HC.out.mono ?_
                      rintro e z1 ⟨rfl, hd1, hf1⟩
                      have HZ1 := hid (HSTEP.out _ hd1); have HZK := hid (HKEEP.out _ hf1)
                      clear hd1 hf1
                      go_wp2_with fail
                      go_roundw
                      case rel => exact ⟨m + 1, by have := HMS.out; omega, by simp, HZ1, hid HZK.out.1, hid HZK.out.2.1, hid HZK.out.2.2.1, hid HZK.out.2.2.2⟩
                      case measure => have := HMS.out; simp [intOf]; omega
                    | fl at_ n =>
                      obtain ⟨r, a, b, x, y, rfl, l1, l2, l3, g5, g6, g7⟩ := hu2
                      have HC := hid (fl_do HDY.out HOKs.out g5 g6 g7)
                      clear g5 g6 g7 l1 l2 l3
                      go_wp2_with fail
                      refine HC.out.mono ?_
                      rintro e z1 ⟨rfl, hd1, hf1⟩
                      have HZ1 := hid (HSTEP.out _ hd1); have HZK := hid (HKEEP.out _ hf1)
                      clear hd1 hf1
                      go_wp2_with fail
                      go_roundw
                      case rel => exact ⟨m + 1, by have := HMS.out; omega, by simp, HZ1, hid HZK.out.1, hid HZK.out.2.1, hid HZK.out.2.2.1, hid HZK.out.2.2.2⟩
                      case measure => have := HMS.out; simp [intOf]; omega
                    | fe =>
                      obtain rfl := hu2
                      have HC := hid (fence_any HDY.out)
                      go_wp2_with fail
                      refine HC.out.mono ?_
                      rintro e z1 ⟨rfl, hd1, hf1⟩
                      have HZ1 := hid (HSTEP.out _ hd1); have HZK := hid (HKEEP.out _ hf1)
                      clear hd1 hf1
                      go_wp2_with fail
                      go_roundw
                      case rel => exact ⟨m + 1, by have := HMS.out; omega, by simp, HZ1, hid HZK.out.1, hid HZK.out.2.1, hid HZK.out.2.2.1, hid HZK.out.2.2.2⟩
                      case measure => have := HMS.out; simp [intOf]; omega
                  · have hss : sn = sx := by rw [HSN.out, HSX2.out, hcase]
                    subst hss
                    have t1 : (sn.toList == sw.toList) = false := by simpa using hne
                    have t2 : decide (sn.toList = sw.toList) = false := by simpa using hne
                    clear hcase
                    cases s with
                    | wr at_ l =>
                      obtain ⟨r, a, b, q2, off, c2, x, y, rfl, l1, l2, l3, l4, g5, g6, g7, g8, g9, g9', cs2, g10, g11⟩ := hu2
                      have HC := hid (wr_do HDY.out HOKs.out g5 g6 g7 g9 g9' g10 g11)
                      clear g5 g6 g7 g8 g9 g9' g10 g11 l1 l2 l3 l4
                      go_wp2_with fail
                      refine HC.out.mono ?_
                      rintro e z1 ⟨rfl, hd1, hf1⟩
                      have HZ1 := hid (HSTEP.out _ hd1); have HZK := hid (HKEEP.out _ hf1)
                      clear hd1 hf1
                      go_wp2_with fail
                      go_roundw
                      case rel => exact ⟨m + 1, by have := HMS.out; omega, by simp, HZ1, hid HZK.out.1, hid HZK.out.2.1, hid HZK.out.2.2.1, hid HZK.out.2.2.2⟩
                      case measure => have := HMS.out; simp [intOf]; omega
                    | fl at_ n =>
                      obtain ⟨r, a, b, x, y, rfl, l1, l2, l3, g5, g6, g7⟩ := hu2
                      have HC := hid (fl_do HDY.out HOKs.out g5 g6 g7)
                      clear g5 g6 g7 l1 l2 l3
                      go_wp2_with fail
                      refine HC.out.mono ?_
                      rintro e z1 ⟨rfl, hd1, hf1⟩
                      have HZ1 := hid (HSTEP.out _ hd1); have HZK := hid (HKEEP.out _ hf1)
                      clear hd1 hf1
                      go_wp2_with fail
                      go_roundw
                      case rel => exact ⟨m + 1, by have := HMS.out; omega, by simp, HZ1, hid HZK.out.1, hid HZK.out.2.1, hid HZK.out.2.2.1, hid HZK.out.2.2.2⟩
                      case measure => have := HMS.out; simp [intOf]; omega
                    | fe =>
                      obtain rfl := hu2
                      have HC := hid (fence_any HDY.out)
                      go_wp2_with fail
                      refine HC.out.mono ?_
                      rintro e z1 ⟨rfl, hd1, hf1⟩
                      have HZ1 := hid (HSTEP.out _ hd1); have HZK := hid (HKEEP.out _ hf1)
                      clear hd1 hf1
                      go_wp2_with fail
                      go_roundw
                      case rel => exact ⟨m + 1, by have := HMS.out; omega, by simp, HZ1, hid HZK.out.1, hid HZK.out.2.1, hid HZK.out.2.2.1, hid HZK.out.2.2.2⟩
                      case measure => have := HMS.out; simp [intOf]; omega
                · obtain rfl : m = M := by omega
                  have hcase : ln = lx := by
                    rcases HAT.out with ⟨_, h⟩ | h
                    · exact absurd h (by omega)
                    · exact h
                  have hss : sn = sx := by rw [HSN.out, HSX2.out, hcase]
                  subst hss
                  clear hm hmM hmM2
                  by_cases hne : sn.toList = sw.toList
                  · have t1 : (sn.toList == sw.toList) = true := by simpa using hne
                    have t2 : decide (sn.toList = sw.toList) = true := by simpa using hne
                    go_wp2_with fail
                    go_roundw
                    case rel => exact ⟨m + 1, by omega, by simp, hid (by rw [List.take_of_length_le (by rw [← HM.out]; omega)]; have := HDY.out; rw [HDD.out, List.take_of_length_le (by rw [← HM.out]; omega)] at this; exact this), HRY, HXY, HSY, HBYY⟩
                    case measure => simp [intOf]
                  · have t1 : (sn.toList == sw.toList) = false := by simpa using hne
                    have t2 : decide (sn.toList = sw.toList) = false := by simpa using hne
                    go_wp2_with fail
                    go_roundw
                    case rel => exact ⟨m + 1, by omega, by simp, hid (by rw [List.take_of_length_le (by rw [← HM.out]; omega)]; have := HDY.out; rw [HDD.out, List.take_of_length_le (by rw [← HM.out]; omega)] at this; exact this), HRY, HXY, HSY, HBYY⟩
                    case measure => simp [intOf]
              · obtain rfl : m = M + 1 := by omega
                clear hm hmM
                go_wp2_with fail
                refine (alive_any _).mono ?_
                rintro e y1 ⟨rfl, by1⟩
                go_wp2_with fail
                go_ret
                exact ⟨rfl, Bt HBm.out by1⟩
      · rw [if_neg hz] at hpost
        obtain ⟨rfl, hb10⟩ := hpost
        have hz2 : (eb == 0) = false := by rw [beq_eq_false_iff_ne]; exact hz
        have HB10 := hid (Bt HB9.out hb10)
        clear hb10 hz
        go_wp2_with fail
        refine (alive_any _).mono ?_
        rintro e y1 ⟨rfl, by1⟩
        go_wp2_with fail
        go_ret
        exact ⟨rfl, Bt HB10.out by1⟩
end Go.Proofs.Ytpmljbcgaeodjaa
