/-
  PmemSafe holds: for every script, call and list the statement answers true, and nothing that was there has turned.
-/
import Derived.Test.YtfekholamkidkaaLaw3F
namespace Go.Proofs.Ytfekholamkidkaa
open Go.RowKit Go.Maps Go.Sort
set_option linter.unusedVariables false

/-- What was written, flushed and fenced is there behind a crash. -/
theorem safe_read {S : List UInt8} {L : Int → Option (List UInt8)} {F done : Int → Bool} {at_ : Int} {l : List UInt8} (he : hE S.length at_ l.length = 0) :
    ((crS (setL S at_.toNat l) (feL (wrL S L (spA at_ l.length) (spB at_ l.length)) (flF (wrF F (spA at_ l.length) (spB at_ l.length)) (wrL S L (spA at_ l.length) (spB at_ l.length)) (spA at_ l.length) (spB at_ l.length))) done).drop at_.toNat).take l.length = l := by
  obtain ⟨h0, h1, h2⟩ := hE_ok he
  have hfit : at_.toNat + l.length ≤ S.length := by omega
  refine List.ext_getElem? fun i => ?_
  by_cases hi : i < l.length
  · rw [List.getElem?_take_of_lt hi, List.getElem?_drop]
    have hlen : at_.toNat + i < (setL S at_.toNat l).length := by rw [setL_length _ _ _ hfit]; omega
    rw [crS_get hlen]
    have hk : spA at_ l.length ≤ ((at_.toNat + i) / 8 : Nat) ∧ (((at_.toNat + i) / 8 : Nat) : Int) < spB at_ l.length := by
      unfold spA spB; rw [if_neg (by omega), if_neg (by omega)]; omega
    have hL : feL (wrL S L (spA at_ l.length) (spB at_ l.length)) (flF (wrF F (spA at_ l.length) (spB at_ l.length)) (wrL S L (spA at_ l.length) (spB at_ l.length)) (spA at_ l.length) (spB at_ l.length)) ((at_.toNat + i) / 8 : Nat) = none := by
      have e : flF (wrF F (spA at_ l.length) (spB at_ l.length)) (wrL S L (spA at_ l.length) (spB at_ l.length)) (spA at_ l.length) (spB at_ l.length) ((at_.toNat + i) / 8 : Nat) = true := by
        unfold flF wrL; rw [decide_eq_true hk, if_pos hk]; simp
      unfold feL; rw [if_pos e]
    rw [hL]
    simp only [List.getD_eq_getElem?_getD]
    rw [setL_get _ _ _ hfit, if_pos (by omega), show at_.toNat + i - at_.toNat = i by omega, List.getElem?_eq_getElem hi]
    rfl
  · rw [List.getElem?_eq_none (by simp; omega), List.getElem?_eq_none (by omega)]

theorem kept_all {S : List UInt8} {L : Int → Option (List UInt8)} {n : Nat} (hk : ∀ k x, L k = some x → 0 ≤ k ∧ k < n) : crS S L (fun k => !decide (k ∈ looseL n L)) = S :=
  crS_id fun k x hl => by
    have : k ∈ looseL n L := (looseL_mem hk k).2 (by rw [hl]; rfl)
    simp [this]

theorem Dev.low {w w' : World} {X B d g cap lb fb : Nat} {S : List UInt8} {L : Int → Option (List UInt8)} {F : Int → Bool} (h : Dev w B d g cap lb fb S L F) (hb : Below X w w') (h1 : d < X) (h2 : g < X) (h3 : lb < X) (h4 : fb < X) : Dev w' B d g cap lb fb S L F :=
  h.cong (hb.block d h1) (hb.block g h2) (hb.block lb h3) (hb.block fb h4)
theorem looseL_i64 {n : Nat} {L : Int → Option (List UInt8)} (hn : n ≤ 8192) : ∀ x ∈ looseL n L, I64 x := by
  intro x hx
  obtain ⟨h1, _⟩ := List.mem_filter.1 hx
  obtain ⟨k, hk, rfl⟩ := List.mem_map.1 h1
  have := List.mem_range.1 hk
  exact i64_iff.2 (by simp; omega)

theorem Own.conv {w : World} {base : Nat} {v : Value} {l : List UInt8} (h : Own w base v l) : (convert 28 9 v).run Try.prog w = .ok (.string ⟨l.toArray⟩) w := by
  obtain ⟨A, c, hv, hr⟩ := h.rd
  rw [hv]; exact hr.conv

set_option maxHeartbeats 4000000 in
theorem walk_PmemSafe (A : Option Addr) (n c : Nat) (l : List OpV) (o : OpV) (Ak : Option Addr) (nk ck : Nat) (lk : List Int) (w : World) (h : RdO w w.heap.size A n c l) (ho : o.ok w w.heap.size) (hkp : RdI w w.heap.size Ak nk ck lk) :
    Calls Try.prog 4 #[.slice A n c, o.val, .slice Ak nk ck] w fun e w' => e = .returned (.bool true) ∧ Below w.heap.size w w' := by
  obtain ⟨kind, at_, long, ab, nb, cb, bs, ak, nk2, ck2, ks⟩ := o
  obtain ⟨hk, ha, hl, hb, hkk⟩ := ho
  simp only at hk ha hl hb hkk
  unfold OpV.val
  obtain ⟨w0, hw0⟩ : ∃ w0, w0 = w.alloc (.cells #[.int .i64 kind, .int .i64 at_, .int .i64 long, .slice ab nb cb, .slice ak nk2 ck2] 35) := ⟨_, rfl⟩
  have HB0 : Hid (Below w.heap.size w w0) := show Below _ _ _ by rw [hw0]; exact B1 w _
  have hcb : w0.heap[w.heap.size]? = some (.cells #[.int .i64 kind, .int .i64 at_, .int .i64 long, .slice ab nb cb, .slice ak nk2 ck2] 35 (0, 0)) := by rw [hw0]; exact heap_alloc_new w _
  obtain ⟨ob, hob⟩ : ∃ ob, ob = w.heap.size := ⟨_, rfl⟩
  have HO := hid h; have H0 := hid (h.on HB0.out); have HR0 := hid (hb.on HB0.out); have HK0 := hid (hkp.on HB0.out)
  have HOB : Hid (ob < w0.heap.size) := show _ < _ by rw [hob]; exact row_lt hcb
  have HC : Hid (∀ w', Below w0.heap.size w0 w' → w'.cell? ⟨ob, 1, none⟩ = some (.int .i64 at_) ∧ w'.cell? ⟨ob, 3, none⟩ = some (.slice ab nb cb)) := by
    intro w' hb'
    have h0 : w0.heap[ob]? = some (.cells #[.int .i64 kind, .int .i64 at_, .int .i64 long, .slice ab nb cb, .slice ak nk2 ck2] 35 (0, 0)) := by rw [hob]; exact hcb
    have h1 := (hb'.block ob HOB.out).trans h0
    exact ⟨by rw [row_cell h1]; rfl, by rw [row_cell h1]; rfl⟩
  have HA := hid ha
  have HNB := hid hb.1
  have HN : Hid (I64 nb) := i64_iff.2 (by have := Nat.le_trans hb.2.1 hb.2.2.1; unfold maxLen at this; omega)
  clear h hb hkp hkk ha hl hk hcb
  go_enter Try.func4, Try.ntmps4
  go_wp2_with fail
  rw [← hw0, ← hob]
  refine (made_any H0.out).mono ?_
  rintro e w1 (⟨rfl, hb1⟩ | ⟨d, g, cap, lb, fb, S, L, F, rfl, hd1, h80, hb1⟩)
  · have HB1 := hid hb1; clear hb1 hw0 hob
    go_wp2_with fail
    refine (alive_any _).mono ?_
    rintro e w2 ⟨rfl, hb2⟩
    go_wp2_with fail
    go_ret
    exact ⟨rfl, Bt (Bt HB0.out HB1.out) hb2⟩
  · have HD1 := hid hd1; have HB1 := hid hb1; have H80 := hid h80; clear hd1 hb1 h80 hw0 hob
    obtain ⟨hc1, hc3⟩ := HC.out w1 HB1.out
    by_cases h100 : (100 : Int) < nk
    · go_wp2_with fail
      refine (alive_any _).mono ?_
      rintro e w2 ⟨rfl, hb2⟩
      go_wp2_with fail
      go_ret
      exact ⟨rfl, Bt (Bt HB0.out HB1.out) hb2⟩
    · by_cases h8 : (80 : Int) < nb
      · go_wp2_with fail
        refine (alive_any _).mono ?_
        rintro e w2 ⟨rfl, hb2⟩
        go_wp2_with fail
        go_ret
        exact ⟨rfl, Bt (Bt HB0.out HB1.out) hb2⟩
      · have HRW := hid (HR0.out.on HB1.out)
        by_cases he : hE S.length at_ nb = 0
        · have HE := hid he; clear he
          go_wp2_with fail
          refine (write_ok HD1.out at_ HA.out HRW.out HE.out).mono ?_
          rintro e w2 ⟨rfl, hd2, hf2⟩
          have HD2 := hid hd2; have HB2 := hid (HB1.out.trans (HD1.out.below hf2))
          obtain ⟨hc1, hc3⟩ := HC.out w2 HB2.out
          clear hd2 hf2
          go_wp2_with fail
          refine (flush_ok HD2.out at_ nb HA.out HN.out (by rw [setL_length _ _ _ (by have := hE_ok HE.out; have := HNB.out; omega)]; exact HE.out)).mono ?_
          rintro e w3 ⟨rfl, hd3, hf3⟩
          have HD3 := hid hd3; have HB3 := hid (HB2.out.trans (HD2.out.below hf3))
          clear hd3 hf3 hc1 hc3
          go_wp2_with fail
          refine (fence_any HD3.out).mono ?_
          rintro e w4 ⟨rfl, hd4, hf4⟩
          have HSR := hid (fun done => safe_read (S := S) (L := L) (F := F) (done := done) (at_ := at_) (l := bs) (by rw [HNB.out]; exact HE.out))
          rw [HNB.out] at HSR
          obtain ⟨S4, hS4⟩ : ∃ S4, S4 = setL S at_.toNat bs := ⟨_, rfl⟩
          obtain ⟨L4, hL4⟩ : ∃ L4, L4 = feL (wrL S L (spA at_ nb) (spB at_ nb)) (flF (wrF F (spA at_ nb) (spB at_ nb)) (wrL S L (spA at_ nb) (spB at_ nb)) (spA at_ nb) (spB at_ nb)) := ⟨_, rfl⟩
          rw [← hS4, ← hL4] at hd4 HSR
          have HL4 : Hid (S4.length = 80) := show _ = _ by rw [hS4, setL_length _ _ _ (by have := hE_ok HE.out; have := HNB.out; omega)]; exact H80.out
          have HE4 : Hid (hE 80 at_ nb = 0) := show _ = _ by have := HE.out; rw [H80.out] at this; exact this
          have HD4 := hid hd4; have HB4 := hid (HB3.out.trans (HD3.out.below hf4))
          clear hd4 hf4 HD3 HB3 HD2 HB2 HD1 HB1 hS4 hL4 HE
          go_wp2_with fail
          refine (copy_any HD4.out).mono ?_
          rintro e w5 ⟨d5, g5, cap5, lb5, fb5, rfl, hc5, hb5⟩
          have HC5 := hid hc5; have HD5 := hid (HD4.out.on hb5); have HB5 := hid (Bt HB4.out hb5)
          have HS45 := hid hb5.size
          clear hc5 hb5
          go_wp2_with fail
          refine (bytes_any HC5.out).mono ?_
          rintro e w6 ⟨v6, rfl, ho6, hb6⟩
          have hcv6 := ho6.conv
          have HC6 := hid (HC5.out.on hb6); have HD6 := hid (HD5.out.on hb6); have HB6 := hid (Bt HB5.out hb6)
          clear ho6 hb6 HC5 HD5 HB5
          go_wp2_with fail
          refine (loose_any HC6.out).mono ?_
          rintro e w7 ⟨v7, rfl, hr7, hb7⟩
          obtain ⟨A7, c7, hv7, hi7⟩ := rdI_of_row hr7 (looseL_i64 (by have := HL4.out; omega))
          subst hv7
          have HI7 := hid hi7
          have HC7 := hid (HC6.out.on hb7); have HD7 := hid (HD6.out.on hb7); have HB7 := hid (Bt HB6.out hb7)
          clear hr7 hi7 hb7 HC6 HD6 HB6 hcv6
          go_wp2_with fail
          refine (crash_any HC7.out HI7.out).mono ?_
          rintro e w8 ⟨rfl, hc8, hf8⟩
          rw [kept_all (fun k x hl => by have := HD4.out.keyL k x hl; have := HL4.out; omega)] at hc8
          have HC8 := hid hc8
          have hlow := HC7.out.below hf8
          have HD8 := hid (HD7.out.low hlow HD4.out.dlt HD4.out.glt HD4.out.llt HD4.out.flt)
          have HB8 := hid (HB7.out.trans (hlow.mono HB4.out.size))
          clear hc8 hf8 hlow HC7 HD7 HB7 HI7
          go_wp2_with fail
          refine (bytes_any HC8.out).mono ?_
          rintro e w9 ⟨v9, rfl, ho9, hb9⟩
          have hcv9 := ho9.conv
          have HD9 := hid (HD8.out.on hb9); have HB9 := hid (Bt HB8.out hb9)
          clear ho9 hb9 HC8 HD8 HB8
          go_wp2_with fail
          refine (crash_any HD9.out (HK0.out.on HB9.out)).mono ?_
          rintro e w10 ⟨rfl, hd10, hf10⟩
          have HD10 := hid hd10; have HB10 := hid (HB9.out.trans (HD9.out.below hf10))
          obtain ⟨hc1, hc3⟩ := HC.out w10 HB10.out
          clear hd10 hf10 HD9 HB9 hcv9
          go_wp2_with fail
          refine (read_ok HD10.out at_ nb HA.out HN.out (by rw [crS_length, HL4.out]; exact HE4.out)).mono ?_
          rintro e w11 ⟨v11, rfl, ho11, hb11⟩
          rw [Int.toNat_natCast, HSR.out] at ho11
          have HO11 := hid ho11
          have HD11 := hid (HD10.out.on hb11); have HB11 := hid (Bt HB10.out hb11)
          clear ho11 hb11 HD10 HB10 hc1 hc3
          go_wp2_with fail
          refine (alive_any _).mono ?_
          rintro e w12 ⟨rfl, hb12⟩
          have hcv12 := (HO11.out.grown hb12).conv
          have HD12 := hid (HD11.out.on hb12); have HB12 := hid (Bt HB11.out hb12)
          have hcvb := (HR0.out.on HB12.out).conv
          obtain ⟨hc1, hc3⟩ := HC.out w12 HB12.out
          clear hb12 HO11 HD11 HB11
          go_wp2_with fail
          refine (loose_any HD12.out).mono ?_
          rintro e w13 ⟨v13, rfl, hr13, hb13⟩
          rw [looseL_empty (fun _ => rfl)] at hr13
          obtain ⟨A13, c13, hv13, _⟩ := rdI_of_row hr13 (by simp)
          subst hv13
          have HB13 := hid (Bt HB12.out hb13)
          clear hr13 hb13 HD12 HB12 hcv12 hcvb
          go_wp2_with fail
          go_ret
          exact ⟨rfl, Bt HB0.out HB13.out⟩
        · have hwb := write_bad HD1.out at_ HA.out (A := ab) (c := cb) HN.out he
          obtain ⟨x, hx⟩ : ∃ x, x = hE S.length at_ nb := ⟨_, rfl⟩
          rw [← hx] at he hwb
          have hxn : (x != 0) = true := by simpa using he
          have HE := hid hwb; clear hwb hx he
          go_wp2_with fail
          refine HE.out.mono ?_
          rintro e w2 ⟨rfl, rfl⟩
          go_wp2_with fail
          refine (alive_any _).mono ?_
          rintro e w3 ⟨rfl, hb3⟩
          go_wp2_with fail
          go_ret
          exact ⟨rfl, Bt (Bt HB0.out HB1.out) hb3⟩
end Go.Proofs.Ytfekholamkidkaa
