/-
  WalRooms holds: for every number of words the statement answers true, and nothing that was there has turned.
-/
import Derived.Test.YtpmljbcgaeodjaaWalL
namespace Go.Proofs.Ytpmljbcgaeodjaa
open Go.RowKit Go.Maps Go.Shelf
set_option linter.unusedVariables false

theorem OwS.frp {w w' : World} {base p g lb fb : Nat} {v : Value} {xs : List (Int × Int)} (h : OwS w base v xs) (hf : FrP p g lb fb w w') (h0 : p < base) (h1 : g < base) (h2 : lb < base) (h3 : fb < base) : OwS w' base v xs := by
  refine ⟨h.1, ?_⟩
  rcases h.2 with h5 | ⟨r, cap, cur, hv, hbase, hg, h4⟩
  · exact .inl h5
  · exact .inr ⟨r, cap, cur, hv, hbase, (hf.block r (row_lt hg) (by omega) (by omega) (by omega) (by omega)).trans hg, h4⟩
def roomsL (k : Int) (r : Nat) : List (Int × Int) := (List.range r).map fun (i : Nat) => (k + (i : Int).tmod 2, (i : Int))
theorem roomsL_length (k : Int) (r : Nat) : (roomsL k r).length = r := by simp [roomsL]
theorem roomsL_succ (k : Int) (r : Nat) : roomsL k (r + 1) = roomsL k r ++ [(k + (r : Int).tmod 2, (r : Int))] := by simp [roomsL, List.range_succ]
theorem rem2 (i : Nat) : 0 ≤ (i : Int).tmod 2 ∧ (i : Int).tmod 2 ≤ 1 := by
  rw [Int.tmod_eq_emod_of_nonneg (by omega)]; omega
theorem rooms_may (k : Int) (h1 : 1 ≤ k) (r : Nat) : (roomsL k r).all (mayB (k + 2) 0 k) = true := by
  rw [List.all_eq_true]
  intro x hx
  obtain ⟨i, _, rfl⟩ := List.mem_map.1 hx
  have := rem2 i
  unfold mayB
  simp; omega
theorem rooms_ok (k : Int) (h1 : 1 ≤ k) (h2 : k ≤ 200) (r : Nat) (hr : r ≤ 1000) : ∀ x ∈ roomsL k r, I64 x.1 ∧ U64 x.2 := by
  intro x hx
  obtain ⟨i, hi, rfl⟩ := List.mem_map.1 hx
  rw [List.mem_range] at hi
  have := rem2 i
  exact ⟨i64_iff.2 (by simp only; omega), by unfold U64; rw [pw8]; simp only; omega⟩

set_option maxRecDepth 20000 in
set_option maxHeartbeats 8000000 in
theorem walk_WalRooms (k : Int) (w : World) (hk : (Lit.int .i64 k).wf = true) :
    Calls Try.prog 7 #[.int .i64 k] w fun e w' => e = .returned (.bool true) ∧ Below w.heap.size w w' := by
  have hk' := i64_iff.1 hk
  obtain ⟨n2, hn2⟩ : ∃ n2, n2 = IntKind.i64.wrap (k + 2) := ⟨_, rfl⟩
  have hn3 := hn2
  rw [IntKind.wrap_i64] at hn3
  have e0 : IntKind.i64.wrap (k + 2) = n2 := hn2.symm
  clear hn2 hk
  by_cases hbad : n2 < 0 ∨ 8192 < n2
  · have HN := hid (new_bad n2 hbad w)
    clear hbad hn3 hk'
    go_enter Try.func7, Try.ntmps7
    go_wp2_with fail
    refine HN.out.mono ?_
    rintro e w1 ⟨rfl, rfl⟩
    go_wp2_with fail
    refine (alive_any _).mono ?_
    rintro e w2 ⟨rfl, hb⟩
    go_wp2_with fail
    go_ret
    exact ⟨rfl, hb⟩
  · have hn : n2 = k + 2 := by omega
    have hn0 : 0 ≤ n2 := by omega
    have hn8 : n2 ≤ 8192 := by omega
    clear hbad hn3
    subst hn
    obtain ⟨m, hm⟩ : ∃ m : Nat, (m : Int) = (k + 2) * 8 := ⟨((k + 2) * 8).toNat, by omega⟩
    have HN := hid (new_ok (k + 2) m hm hn0 hn8 w)
    have HM := hid hm
    clear hm
    by_cases c1 : k < 1
    · have d1 : decide (k < 1) = true := by simp; omega
      go_enter Try.func7, Try.ntmps7
      go_wp2_with fail
      refine HN.out.mono ?_
      rintro e w1 ⟨d, g, lb, fb, rfl, hd1, hb1⟩
      clear hd1
      go_wp2_with fail
      refine (alive_any _).mono ?_
      rintro e w2 ⟨rfl, hb⟩
      go_wp2_with fail
      go_ret
      exact ⟨rfl, Bt hb1 hb⟩
    · have d1 : decide (k < 1) = false := by simp; omega
      by_cases c2 : 200 < k
      · have d2 : decide (200 < k) = true := by simp; omega
        go_enter Try.func7, Try.ntmps7
        go_wp2_with fail
        refine HN.out.mono ?_
        rintro e w1 ⟨d, g, lb, fb, rfl, hd1, hb1⟩
        clear hd1
        go_wp2_with fail
        refine (alive_any _).mono ?_
        rintro e w2 ⟨rfl, hb⟩
        go_wp2_with fail
        go_ret
        exact ⟨rfl, Bt hb1 hb⟩
      · have d2 : decide (200 < k) = false := by simp; omega
        have hk1 : 1 ≤ k := by omega
        have hk2 : k ≤ 200 := by omega
        have hlen : k + 2 = (((zeros m).length : Nat) : Int) / 8 := by rw [zeros_length]; have := HM.out; omega
        have hrg : rgE (k + 2) 0 k = 0 := by unfold rgE; rw [if_neg (by omega), if_neg (by omega)]
        have hsq : seqOf (k + 2) 0 k (zeros m) = 0 := by
          unfold seqOf
          rw [rec_no (b := recB (zeros m) 0 k) (by
            have := HM.out
            unfold recB zeros
            rw [show ((0 : Int) * 8).toNat = 0 from rfl, List.drop_zero, List.take_replicate, List.take_replicate, show min 2 (min (k * 8).toNat m) = 2 by omega]; rfl)]
          rfl
        have q1 : IntKind.i64.wrap (k - 1) = k - 1 := by rw [IntKind.wrap_i64]; omega
        have q2 : (k - 1).tdiv 2 = (k - 1) / 2 := Int.tdiv_eq_ediv_of_nonneg (by omega)
        obtain ⟨R, hR⟩ : ∃ R : Nat, (R : Int) = (k - 1) / 2 := ⟨((k - 1) / 2).toNat, by omega⟩
        rw [← hR] at q2
        have hR2 : (R : Int) ≤ 100 := by omega
        have HLEN := hid hlen; have HRG := hid hrg; have HSQ := hid hsq; have HR := hid hR
        clear hlen hrg hsq hR c1 c2 hn0 hn8 hk'
        go_enter Try.func7, Try.ntmps7
        go_wp2_with fail
        refine HN.out.mono ?_
        rintro e w1 ⟨d, g, lb, fb, rfl, hd1, hb1⟩
        have HD1 := hid (DevS.clean hd1); have HB1 := hid hb1
        clear hd1 hb1
        go_wp2_with fail
        refine (open_ok (S := zeros m) (n := k + 2) HD1.out HLEN.out HRG.out).mono ?_
        rintro e w2 ⟨p, rfl, hl2, hp2, hb2⟩
        rw [HSQ.out] at hl2
        have HL2 : Hid (LogV w2 p d 0 k 1) := hl2
        have HB2 := hid (Bt HB1.out hb2); have HP : Hid (w.heap.size ≤ p) := Nat.le_trans HB1.out.size hp2
        have HD2 : Hid (DevS w2 w.heap.size d g m lb fb (cl (zeros m))) := Dev.on HD1.out hb2
        clear hl2 hb2 hp2
        go_wp2_with fail
        refine (room_any HL2.out hk1 (by omega)).mono ?_
        rintro e wz ⟨rfl, rfl⟩
        rw [← HR.out]
        have dq : ((R : Int) == (R : Int)) = true := by simp
        go_wp2_with fail
        refine (room_any HL2.out hk1 (by omega)).mono ?_
        rintro e wy ⟨rfl, rfl⟩
        rw [← HR.out]
        go_wp2_with fail
        obtain ⟨W, hW⟩ : ∃ W, W = wy := ⟨_, rfl⟩
        have HWW := hid hW
        go_loopw [7, 54] (fun v i wr => ∃ j : Nat, j ≤ R ∧ i = .int .i64 j ∧ Hid (OwS wr W.heap.size v (roomsL k j)) ∧ Hid (Below W.heap.size W wr)) (fun _ i _ => R - (intOf i).toNat)
        case atStart => exact ⟨0, Nat.zero_le _, rfl, hid (OwS.nil _ _), hid (by rw [HWW.out]; exact B0 _)⟩
        case round =>
          obtain ⟨j, hj, rfl, HS, HBr⟩ := hrel
          rename_i v
          by_cases hlt : j < R
          · obtain ⟨y, hy⟩ : ∃ y : Int, (j : Int).tmod 2 = y := ⟨_, rfl⟩
            have hy2 := rem2 j
            rw [hy] at hy2
            have t2 : IntKind.i64.wrap (k + y) = k + y := by rw [IntKind.wrap_i64]; omega
            have t3 : IntKind.u64.wrap (j : Int) = j := u64_conv (by omega) (by omega)
            have t4 : IntKind.i64.wrap y = y := by rw [IntKind.wrap_i64]; omega
            obtain ⟨w5, hw5⟩ : ∃ w5, w5 = wr.alloc (.cells #[.int .i64 (k + y), .int .u64 (j : Int)] 54) := ⟨_, rfl⟩
            have hb5 : Below wr.heap.size wr w5 := by rw [hw5]; exact B1 _ _
            have hq5 : w5.heap[wr.heap.size]? = some (.cells #[.int .i64 (k + y), .int .u64 (j : Int)] 54 (0, 0)) := by rw [hw5]; exact heap_alloc_new _ _
            obtain ⟨v3, w3, hrun, ho3, hg3⟩ := run_appS (x := (k + y, (j : Int))) (HS.out.on hb5) hq5 (by rw [roomsL_length]; omega) (Nat.le_trans HBr.out.size hb5.size) 33
            rw [hw5] at hrun
            have HRUN := hid hrun; have HO3 := hid ho3; have HG3 := hid hg3; have HB5 := hid hb5; have HY := hid hy
            clear hrun ho3 hg3 hq5 hb5 hw5
            go_wp2_with (at_builtin; refine wpList_appS rfl _ _ rfl rfl rfl HRUN.out ?_)
            go_roundw
            case rel =>
              refine ⟨j + 1, by omega, by simp, hid (by rw [roomsL_succ, HY.out]; exact HO3.out), hid ((HBr.out.trans (HB5.out.mono HBr.out.size)).grown HG3.out (Nat.le_trans HBr.out.size HB5.out.size) (fun i hi => ?_))⟩
              rcases HS.out.2 with ⟨e, _⟩ | ⟨g', cap', cur', e, hbase, _⟩
              · rw [e] at hi; simp [Value.ownBlock] at hi
              · rw [e] at hi; simp [Value.ownBlock] at hi; omega
            case measure => simp [intOf]; omega
          · obtain rfl : j = R := by omega
            obtain ⟨A, cc, rfl⟩ := HS.out.shape
            have HOK := hid (rooms_ok k hk1 hk2 j (by omega))
            have hrd := (HS.out.rd HOK.out).1
            rw [roomsL_length] at hrd HS ⊢
            have hWw : Below w.heap.size w wr := by have h1 := HB2.out; rw [← HWW.out] at h1; exact Bt h1 HBr.out
            have HD3 : Hid (DevS wr w.heap.size d g m lb fb (cl (zeros m))) := by have h1 := HD2.out; rw [← HWW.out] at h1; exact Dev.on h1 HBr.out
            have HL3 : Hid (LogV wr p d 0 k 1) := by have h1 := HL2.out; rw [← HWW.out] at h1; exact (HBr.out.block _ (row_lt h1)).trans h1
            have HLT : Hid (p < W.heap.size ∧ g < W.heap.size ∧ lb < W.heap.size ∧ fb < W.heap.size) := by
              have h1 := HL2.out; have h2 := HD2.out
              rw [← HWW.out] at h1 h2
              exact ⟨row_lt h1, Dev.glt h2, Dev.llt h2, Dev.flt h2⟩
            have HWr := hid hWw
            obtain ⟨er, her⟩ : ∃ er, er = begE (k + 2) 0 k 1 (roomsL k j) := ⟨_, rfl⟩
            have HER : Hid (er = if j = 0 then 1 else 0) := by
              show er = _
              rw [her]; unfold begE
              rw [rooms_may k hk1, roomsL_length]
              by_cases hz : j = 0
              · rw [if_pos (.inl hz), if_pos hz]
              · rw [if_neg (by simp [hz]), if_neg (by have := HR.out; omega), if_neg hz]
            have hcom := commit_any (N := k + 2) HD3.out HLEN.out (by omega) hk1 (by omega) HL3.out hrd (by omega) (by omega)
            rw [← her] at hcom
            have HC := hid hcom; have HE0 := hid her
            clear hcom her hrd hWw
            go_wp2_with fail
            refine HC.out.mono ?_
            rintro e w5 ⟨rfl, hd5, hl5, hf5⟩
            have HS5 := hid (HS.out.frp hf5 HLT.out.1 HLT.out.2.1 HLT.out.2.2.1 HLT.out.2.2.2)
            have HB5 := hid (HWr.out.trans (hf5.base HP.out (Dev.Bg HD3.out) (Dev.Bl HD3.out) (Dev.Bf HD3.out) HWr.out.size))
            have HF5 := hid hf5
            obtain ⟨D5, hD5⟩ : ∃ D5, D5 = (if er = 0 then runS (cl (zeros m)) (allS 0 1 (roomsL k j)) else cl (zeros m)) := ⟨_, rfl⟩
            rw [← hD5] at hd5
            obtain ⟨nx, hnx⟩ : ∃ nx : Int, nx = (if er = 0 then 1 + 1 else 1) := ⟨_, rfl⟩
            rw [← hnx] at hl5
            have hnx2 : 1 ≤ nx ∧ nx ≤ 2 := by rw [hnx]; split <;> omega
            have HDL : Hid (D5.S.length = m) := by
              show D5.S.length = m
              rw [hD5]
              split
              · rename_i he
                rw [runS_length (D := cl (zeros m)) (all_ok HLEN.out (by omega) hk1 (by omega) (by rw [← HE0.out]; exact he))]; exact zeros_length m
              · exact zeros_length m
            have HD5 := hid hd5; have HL5 := hid hl5
            clear hd5 hl5 hf5 hD5 hnx
            obtain ⟨w6, hw6⟩ : ∃ w6, w6 = w5.alloc (.cells #[.int .i64 k, .int .u64 0] 54) := ⟨_, rfl⟩
            have hb6 : Below w5.heap.size w5 w6 := by rw [hw6]; exact B1 _ _
            have hq6 : w6.heap[w5.heap.size]? = some (.cells #[.int .i64 k, .int .u64 0] 54 (0, 0)) := by rw [hw6]; exact heap_alloc_new _ _
            have hsz : W.heap.size ≤ w6.heap.size := Nat.le_trans (Nat.le_trans HBr.out.size HF5.out.size) hb6.size
            obtain ⟨v7, w7, hrun, ho7, hg7⟩ := run_appS (x := (k, 0)) (HS5.out.on hb6) hq6 (by rw [roomsL_length]; omega) hsz 33
            rw [hw6] at hrun
            have hrow : ∀ i, Value.ownBlock (.slice A j cc) = some i → W.heap.size ≤ i := fun i hi => by
              rcases HS.out.2 with ⟨e, _⟩ | ⟨g', cap', cur', e, hbase, _⟩
              · rw [e] at hi; simp [Value.ownBlock] at hi
              · rw [e] at hi; simp [Value.ownBlock] at hi; omega
            have hne : ∀ i, i < W.heap.size → some i ≠ Value.ownBlock (.slice A j cc) := fun i hi e => by have := hrow i e.symm; omega
            have hwsz : w.heap.size ≤ W.heap.size := by rw [HWW.out]; exact HB2.out.size
            have HB7 : Hid (Below w.heap.size w w7) := (HB5.out.trans (hb6.mono HB5.out.size)).grown hg7 (Nat.le_trans HB5.out.size hb6.size) (fun i hi => by have := hrow i hi; omega)
            have HL7 : Hid (LogV w7 p d 0 k nx) := (hg7.block _ (Nat.lt_of_lt_of_le (row_lt HL5.out) hb6.size) (hne _ HLT.out.1)).trans ((hb6.block _ (row_lt HL5.out)).trans HL5.out)
            have HD7 : Hid (DevS w7 w.heap.size d g m lb fb D5) := by
              have hd := Dev.on HD5.out hb6
              have hdl : d < W.heap.size := by have h2 := HD2.out; rw [← HWW.out] at h2; exact Dev.dlt h2
              exact Dev.cong hd (hg7.block _ (Dev.dlt hd) (hne _ hdl)) (hg7.block _ (Dev.glt hd) (hne _ HLT.out.2.1)) (hg7.block _ (Dev.llt hd) (hne _ HLT.out.2.2.1)) (hg7.block _ (Dev.flt hd) (hne _ HLT.out.2.2.2))
            obtain ⟨A7, c7, rfl⟩ := ho7.shape
            have hx7 : ∀ x ∈ roomsL k j ++ [(k, 0)], I64 x.1 ∧ U64 x.2 := fun x hx => by
              rw [List.mem_append] at hx
              rcases hx with hx | hx
              · exact HOK.out x hx
              · simp at hx; subst hx; exact ⟨i64_iff.2 (by simp only; omega), by unfold U64; rw [pw8]; simp only; omega⟩
            have hrd7 := (ho7.rd hx7).1
            have he7 : begE (k + 2) 0 k nx (roomsL k j ++ [(k, 0)]) = 40 := by
              unfold begE
              have hm : (roomsL k j ++ [(k, 0)]).all (mayB (k + 2) 0 k) = true := by
                rw [List.all_append, rooms_may k hk1]
                unfold mayB; simp; omega
              rw [hm, List.length_append, roomsL_length, if_neg (by simp), if_pos (.inl (by have := HR.out; simp; omega))]
            have hcom := commit_any (N := k + 2) HD7.out (by rw [HDL.out]; have h := HLEN.out; rw [zeros_length] at h; exact h) (by omega) hk1 (by omega) HL7.out hrd7 (by omega) (by omega)
            rw [he7] at hcom
            have HC7 := hid hcom; have HRUN := hid hrun
            have hl7 : (roomsL k j ++ [(k, (0 : Int))]).length = j + 1 := by simp [roomsL_length]
            rw [hl7] at HC7 HRUN
            clear hcom hrun he7 hrd7 hx7 hne hrow hq6 hb6 hw6 hg7 ho7 hl7
            have her := HER.out
            by_cases hz : j = 0
            · rw [if_pos hz] at her
              subst her
              subst hz
              go_wp2_with (at_builtin; refine wpList_appS rfl _ _ rfl rfl rfl HRUN.out ?_)
              refine HC7.out.mono ?_
              rintro e w8 ⟨rfl, hd8, hl8, hf8⟩
              have HB8 := hid (HB7.out.trans (hf8.base HP.out (Dev.Bg HD7.out) (Dev.Bl HD7.out) (Dev.Bf HD7.out) HB7.out.size))
              clear hd8 hl8 hf8
              go_wp2_with fail
              refine (alive_any _).mono ?_
              rintro e w9 ⟨rfl, hb9⟩
              go_wp2_with fail
              go_ret
              exact ⟨rfl, Bt HB8.out hb9⟩
            · rw [if_neg hz] at her
              subst her
              have dz : ((j : Int) == 0) = false := by rw [beq_eq_false_iff_ne]; omega
              have dz2 : decide (0 < (j : Int)) = true := by simp; omega
              go_wp2_with (at_builtin; refine wpList_appS rfl _ _ rfl rfl rfl HRUN.out ?_)
              refine HC7.out.mono ?_
              rintro e w8 ⟨rfl, hd8, hl8, hf8⟩
              have HB8 := hid (HB7.out.trans (hf8.base HP.out (Dev.Bg HD7.out) (Dev.Bl HD7.out) (Dev.Bf HD7.out) HB7.out.size))
              clear hd8 hl8 hf8
              go_wp2_with fail
              refine (alive_any _).mono ?_
              rintro e w9 ⟨rfl, hb9⟩
              go_wp2_with fail
              go_ret
              exact ⟨rfl, Bt HB8.out hb9⟩
end Go.Proofs.Ytpmljbcgaeodjaa
