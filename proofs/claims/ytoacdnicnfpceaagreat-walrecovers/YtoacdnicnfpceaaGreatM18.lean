/-
  The law WalRecovers: a walk.
  A device of no bytes behind a script; the law WalRecovers there.
-/
import Derived.Test.YtoacdnicnfpceaaGreatM16
import Derived.Test.YtoacdnicnfpceaaGreatM17

namespace Go.Proofs.YtoacdnicnfpceaaGreat
open Go.RowKit Go.Maps Go.Shelf
set_option linter.unusedVariables false

theorem own_conv {w : World} {base : Nat} {v : Value} {l : List UInt8} (h : Own w base v l) : (convert 22 9 v).run Tryz.prog w = .ok (.string ⟨l.toArray⟩) w := by
  obtain ⟨A, c, hv, hr⟩ := h.rd
  rw [hv]; exact hr.conv

set_option maxRecDepth 20000 in
set_option maxHeartbeats 8000000 in
theorem recovers_main {w : World} {ad : Addr} {A2 : Option Addr} {n c n2 c2 : Nat} {b : List UInt8} {l : List OpV} {at_ words : Int} (hb : Rd w w.heap.size (some ad) n c b) (h : RdO w w.heap.size A2 n2 c2 l) (ha : I64 at_) (hw : I64 words) :
    Calls Tryz.prog 4 #[.agg #[.slice (some ad) n c, .slice A2 n2 c2, .int .i64 at_, .int .i64 words]] w fun e w' => e = .returned (.bool true) ∧ Below w.heap.size w w' := by
  have H := hid h; have HR := hid hb; have HA := hid ha; have HWo := hid hw
  clear h hb ha hw
  obtain ⟨w0, hw0⟩ : ∃ w0, w0 = w.alloc (.cells #[.slice (some ad) n c, .slice A2 n2 c2, .int .i64 at_, .int .i64 words] 27) := ⟨_, rfl⟩
  have HW0 := hid hw0
  have HB0 : Hid (Below w.heap.size w w0) := by rw [hw0]; exact B1 _ _
  have HBX : Hid (∀ w', Below w0.heap.size w0 w' → w'.heap[w.heap.size]? = some (.cells #[.slice (some ad) n c, .slice A2 n2 c2, .int .i64 at_, .int .i64 words] 27 (0, 0))) := fun w' h => by
    rw [h.block _ (by rw [hw0]; simp), hw0]; exact heap_alloc_new w _
  have HS0 : Hid (w0.heap.size = w.heap.size + 1) := by show _ = _; rw [hw0]; simp
  clear hw0
  go_enter Tryz.func4, Tryz.ntmps4
  go_wp2_with fail
  rw [← HW0.out]
  refine (made4_any (HR.out.on HB0.out) (H.out.on HB0.out)).mono ?_
  rintro e w1 hm
  rcases hm with ⟨rfl, hb1⟩ | ⟨d, g, cap, lb, fb, base, v, D, rfl, hB, hlen, hb1⟩
  · have HB1 := hid (Bt HB0.out hb1)
    clear hb1
    go_wp2_with fail
    refine (alive_any _).mono ?_
    rintro e w2 ⟨rfl, hb2⟩
    have HB2 := hid (Bt HB1.out hb2); clear hb2
    go_wp2_with fail
    go_ret
    exact ⟨rfl, HB2.out⟩
  have HBo := hid hB; have HB1 := hid hb1
  have HBW1 := hid (Bt HB0.out hb1)
  obtain ⟨A1, c1, hv, hrd⟩ := hB.ow.rd
  obtain ⟨N, hN⟩ : ∃ N, N = (wordsOf D).length := ⟨_, rfl⟩
  rw [← hN] at hv hrd
  subst hv
  have HN8 : Hid (N ≤ 8192) := by show _ ≤ _; rw [hN, wordsOf_length]; have := hB.dev.len.2; omega
  have HNI : Hid ((N : Int) = (D.S.length : Int) / 8) := by show _ = _; rw [hN, wordsOf_length]; omega
  have HRD := hid hrd
  have hx := HBX.out w1 hb1
  have x2 := row_cell hx 2; have x3 := row_cell hx 3
  simp at x2 x3
  clear hB hb1 hrd hN hx hlen
  by_cases he : rgE (N : Int) at_ words = 0
  · have HE := hid he
    clear he
    go_wp2_with fail
    refine (recover_all HBo.out.dev HNI.out HE.out).mono ?_
    rintro e w2 ⟨rfl, hd2, hf2⟩
    obtain ⟨q, hq⟩ : ∃ q : Nat, q = seqOf (N : Int) at_ words D.S := ⟨_, rfl⟩
    rw [← hq]
    have HQ := hid hq
    obtain ⟨D1, hD1⟩ : ∃ D1, D1 = revD (N : Int) at_ words D := ⟨_, rfl⟩
    rw [← hD1] at hd2
    have HD1 := hid hD1
    have hag := rev_again HNI.out HE.out
    have hrl := rev_len (at_ := at_) (words := words) HNI.out
    rw [← hD1] at hag hrl
    have HAG := hid hag; have HRL := hid hrl
    have HD2 := hid hd2; have HF2 := hid hf2
    have HBo2 : Hid (OwW w2 base (.slice A1 N c1) (wordsOf D)) := HBo.out.ow.fr hf2 HBo.out.h1 HBo.out.h2 HBo.out.h3
    have HBw2 : Hid (Below w0.heap.size w0 w2) := HB1.out.trans (HBo.out.dev.below hf2)
    have HS2 : Hid (base ≤ w2.heap.size) := Nat.le_trans HBo.out.hb hf2.size
    have hx := HBX.out w2 HBw2.out
    have x2 := row_cell hx 2; have x3 := row_cell hx 3
    simp at x2 x3
    clear hq hD1 hag hrl hd2 hf2 hx
    go_wp2_with fail
    refine (rin4_any at_ words HA.out HWo.out HN8.out).mono ?_
    rintro e w3 ⟨rfl, hb3⟩
    rw [HE.out]
    have HD3 := hid (HD2.out.on hb3); have HBo3 := hid (HBo2.out.on hb3); have HS3 : Hid (base ≤ w3.heap.size) := Nat.le_trans HS2.out hb3.size
    have HBw3 := hid (Bt HBw2.out hb3)
    have hx := HBX.out w3 HBw3.out
    have x2 := row_cell hx 2; have x3 := row_cell hx 3
    simp at x2 x3
    clear hb3 hx
    go_wp2_with fail
    refine (rrecover_any HBo3.out HS3.out HBo.out.dev.good HNI.out HE.out).mono ?_
    rintro e w4 ⟨v4, rfl, ho4, hb4⟩
    rw [← HQ.out]
    have ho4 : OwW w4 base v4 (wordsOf (revD (N : Int) at_ words D)) := ho4
    rw [← HD1.out] at ho4
    obtain ⟨A4, c4, hv4, hr4⟩ := ho4.rd
    subst hv4
    have HD4 := hid (HD3.out.on hb4); have HR4 := hid hr4
    have HBw4 := hid (Bt HBw3.out hb4)
    clear hb4 ho4 hr4 x2 x3
    go_wp2_with fail
    refine (same4_any (base := base) HD4.out HR4.out).mono ?_
    rintro e w5 ⟨rfl, hb5⟩
    have HD5 := hid (HD4.out.on hb5)
    have HBw5 := hid (Bt HBw4.out hb5)
    clear hb5
    go_wp2_with fail
    refine (bytes_any HD5.out).mono ?_
    rintro e w6 ⟨v6, rfl, ho6, hb6⟩
    have hcv := own_conv ho6
    have HD6 := hid (HD5.out.on hb6)
    have HBw6 := hid (Bt HBw5.out hb6)
    have hx := HBX.out w6 HBw6.out
    have x2 := row_cell hx 2; have x3 := row_cell hx 3
    simp at x2 x3
    clear hb6 ho6 hx
    go_wp2_with fail
    have HNI1 : Hid ((N : Int) = (D1.S.length : Int) / 8) := by show _ = _; rw [HRL.out]; exact HNI.out
    refine (recover_all HD6.out HNI1.out HE.out).mono ?_
    rintro e w7 ⟨rfl, hd7, hf7⟩
    rw [HAG.out.2.2, ← HQ.out]
    have HD7 := hid hd7
    have HBw7 : Hid (Below w0.heap.size w0 w7) := HBw6.out.trans (HD6.out.below hf7)
    clear hd7 hf7 hcv x2 x3
    go_wp2_with fail
    refine (alive_any _).mono ?_
    rintro e w8 ⟨rfl, hb8⟩
    have HD8 := hid (HD7.out.on hb8)
    have HBw8 := hid (Bt HBw7.out hb8)
    clear hb8
    go_wp2_with fail
    refine (bytes_any HD8.out).mono ?_
    rintro e w9 ⟨v9, rfl, ho9, hb9⟩
    rw [HAG.out.2.1] at ho9
    have hcv := own_conv ho9
    have HBw9 := hid (Bt HB0.out (Bt HBw8.out hb9))
    clear ho9 hb9
    go_wp2_with fail
    go_ret
    exact ⟨rfl, HBw9.out⟩
  · have HE := hid he
    obtain ⟨er, her⟩ : ∃ er, er = rgE (N : Int) at_ words := ⟨_, rfl⟩
    have d1 : (er != 0) = true := by rw [her]; simpa using he
    have HER := hid her
    clear he her
    go_wp2_with fail
    refine (recover_bad HBo.out.dev HA.out HWo.out HNI.out HE.out).mono ?_
    rintro e w2 ⟨rfl, hb2⟩
    rw [← HER.out]
    have hx := HBX.out w2 (HB1.out.trans (hb2.mono HB1.out.size))
    have x2 := row_cell hx 2; have x3 := row_cell hx 3
    simp at x2 x3
    have HB2 := hid hb2
    clear hb2 hx
    go_wp2_with fail
    refine (rin4_any at_ words HA.out HWo.out HN8.out).mono ?_
    rintro e w3 ⟨rfl, hb3⟩
    rw [← HER.out]
    have HB3 := hid (Bt HB2.out hb3)
    clear hb3 x2 x3
    go_wp2_with fail
    refine (alive_any _).mono ?_
    rintro e w4 ⟨rfl, hb4⟩
    have HB4 := hid (Bt HB3.out hb4)
    clear hb4
    go_wp2_with fail
    refine (same4_any (base := base) (HBo.out.dev.on HB4.out) (HRD.out.on HB4.out)).mono ?_
    rintro e w5 ⟨rfl, hb5⟩
    have HB5 := hid (Bt (Bt HBW1.out HB4.out) hb5)
    clear hb5
    go_wp2_with fail
    go_ret
    exact ⟨rfl, HB5.out⟩
end Go.Proofs.YtoacdnicnfpceaaGreat

namespace Go.Proofs.YtoacdnicnfpceaaGreat
open Go.RowKit Go.Maps Go.Shelf
set_option linter.unusedVariables false

theorem DevN.less {w : World} {B B' d lb fb : Nat} (h : DevN w B d lb fb) (hB : B' ≤ B) : DevN w B' d lb fb :=
  ⟨h.hd, Nat.le_trans hB h.Bd, Nat.le_trans hB h.Bl, Nat.le_trans hB h.Bf, h.ne, h.loose, h.flush⟩
structure BothN (B : Nat) (w : World) (d lb fb base : Nat) (v : Value) : Prop where
  dev : DevN w B d lb fb
  ow : OwW w base v (wordsOf (cl []))
  hb : base ≤ w.heap.size
  h2 : lb < base
  h3 : fb < base
  h4 : d < base
theorem BothN.on {B : Nat} {w w' : World} {d lb fb base : Nat} {v : Value} (h : BothN B w d lb fb base v) (hb : Below w.heap.size w w') : BothN B w' d lb fb base v :=
  ⟨h.dev.on hb, h.ow.on hb, Nat.le_trans h.hb hb.size, h.h2, h.h3, h.h4⟩
def MadeN (w w' : World) (e : Ending) : Prop :=
  (e = .returned (.tuple #[.pointer none, .slice none 0 0, .bool false]) ∧ Below w.heap.size w w') ∨
  ∃ d lb fb base v, e = .returned (.tuple #[.pointer (some ⟨d, 0, none⟩), v, .bool true]) ∧ BothN w.heap.size w' d lb fb base v ∧ Below w.heap.size w w'

set_option maxRecDepth 20000 in
set_option maxHeartbeats 4000000 in
theorem madeN_any {w : World} {A2 : Option Addr} {n2 c2 : Nat} {l : List OpV} (h : RdO w w.heap.size A2 n2 c2 l) :
    Calls Tryz.prog 5 #[.slice none 0 0, .slice A2 n2 c2] w fun e w' => MadeN w w' e := by
  have HL := hid h.1; have HCm := hid (Nat.le_trans h.2.1 h.2.2.1)
  have H := hid h
  have hn2m : (n2 : Int) ≤ 9223372036854775807 := by have := HCm.out; unfold maxLen at this; omega
  clear h
  have hcvn : ∀ W, (convert 22 9 (.slice none 0 0)).run Tryz.prog W = .ok (.string ⟨#[]⟩) W := fun W => (Rd.nil W 0).conv
  go_enter Tryz.func5, Tryz.ntmps5
  go_wp2_with fail
  go_loopw [7, 21] (fun s i wr => ∃ (j : Nat) (z : Int), j ≤ n2 ∧ i = .int .i64 j ∧ s = .int .i64 z ∧ Hid (Below w.heap.size w wr)) (fun _ i _ => n2 - (intOf i).toNat)
  case atStart => exact ⟨0, 0, by omega, rfl, rfl, B0 w⟩
  case round =>
    obtain ⟨j, z, hj, rfl, rfl, hb⟩ := hrel
    by_cases hlt : j < n2
    · obtain ⟨b, off, rfl, hbl, hc⟩ := H.out.2.2.2.2 (by omega)
      have hjl : j < l.length := by have := HL.out; omega
      have hjb : (j : Int) + 1 ≤ 9223372036854775807 := by omega
      obtain ⟨c0, c1, c2, c3, c4⟩ := (hc j hjl).below hb.out hbl
      generalize l[j] = o at c0 c1 c2 c3 c4
      obtain ⟨kind, at_, long, ab, nb, cb, bs, ak, nk, ck, ks⟩ := o
      simp only at c0 c1 c2 c3 c4
      clear hc hjl
      go_wp2_with fail
      exact ⟨⟨j + 1, _, by omega, by go_num, rfl, Ba hb.out _⟩, by simp [intOf]; omega⟩
    · obtain rfl : j = n2 := by omega
      have HB0 := hid hb.out
      obtain ⟨w1, hq⟩ : ∃ w1, w1 = wr := ⟨_, rfl⟩
      subst hq
      clear hb
      go_wp2_with fail
      refine (ofN _).mono ?_
      rintro e w2 ⟨d, lb, fb, rfl, hd2, hb2⟩
      have HB2 := hid (Bt HB0.out hb2); have HD2 := hid hd2
      clear hb2 hd2
      go_wp2_with fail
      refine (rnew_ok [] (n := 0) rfl (by omega)).mono ?_
      rintro e w3 ⟨v3, rfl, ho3, hb3⟩
      have ho3 : OwW w3 w2.heap.size v3 (wordsOf (cl [])) := ho3
      have HBO : Hid (BothN w.heap.size w3 d lb fb w2.heap.size v3) := ⟨(HD2.out.on hb3).less HB0.out.size, ho3, hb3.size, HD2.out.loose.lt, HD2.out.flush.lt, HD2.out.dlt⟩
      have HB3 := hid (Bt HB2.out hb3)
      clear ho3 hb3 HD2
      by_cases c2 : (j : Int) ≤ 60
      · by_cases c3 : z ≤ 2000
        · skip
          have d2 : decide (60 < (j : Int)) = false := by simp; omega
          have d3 : decide (2000 < z) = false := by simp; omega
          clear d2 d3
          go_wp2_with fail
          go_loopw [12, 72] (fun r i wr => ∃ (k : Nat), k ≤ j ∧ i = .int .i64 k ∧ Hid (BothN w.heap.size wr d lb fb w2.heap.size r) ∧ Hid (Below w.heap.size w wr)) (fun _ i _ => j - (intOf i).toNat)
          case atStart => exact ⟨0, by omega, rfl, HBO, HB3⟩
          case round =>
            obtain ⟨k, hk, rfl, HBo, HBe⟩ := hrel
            by_cases hlt2 : k < j
            · obtain ⟨b', off, rfl, hbl, hc⟩ := H.out.2.2.2.2 (by omega)
              have hkl : k < l.length := by have := HL.out; omega
              have hkb : (k : Int) + 1 ≤ 9223372036854775807 := by omega
              obtain ⟨c0, c1, c2, c3, c4⟩ := (hc k hkl).below HBe.out hbl
              have hok := (H.out.2.2.2.1 _ (List.getElem_mem hkl)).below HBe.out
              generalize l[k] = o at c0 c1 c2 c3 c4 hok
              obtain ⟨kind, at_, long, ab, nb, cb, bs, ak, nk, ck, ks⟩ := o
              simp only at c0 c1 c2 c3 c4
              have HOK := hid hok
              clear hc hkl hok
              by_cases k1 : kind = 1
              · subst k1
                go_wp2_with fail
                exact ⟨⟨k + 1, by omega, by go_num, hid (HBo.out.on (B1 _ _)), hid (Ba HBe.out _)⟩, by simp [intOf]; omega⟩
              · have k1' : (kind == 1) = false := by simpa using k1
                have HBx := hid (HBo.out.on (B1 wr (.cells #[.int .i64 kind, .int .i64 at_, .int .i64 long, .slice ab nb cb, .slice ak nk ck] 54)))
                have HBz := hid (Ba HBe.out (.cells #[.int .i64 kind, .int .i64 at_, .int .i64 long, .slice ab nb cb, .slice ak nk ck] 54))
                have HOx := hid ((HOK.out.below ((Below.refl w.heap.size wr).alloc HBe.out.size (.cells #[.int .i64 kind, .int .i64 at_, .int .i64 long, .slice ab nb cb, .slice ak nk ck] 54))).more (B' := (wr.alloc (.cells #[.int .i64 kind, .int .i64 at_, .int .i64 long, .slice ab nb cb, .slice ak nk ck] 54)).heap.size) (by have := HBe.out.size; simp; omega))
                go_wp2_with fail
                refine (do_any good_nil HBx.out.ow HBx.out.hb ⟨kind, at_, long, ab, nb, cb, bs, ak, nk, ck, ks⟩ HOx.out k1).mono ?_
                rintro e w4 ⟨v4, er, rfl, ho4, hb4⟩
                rw [words_op (show bs.length = nb from HOK.out.2.2.2.1.1)] at ho4
                have HO4 := hid ho4; have HB4 := hid hb4
                have HC4 : Hid (∀ i : Nat, w4.cell? ⟨wr.heap.size, i, none⟩ = (wr.alloc (.cells #[.int .i64 kind, .int .i64 at_, .int .i64 long, .slice ab nb cb, .slice ak nk ck] 54)).cell? ⟨wr.heap.size, i, none⟩) := fun i => hb4.cell (p := ⟨wr.heap.size, i, none⟩) (by simp)
                have f0 := HC4.out 0; have f1 := HC4.out 1; have f2 := HC4.out 2; have f3 := HC4.out 3; have f4 := HC4.out 4
                simp only [row_cell (heap_alloc_new wr _)] at f0 f1 f2 f3 f4
                clear ho4 hb4
                go_wp2_with fail
                refine (doesN (HBx.out.dev.on HB4.out) ⟨kind, at_, long, ab, nb, cb, bs, ak, nk, ck, ks⟩ ((HOx.out.below HB4.out).more HB4.out.size)).mono ?_
                rintro e w5 ⟨rfl, hd5, hf5⟩
                have HBn : Hid (BothN w.heap.size w5 d lb fb w2.heap.size v4) := ⟨hd5, HO4.out.fr hf5 HBo.out.h2 HBo.out.h2 HBo.out.h3, Nat.le_trans (Nat.le_trans HBx.out.hb HB4.out.size) hf5.size, HBo.out.h2, HBo.out.h3, HBo.out.h4⟩
                have HBw : Hid (Below w.heap.size w w5) := (Bt HBz.out HB4.out).trans ((HBx.out.dev.on HB4.out).below hf5)
                clear hd5 hf5 f0 f1 f2 f3 f4
                go_wp2_with fail
                exact ⟨⟨k + 1, by omega, by go_num, HBn, HBw⟩, by simp [intOf]; omega⟩
            · obtain rfl : k = j := by omega
              go_wp2_with fail
              refine bodyPost_ret (v := .tuple #[.pointer (some ⟨d, 0, none⟩), u12, .bool true]) (by simp [results, Tryz.results5, go_sem]) rfl (.inr ⟨d, lb, fb, _, u12, rfl, HBo.out, HBe.out⟩)
        · have d3 : decide (2000 < z) = true := by simp; omega
          have d2 : decide (60 < (j : Int)) = false := by simp; omega
          go_wp2_with fail
          refine bodyPost_ret (v := .tuple #[.pointer none, .slice none 0 0, .bool false]) (by simp [results, Tryz.results5, go_sem]) rfl (.inl ⟨rfl, HB3.out⟩)
      · skip
        have d2 : decide (60 < (j : Int)) = true := by simp; omega
        go_wp2_with fail
        refine bodyPost_ret (v := .tuple #[.pointer none, .slice none 0 0, .bool false]) (by simp [results, Tryz.results5, go_sem]) rfl (.inl ⟨rfl, HB3.out⟩)

set_option maxRecDepth 20000 in
set_option maxHeartbeats 8000000 in
theorem recovers_nil {w : World} {A2 : Option Addr} {n2 c2 : Nat} {l : List OpV} {at_ words : Int} (h : RdO w w.heap.size A2 n2 c2 l) (ha : I64 at_) (hw : I64 words) :
    Calls Tryz.prog 4 #[.agg #[.slice none 0 0, .slice A2 n2 c2, .int .i64 at_, .int .i64 words]] w fun e w' => e = .returned (.bool true) ∧ Below w.heap.size w w' := by
  have H := hid h; have HA := hid ha; have HWo := hid hw
  clear h ha hw
  obtain ⟨w0, hw0⟩ : ∃ w0, w0 = w.alloc (.cells #[.slice none 0 0, .slice A2 n2 c2, .int .i64 at_, .int .i64 words] 27) := ⟨_, rfl⟩
  have HW0 := hid hw0
  have HB0 : Hid (Below w.heap.size w w0) := by rw [hw0]; exact B1 _ _
  have HBX : Hid (∀ w', Below w0.heap.size w0 w' → w'.heap[w.heap.size]? = some (.cells #[.slice none 0 0, .slice A2 n2 c2, .int .i64 at_, .int .i64 words] 27 (0, 0))) := fun w' h => by
    rw [h.block _ (by rw [hw0]; simp), hw0]; exact heap_alloc_new w _
  have HS0 : Hid (w0.heap.size = w.heap.size + 1) := by show _ = _; rw [hw0]; simp
  clear hw0
  go_enter Tryz.func4, Tryz.ntmps4
  go_wp2_with fail
  rw [← HW0.out]
  refine (madeN_any (H.out.on HB0.out)).mono ?_
  rintro e w1 hm
  rcases hm with ⟨rfl, hb1⟩ | ⟨d, lb, fb, base, v, rfl, hB, hb1⟩
  · have HB1 := hid (Bt HB0.out hb1)
    clear hb1
    go_wp2_with fail
    refine (alive_any _).mono ?_
    rintro e w2 ⟨rfl, hb2⟩
    have HB2 := hid (Bt HB1.out hb2); clear hb2
    go_wp2_with fail
    go_ret
    exact ⟨rfl, HB2.out⟩
  have HBo := hid hB; have HB1 := hid hb1
  have HBW1 := hid (Bt HB0.out hb1)
  obtain ⟨A1, c1, hv, hrd⟩ := hB.ow.rd
  have hv : v = .slice A1 0 c1 := hv
  have hrd : RdW w1 w1.heap.size A1 0 c1 [] := hrd
  subst hv
  have HRD := hid hrd
  have hx := HBX.out w1 hb1
  have x2 := row_cell hx 2; have x3 := row_cell hx 3
  simp at x2 x3
  clear hB hb1 hrd hx
  obtain ⟨er, her⟩ : ∃ er, er = rgE 0 at_ words := ⟨_, rfl⟩
  have d1 : (er != 0) = true := by rw [her]; simpa using rgE0 at_ words
  have HER := hid her
  clear her
  go_wp2_with fail
  refine (recoverN HBo.out.dev HA.out HWo.out).mono ?_
  rintro e w2 ⟨rfl, hb2⟩
  rw [← HER.out]
  have hx := HBX.out w2 (HB1.out.trans (hb2.mono HB1.out.size))
  have x2 := row_cell hx 2; have x3 := row_cell hx 3
  simp at x2 x3
  have HB2 := hid hb2
  clear hb2 hx
  go_wp2_with fail
  refine (rin4_any at_ words HA.out HWo.out (by omega)).mono ?_
  rintro e w3 ⟨rfl, hb3⟩
  rw [show rgE ((0 : Nat) : Int) at_ words = er from HER.out.symm]
  have HB3 := hid (Bt HB2.out hb3)
  clear hb3 x2 x3
  go_wp2_with fail
  refine (alive_any _).mono ?_
  rintro e w4 ⟨rfl, hb4⟩
  have HB4 := hid (Bt HB3.out hb4)
  clear hb4
  go_wp2_with fail
  refine (sameN (HBo.out.dev.on HB4.out) (HRD.out.on HB4.out)).mono ?_
  rintro e w5 ⟨rfl, hb5⟩
  have HB5 := hid (Bt (Bt HBW1.out HB4.out) hb5)
  clear hb5
  go_wp2_with fail
  go_ret
  exact ⟨rfl, HB5.out⟩

theorem walk_WalRecovers (A : Option Addr) (n c : Nat) (b : List UInt8) (A2 : Option Addr) (n2 c2 : Nat) (l : List OpV) (at_ words : Int) (w : World) (hb : Rd w w.heap.size A n c b) (h : RdO w w.heap.size A2 n2 c2 l) (ha : I64 at_) (hw : I64 words) :
    Calls Tryz.prog 4 #[.agg #[.slice A n c, .slice A2 n2 c2, .int .i64 at_, .int .i64 words]] w fun e w' => e = .returned (.bool true) ∧ Below w.heap.size w w' := by
  cases A with
  | some ad => exact recovers_main hb h ha hw
  | none =>
    have h0 := hb.2.2.2.1 rfl
    subst h0
    obtain rfl : n = 0 := by have := hb.2.1; omega
    exact recovers_nil h ha hw
end Go.Proofs.YtoacdnicnfpceaaGreat
