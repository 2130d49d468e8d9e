/-
  A new catalogue; Upgrade.
  The law's alive.
-/
import Derived.Test.YtaegencmnmjgbaaGreatM57
import Derived.Test.YtaegencmnmjgbaaGreatM64
import Derived.Test.YtaegencmnmjgbaaGreatM2
import Derived.Test.YtaegencmnmjgbaaGreatM60
import Derived.Test.YtaegencmnmjgbaaGreatM63

namespace Go.Proofs.YtaegencmnmjgbaaGreat
open Go.RowKit Go.Maps
set_option linter.unusedVariables false
set_option linter.unusedSimpArgs false
def NewQ (w : World) (e : Ending) (w' : World) : Prop := ∃ c mb, e = .returned (.pointer (some ⟨c, 0, none⟩)) ∧ Cat w' c mb 0 w.heap.size (fun _ => ⟨0, 0, []⟩) [] ∧ Below w.heap.size w w'
set_option maxHeartbeats 2000000 in
theorem new_any {w : World} : Calls Tryz.prog 27 #[] w (NewQ w) := by
  have hmm := @run_makeMap Tryz.prog
  go_enter Tryz.func27, Tryz.ntmps27
  go_wp2_with fail
  go_ret
  refine ⟨w.heap.size + 1, w.heap.size, rfl, ⟨okC_nil, ?_, ?_, ⟨Nat.le_refl _, Nat.le_succ _⟩, by simp, by simp⟩, Ba (B1 _ _) _⟩
  · have := heap_alloc_new (w.alloc (.map #[] 0)) (.cells #[.map (some w.heap.size)] 86)
    simpa using this
  · exact ((Ms.made w).alloc _).ext fun k => rfl
theorem upV_snoc (l : List Tb) (T : Tb) (vs : List Va) : upV (l ++ [T]) vs = valsT T (upV l vs) := by
  induction l generalizing vs with
  | nil => rfl
  | cons x l ih => exact ih _
structure StU (t : Ty) (k j : Nat) (s0 : List UInt8) (f0 : List Fd) (S : List UInt8) : Prop where
  ex : ∃ F, t.fs[k + j]? = some F ∧ okV F (upV ((t.ts.drop k).take j) (valO s0 f0)) ∧ okO S F = true ∧ GotV S F (upV ((t.ts.drop k).take j) (valO s0 f0)) ∧ (j = 0 → S = s0) ∧ (0 < j → S = objA F (upV ((t.ts.drop k).take j) (valO s0 f0)))
theorem StU.start {t : Ty} (h : okTy t) {k : Nat} {s : List UInt8} {f : List Fd} (hf : t.fs[k]? = some f) (ho : okO s f = true) : StU t k 0 s f s := by
  have hr := h.2.2.2.2.1 f (List.mem_of_getElem? hf)
  obtain ⟨h1, h2⟩ := okO_vals hr ho
  exact ⟨f, hf, by simpa [upV] using h1, ho, by simpa [upV] using h2, fun _ => rfl, fun h => absurd h (by omega)⟩
theorem StU.step {t : Ty} (h : okTy t) {k j : Nat} {s : List UInt8} {f : List Fd} {S : List UInt8} (hS : StU t k j s f S) {T : Tb} (hT : t.ts[k + j]? = some T) :
    ∃ vs, okV T.o vs ∧ okO S T.o = true ∧ GotV S T.o vs ∧ (S.length : Int) = layN T.o ∧ rightT T = true ∧ StU t k (j + 1) s f (objA T.nw (valsT T vs)) := by
  obtain ⟨F, h1, h2, h3, h4, h5, h6⟩ := hS.ex
  obtain ⟨g1, g2, g3, g4⟩ := h.2.2.2.2.2 _ T hT
  rw [h1] at g3; cases g3
  refine ⟨_, h2, h3, h4, okO_len h3, g1, ⟨T.nw, g4, ?_⟩⟩
  have e : (t.ts.drop k).take (j + 1) = (t.ts.drop k).take j ++ [T] := by
    rw [List.take_add_one, List.getElem?_drop, hT]; rfl
  rw [e, upV_snoc]
  have hv := valsT_ok g1 h2 g2
  have hr := (rightT_iff.1 g1).2.1
  exact ⟨hv, objA_ok hr hv, objA_got hr hv, fun h => by omega, fun _ => rfl⟩
theorem StU.done {t : Ty} (h : okTy t) {v : Int} {s : List UInt8} {f : List Fd} {S : List UInt8} (hv : t.lo ≤ v) (hv2 : v ≤ t.hi) (hf : t.fs[(v - t.lo).toNat]? = some f) (ho : okO s f = true) (hS : StU t (v - t.lo).toNat (t.ts.length - (v - t.lo).toNat) s f S) : upgT (some t) v s = (S, 0) := by
  have hl := h.2.2.2.1
  have hk := (List.getElem?_eq_some_iff.1 hf).1
  unfold upgT
  dsimp only
  rw [if_neg (by omega), hf]
  dsimp only
  rw [if_pos ho]
  obtain ⟨F, h1, h2, h3, h4, h5, h6⟩ := hS.ex
  by_cases c : (v - t.lo).toNat = t.ts.length
  · rw [if_pos c, h5 (by omega)]
  · rw [if_neg c, h6 (by omega)]
    have e : (v - t.lo).toNat + (t.ts.length - (v - t.lo).toNat) = t.ts.length := by omega
    rw [e] at h1
    have := h.last.1
    rw [h1] at this; cases this
    rw [List.take_of_length_le (by rw [List.length_drop]; exact Nat.le_refl _)]
def UpQ (w : World) (o : Option Ty) (v : Int) (s : List UInt8) (e : Ending) (w' : World) : Prop := ∃ A n c, e = .returned (.tuple #[.slice A n c, .int .i64 (upgT o v s).2]) ∧ Rd w' w'.heap.size A n c (upgT o v s).1 ∧ Below w.heap.size w w'
theorem upgT_form {t : Ty} {v : Int} {s : List UInt8} {f : List Fd} (h1 : t.lo ≤ v) (h2 : v ≤ t.hi) (hf : t.fs[(v - t.lo).toNat]? = some f) (ho : okO s f = false) : upgT (some t) v s = ([], 70) := by
  unfold upgT; dsimp only; rw [if_neg (by omega), hf]; dsimp only; rw [if_neg (by rw [ho]; simp)]
theorem upgT_none {o : Option Ty} {v : Int} {s : List UInt8} (ho : ∀ t, o = some t → okTy t) (h : sinceL o v = []) : upgT o v s = ([], 90) := by
  have := since_none ho h
  cases o with
  | none => rfl
  | some t =>
    unfold fieldsT at this
    unfold upgT
    dsimp only at this ⊢
    by_cases c : v < t.lo ∨ t.hi < v
    · exact if_pos c
    · rw [if_neg c] at this
      have h2 := congrArg Prod.snd this
      exact absurd (show (0 : Int) = 90 from h2) (by decide)
set_option maxRecDepth 20000 in
set_option maxHeartbeats 16000000 in
theorem upgrade_any {w : World} {c mb n B : Nat} {r : List UInt8 → Pl} {l : List Ty} (h : Cat w c mb n B r l) (k : List UInt8) (hk : SK k) (v : Int) {A2 : Option Addr} {n2 c2 : Nat} {s : List UInt8} (h2 : Rd w w.heap.size A2 n2 c2 s) (hn2 : n2 ≤ 100000) :
    Calls Tryz.prog 20 #[.pointer (some ⟨c, 0, none⟩), .string (bs k), .int .i64 v, .slice A2 n2 c2] w (UpQ w (atT l k) v s) := by
  obtain ⟨lo, A, m, cp, e1, e2, e3⟩ := h.look k
  have hl := h.mp.look Tryz.underlying84 (Tryz.zeroValue83 w) hk
  change (Instr.lookup 84 (.map (some mb)) (.string (bs k)) false).run Tryz.prog w = .ok ((catF l r k).getD (hV 0 none 0 0)) w at hl
  rw [e1] at hl
  have c0 : w.cell? ⟨c, 0, none⟩ = some (.map (some mb)) := row_cell h.box 0
  have HOK := hid (h.okO k)
  have HH := hid e2
  have H2 := hid h2; have HN2 := hid hn2
  clear e1 e2 e3 h h2 hn2
  go_enter Tryz.func20, Tryz.ntmps20
  go_wp2_with fail
  refine (since_any HH.out HOK.out v).mono ?_
  rintro e w1 ⟨A1, n1, c1, rfl, hrd, hb1⟩
  have HB1 := hid hb1
  have HN := hid hrd.1
  cases hs : sinceL (atT l k) v with
  | nil =>
    rw [hs] at HN
    have hn1 : n1 = 0 := HN.out.symm
    subst hn1
    have HE := hid (upgT_none (s := s) HOK.out hs)
    clear hs hrd hb1
    go_wp2_with fail
    go_ret2
    rw [UpQ, HE.out]
    exact ⟨_, _, _, rfl, Rd.nil _ _, HB1.out⟩
  | cons T rest =>
    obtain ⟨t, ho, g1, g2, g3, g4, g5⟩ := since_some HOK.out hs
    have HT := hid (HOK.out t ho)
    have HAT := hid ho
    rw [hs] at hrd
    have hn0 : 0 < n1 := by have := hrd.1; rw [List.length_cons] at this; omega
    have hni : ((n1 : Int) == 0) = false := by simp; omega
    have hn65 : n1 ≤ 64 := by
      have a := hrd.1; rw [List.length_cons, g5, List.length_drop] at a
      have b := HT.out.2.2.2.1; have d := HT.out.2.2.1; have e := HT.out.2.1; unfold Ty.hi at d; omega
    obtain ⟨_, b, off, rfl, hlt, v1, v2, v3, hr, hc⟩ := hrd.at (i := 0) (T := T) rfl
    rw [Nat.zero_mul, Nat.add_zero] at hc
    obtain ⟨B1', m1, d1, B2', m2, d2, B3', m3, d3, er, r1, r2, r3⟩ := hr
    cases er
    obtain ⟨d0, dd1, dd2⟩ := hc w1 (B0 _)
    have HR2 := hid r2
    have hcap : n1 ≤ c1 := hrd.2.1
    have hcm : c1 ≤ maxLen := hrd.2.2.1
    have HF := hid g3; have H5 := hid g5; have HG := hid (And.intro g1 g2)
    have HRF := hid (HT.out.2.2.2.2.1 _ (List.mem_of_getElem? g3))
    have HRD := hid hrd
    clear hs hrd hb1 ho g1 g2 g3 g4 g5 hc r1 r2 r3 hlt HH
    go_wp2_with fail
    refine (p7checkq_any HR2.out HRF.out (H2.out.on HB1.out) HN2.out).mono ?_
    rintro e w2 ⟨rfl, hb2⟩
    have HB2 := hid hb2
    clear hb2 d0 dd1 dd2
    cases hok : okO s T.nw with
    | false =>
      have HE := hid (upgT_form (s := s) HG.out.1 HG.out.2 HF.out hok)
      clear hok
      go_wp2_with fail
      go_ret2
      rw [UpQ, HAT.out, HE.out]
      exact ⟨_, _, _, rfl, Rd.nil _ _, Bt HB1.out HB2.out⟩
    | true =>
      have HOO := hid hok
      clear hok
      go_wp2_with fail
      refine (clone_any A2 n2 c2 s w2 (H2.out.on (Bt HB1.out HB2.out)) (by have := HN2.out; omega)).mono ?_
      rintro e w3 ⟨u3, rfl, ho3, hb3⟩
      obtain ⟨A3, c3, rfl, hr3⟩ := ho3.rd
      have HB3 := hid (Bt HB2.out hb3)
      have HR3 := hid hr3
      have HS0 := hid (StU.start HT.out HF.out HOO.out)
      clear ho3 hr3 hb3
      have HM9 : Hid (n1 - 1 = t.ts.length - (v - t.lo).toNat ∧ (v - t.lo).toNat ≤ t.ts.length) := hid (by
        have a := HRD.out.1
        rw [List.length_cons, H5.out, List.length_drop] at a
        have b := (List.getElem?_eq_some_iff.1 HF.out).1
        have d := HT.out.2.2.2.1
        omega)
      obtain ⟨D, hD⟩ : ∃ D, (if c1 = 1 then (some ⟨b, off, none⟩ : Option Addr) else some ⟨b, off + 3, none⟩) = D := ⟨_, rfl⟩
      have HRD2 : Hid (RdTb w1 w1.heap.size D (n1 - 1) (c1 - 1) rest) := hid (by
        have a := HRD.out.1
        rw [List.length_cons] at a
        by_cases e : n1 = 1
        · have : rest = [] := List.eq_nil_of_length_eq_zero (by omega)
          subst this
          exact ⟨by simp; omega, by omega, by omega, fun h => by omega⟩
        · rw [← hD, if_neg (by omega)]
          exact HRD.out.drop (k := 1) (by omega) (by omega) (by omega) rfl)
      obtain ⟨m9, hm9⟩ : ∃ m9, m9 = n1 - 1 := ⟨_, rfl⟩
      obtain ⟨c9, hc9⟩ : ∃ c9, c9 = c1 - 1 := ⟨_, rfl⟩
      rw [← hm9, ← hc9] at HRD2
      rw [← hm9] at HM9
      have hm64 : m9 ≤ 64 := by omega
      have hone : 1 ≤ n1 := by omega
      go_upto_region 8 with fail
      rw [← hm9]
      have HRDL := hid HRD2.out.1
      clear hD hm9 hc9 hone
      go_loopw [11, 37] (fun u i wr => ∃ (j : Nat) (S : List UInt8) (A : Option Addr) (n9 c9 : Nat), j ≤ m9 ∧ i = .int .i64 j ∧ u = .slice A n9 c9 ∧ Hid (StU t (v - t.lo).toNat j s T.nw S) ∧ Hid (Rd wr wr.heap.size A n9 c9 S) ∧ Hid (Below w1.heap.size w1 wr)) (fun _ i _ => m9 - (intOf i).toNat)
      case atStart => exact ⟨0, s, A3, _, c3, by omega, rfl, rfl, HS0, HR3, HB3⟩
      case round =>
        obtain ⟨j, S, A7, n7, c7, hj, rfl, rfl, HST, HRS, HB⟩ := hrel
        by_cases hlt : j < m9
        · obtain ⟨T', hT'⟩ : ∃ T', rest[j]? = some T' := ⟨_, List.getElem?_eq_getElem (by have := HRDL.out; omega)⟩
          have hTt : t.ts[(v - t.lo).toNat + j]? = some T' := by
            rw [H5.out, List.getElem?_drop] at hT'; exact hT'
          obtain ⟨vs, hv1, hv2, hv3, hv4, hv5, hv6⟩ := HST.out.step HT.out hTt
          obtain ⟨_, b7, off7, rfl, _, x1, x2, x3, hr7, hc7⟩ := HRD2.out.at hT'
          obtain ⟨E1, q1, z1, E2, q2, z2, E3, q3, z3, er, r1, r2, r3⟩ := hr7
          cases er
          obtain ⟨y0, y1, y2⟩ := hc7 wr HB.out
          have hji : (j : Int) < m9 := by omega
          have hj0 : (0 : Int) ≤ j := by omega
          obtain ⟨w4, hw4⟩ : ∃ w4, w4 = wr.alloc (.cells #[.slice E1 q1 z1, .slice E2 q2 z2, .slice E3 q3 z3] 92) := ⟨_, rfl⟩
          obtain ⟨p, hp⟩ : ∃ p, p = wr.heap.size := ⟨_, rfl⟩
          have HW4 := hid hw4; have HP := hid hp
          have HX4 : Hid (TBx w4 p (.slice E1 q1 z1) (.slice E2 q2 z2) (.slice E3 q3 z3) 92) := by rw [hw4, hp]; exact hid (tb_new _ _ _ _ _)
          have HB4 : Hid (Below wr.heap.size wr w4) := by rw [hw4]; exact hid (B1 _ _)
          have HRT : Hid (RdT w4 w4.heap.size (.agg #[.slice E1 q1 z1, .slice E2 q2 z2, .slice E3 q3 z3]) T') := hid (RdT.on ⟨_, _, _, _, _, _, _, _, _, rfl, r1, r2, r3⟩ (HB.out.trans (HB4.out.mono HB.out.size)))
          have HV1 := hid hv1; have HV2 := hid hv2; have HV3 := hid hv3; have HV4 := hid hv4; have HV5 := hid hv5; have HV6 := hid hv6
          clear hT' hTt hc7 r1 r2 r3 hw4 hp hv1 hv2 hv3 hv4 hv5 hv6
          go_upto_region 10 with fail
          rw [← HW4.out, ← HP.out]
          clear y0 y1 y2
          obtain ⟨y0, y1, y2⟩ := HX4.out.cells
          go_wp2_with fail
          refine (p7applyg_any HRT.out HV5.out HV1.out (HRS.out.on HB4.out) HV4.out HV2.out HV3.out).mono ?_
          rintro e w5 ⟨u5, rfl, ho5, hb5⟩
          obtain ⟨A8, c8, rfl, hr8⟩ := ho5.rd
          have HR8 := hid hr8
          have HB8 : Hid (Below w1.heap.size w1 w5) := hid (HB.out.trans ((Bt HB4.out hb5).mono HB.out.size))
          clear ho5 hr8 hb5 y0 y1 y2
          go_wp2_with fail
          exact ⟨⟨j + 1, _, _, _, _, by omega, by go_num, rfl, HV6, HR8, HB8⟩, by simp [intOf]; omega⟩
        · have hji : ¬ ((j : Int) < m9) := by omega
          have hjm : j = m9 := by omega
          have HE : Hid (upgT (atT l k) v s = (S, 0)) := hid (by
            rw [HAT.out]
            have h9 := HST.out
            rw [hjm, HM9.out.1] at h9
            exact StU.done HT.out HG.out.1 HG.out.2 HF.out HOO.out h9)
          clear hjm
          go_wp2_with fail
          go_ret2
          rw [UpQ, HE.out]
          exact ⟨_, _, _, rfl, HRS.out, Bt HB1.out HB.out⟩
end Go.Proofs.YtaegencmnmjgbaaGreat

namespace Go.Proofs.YtaegencmnmjgbaaGreat
open Go.RowKit Go.Maps
set_option linter.unusedVariables false
set_option linter.unusedSimpArgs false
def alF : List Fd := [⟨[120], 1, 0⟩]
def alC : List Ch := [⟨4, [120], ⟨[], 2, 0⟩, 0, 0, ⟨#[]⟩, []⟩]
def alB : List UInt8 := [255, 0, 0, 0, 0, 0, 0, 0]
def al1 : List Ty := (defS [] [97] alF).1
def al2 : List Ty := (chgS al1 [97] alC).1
def al3 : List Ty := (retS al2 [97] []).1
set_option maxRecDepth 20000 in
theorem al_e1 : (defS [] [97] alF).2 = 0 := by kernel_rfl
set_option maxRecDepth 20000 in
theorem al_e2 : (chgS al1 [97] alC).2 = (2, 0) := by kernel_rfl
set_option maxRecDepth 20000 in
theorem al_e3 : upgT (atT al2 [97]) 1 alB = (alB, 0) := by kernel_rfl
set_option maxRecDepth 20000 in
theorem al_e4 : retS al2 [97] [1] = (al2, 0, 93) := by kernel_rfl
set_option maxRecDepth 20000 in
theorem al_e5 : (retS al2 [97] []).2 = (1, 0) := by kernel_rfl
set_option maxRecDepth 20000 in
theorem al_e6 : versV (atT al3 [97]) = .tuple #[.int .i64 2, .int .i64 2, .int .i64 0] := by kernel_rfl
theorem al_rf (w : World) {ty : TypeId} : RdF (w.alloc (.cells #[.string ⟨#[120]⟩, .int .i64 1, .int .i64 0] ty)) (w.alloc (.cells #[.string ⟨#[120]⟩, .int .i64 1, .int .i64 0] ty)).heap.size (some ⟨w.heap.size, 0, none⟩) 1 1 alF := by
  refine ⟨rfl, by omega, by unfold maxLen; omega, fun f hf => ?_, fun _ => ⟨w.heap.size, 0, rfl, by simp, fun i hi => ?_⟩⟩
  · simp only [alF, List.mem_cons, List.not_mem_nil, or_false] at hf
    subst hf; exact ⟨i64_iff.2 (by decide), i64_iff.2 (by decide), by decide⟩
  · have : i = 0 := by simp [alF] at hi; omega
    subst this; exact ⟨row_cell (heap_alloc_new w _) _, row_cell (heap_alloc_new w _) _, row_cell (heap_alloc_new w _) _⟩
theorem al_rc (w : World) {ty : TypeId} : RdC (w.alloc (.cells #[.int .i64 4, .string ⟨#[120]⟩, .string ⟨#[]⟩, .int .i64 2, .int .i64 0, .int .i64 0, .int .u64 0, .string ⟨#[]⟩, .slice none 0 0] ty)) (w.alloc (.cells #[.int .i64 4, .string ⟨#[120]⟩, .string ⟨#[]⟩, .int .i64 2, .int .i64 0, .int .i64 0, .int .u64 0, .string ⟨#[]⟩, .slice none 0 0] ty)).heap.size (some ⟨w.heap.size, 0, none⟩) 1 1 alC := by
  refine ⟨rfl, by omega, by unfold maxLen; omega, fun f hf => ?_, fun _ => ⟨w.heap.size, 0, rfl, by simp, fun i hi => ?_⟩⟩
  · simp only [alC, List.mem_cons, List.not_mem_nil, or_false] at hf
    subst hf; exact ⟨i64_iff.2 (by decide), i64_iff.2 (by decide), i64_iff.2 (by decide), i64_iff.2 (by decide), ⟨by simp, by rw [pw8]; simp⟩⟩
  · have : i = 0 := by simp [alC] at hi; omega
    subst this
    have h := heap_alloc_new w (.cells #[.int .i64 4, .string ⟨#[120]⟩, .string ⟨#[]⟩, .int .i64 2, .int .i64 0, .int .i64 0, .int .u64 0, .string ⟨#[]⟩, .slice none 0 0] ty)
    exact ⟨none, 0, 0, ⟨row_cell h _, row_cell h _, row_cell h _, row_cell h _, row_cell h _, row_cell h _, row_cell h _, row_cell h _, row_cell h _⟩, RdI.nil _ _⟩
theorem al_ri (w : World) {ty : TypeId} : RdI (w.alloc (.cells #[.int .i64 1] ty)) (w.alloc (.cells #[.int .i64 1] ty)).heap.size (some ⟨w.heap.size, 0, none⟩) 1 1 [1] := by
  refine ⟨rfl, by omega, by unfold maxLen; omega, fun x hx => ?_, fun _ => ⟨w.heap.size, 0, rfl, by simp, fun i hi => ?_⟩⟩
  · simp at hx; subst hx; exact i64_iff.2 (by decide)
  · have : i = 0 := by simp at hi; omega
    subst this; exact row_cell (heap_alloc_new w _) _
theorem al_rb (w : World) {ty : TypeId} : Rd (w.alloc (.cells #[.int .u8 255, .int .u8 0, .int .u8 0, .int .u8 0, .int .u8 0, .int .u8 0, .int .u8 0, .int .u8 0] ty)) (w.alloc (.cells #[.int .u8 255, .int .u8 0, .int .u8 0, .int .u8 0, .int .u8 0, .int .u8 0, .int .u8 0, .int .u8 0] ty)).heap.size (some ⟨w.heap.size, 0, none⟩) 8 8 alB := by
  refine ⟨rfl, by omega, by unfold maxLen; omega, ?_, fun _ => ⟨w.heap.size, 0, rfl, by simp, fun i hi => ?_⟩⟩
  · intro h; cases h
  · rw [row_cell (heap_alloc_new w _)]
    have : i = 0 ∨ i = 1 ∨ i = 2 ∨ i = 3 ∨ i = 4 ∨ i = 5 ∨ i = 6 ∨ i = 7 := by simp [alB] at hi; omega
    rcases this with rfl | rfl | rfl | rfl | rfl | rfl | rfl | rfl <;> rfl
theorem CatQ.bl {w w' : World} {c mb n B : Nat} {r : List UInt8 → Pl} {l l' : List Ty} (hq : CatQ w c mb n B r l l' w') (h : Cat w c mb n B r l) : Below B w w' := CatQ.below h (CatQ.lt h) hq
set_option maxRecDepth 20000 in
set_option maxHeartbeats 8000000 in
theorem alive_any {w : World} : Calls Tryz.prog 11 #[] w fun e w' => e = .returned (.bool true) ∧ Below w.heap.size w w' := by
  go_enter Tryz.func11, Tryz.ntmps11
  go_wp2_with fail
  refine new_any.mono ?_
  rintro e w1 ⟨c, mb, rfl, hc1, hb1⟩
  have HC1 := hid hc1; have HB1 := hid hb1
  clear hc1 hb1
  go_wp2_with fail
  refine (define_any (HC1.out.on (B1 _ _)) (by omega) [97] (by decide) (al_rf w1)).mono ?_
  rintro e w2 ⟨rfl, hq⟩
  have HB2 : Hid (Below w.heap.size w w2) := hid ((Ba HB1.out _).trans (hq.bl (HC1.out.on (B1 _ _))))
  rw [al_e1]
  obtain ⟨r2, hc2, _, _⟩ := hq
  change Cat w2 c mb 1 w.heap.size r2 al1 at hc2
  have HC2 := hid hc2
  clear hc2
  go_wp2_with fail
  refine (change_any (HC2.out.on (B1 _ _)) (by omega) [97] (by unfold SK maxLen; simp) (al_rc w2) (by intro x hx; simp [alC] at hx; subst hx; decide)).mono ?_
  rintro e w3 ⟨rfl, hq⟩
  have HB3 : Hid (Below w.heap.size w w3) := hid ((Ba HB2.out _).trans (hq.bl (HC2.out.on (B1 _ _))))
  rw [al_e2]
  obtain ⟨r3, hc3, _, _⟩ := hq
  change Cat w3 c mb 2 w.heap.size r3 al2 at hc3
  have HC3 := hid hc3
  clear hc3
  dsimp only
  go_wp2_with fail
  refine (upgrade_any (HC3.out.on (B1 _ _)) [97] (by unfold SK maxLen; simp) 1 (al_rb w3) (by omega)).mono ?_
  rintro e w4 ⟨A4, n4, c4, rfl, hr4, hb4⟩
  rw [al_e3] at hr4 ⊢
  have HB4 : Hid (Below w.heap.size w w4) := hid (Bt (Ba HB3.out _) hb4)
  have HC4 := hid ((HC3.out.on (B1 _ _)).on hb4)
  have HR4 := hid hr4
  clear hr4 hb4
  dsimp only at HR4 ⊢
  go_wp2_with fail
  refine (retire_any (HC4.out.on (B1 _ _)) (by omega) [97] (by unfold SK maxLen; simp) (al_ri w4)).mono ?_
  rintro e w5 ⟨rfl, hq⟩
  have HB5 : Hid (Below w.heap.size w w5) := hid ((Ba HB4.out _).trans (hq.bl (HC4.out.on (B1 _ _))))
  rw [al_e4] at hq ⊢
  obtain ⟨r5, hc5, hf5, _⟩ := hq
  have HR5 := hid ((HR4.out.on (B1 _ _)).fr hf5)
  have HC5 := hid hc5
  clear hc5 hf5
  dsimp only
  go_wp2_with fail
  refine (retire_any HC5.out (by omega) [97] (by unfold SK maxLen; simp) (RdI.nil _ _)).mono ?_
  rintro e w6 ⟨rfl, hq⟩
  have HB6 : Hid (Below w.heap.size w w6) := hid (HB5.out.trans (hq.bl HC5.out))
  rw [al_e5]
  obtain ⟨r6, hc6, hf6, _⟩ := hq
  change Cat w6 c mb _ w.heap.size r6 al3 at hc6
  have HR6 := hid (HR5.out.fr hf6)
  have HC6 := hid hc6
  clear hc6 hf6
  dsimp only
  go_wp2_with fail
  refine (versions_any HC6.out [97] (by unfold SK maxLen; simp)).mono ?_
  rintro e w7 ⟨rfl, hb7⟩
  rw [al_e6]
  have HB7 : Hid (Below w.heap.size w w7) := hid (Bt HB6.out hb7)
  have hconv := (HR6.out.on hb7).conv
  clear hb7
  go_wp2_with fail
  go_ret
  exact ⟨rfl, HB7.out⟩
end Go.Proofs.YtaegencmnmjgbaaGreat
