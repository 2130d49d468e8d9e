/-
  A new catalogue; Upgrade.
  The law's alive.
  The law SchemaMany.
-/
import Derived.Test.YtaegencmnmjgbaaGreatM36
import Derived.Test.YtaegencmnmjgbaaGreatM40
import Derived.Test.YtaegencmnmjgbaaGreatM2
import Derived.Test.YtaegencmnmjgbaaGreatM38
import Derived.Test.YtaegencmnmjgbaaGreatM31
import Derived.Test.YtaegencmnmjgbaaGreatM11
import Derived.Test.YtaegencmnmjgbaaGreatM16
import Derived.Test.YtaegencmnmjgbaaGreatM39

namespace Go.Proofs.YtaegencmnmjgbaaGreat
open Go.RowKit Go.Maps
set_option linter.unusedVariables false
set_option linter.unusedSimpArgs false
def NewQ (w : World) (e : Ending) (w' : World) : Prop := ∃ c mb, e = .returned (.pointer (some ⟨c, 0, none⟩)) ∧ Cat w' c mb 0 w.heap.size (fun _ => ⟨0, 0, []⟩) [] ∧ Below w.heap.size w w'
set_option maxHeartbeats 2000000 in
theorem new_any {w : World} : Calls Tryz.prog 27 #[] w (NewQ w) := by
  have hmm := @run_makeMap Tryz.prog
  go_enter Tryz.func27, Tryz.ntmps27
  go_wp2_with fail
  go_ret
  refine ⟨w.heap.size + 1, w.heap.size, rfl, ⟨okC_nil, ?_, ?_, ⟨Nat.le_refl _, Nat.le_succ _⟩, by simp, by simp⟩, Ba (B1 _ _) _⟩
  · have := heap_alloc_new (w.alloc (.map #[] 0)) (.cells #[.map (some w.heap.size)] 86)
    simpa using this
  · exact ((Ms.made w).alloc _).ext fun k => rfl
theorem upV_snoc (l : List Tb) (T : Tb) (vs : List Va) : upV (l ++ [T]) vs = valsT T (upV l vs) := by
  induction l generalizing vs with
  | nil => rfl
  | cons x l ih => exact ih _
structure StU (t : Ty) (k j : Nat) (s0 : List UInt8) (f0 : List Fd) (S : List UInt8) : Prop where
  ex : ∃ F, t.fs[k + j]? = some F ∧ okV F (upV ((t.ts.drop k).take j) (valO s0 f0)) ∧ okO S F = true ∧ GotV S F (upV ((t.ts.drop k).take j) (valO s0 f0)) ∧ (j = 0 → S = s0) ∧ (0 < j → S = objA F (upV ((t.ts.drop k).take j) (valO s0 f0)))
theorem StU.start {t : Ty} (h : okTy t) {k : Nat} {s : List UInt8} {f : List Fd} (hf : t.fs[k]? = some f) (ho : okO s f = true) : StU t k 0 s f s := by
  have hr := h.2.2.2.2.1 f (List.mem_of_getElem? hf)
  obtain ⟨h1, h2⟩ := okO_vals hr ho
  exact ⟨f, hf, by simpa [upV] using h1, ho, by simpa [upV] using h2, fun _ => rfl, fun h => absurd h (by omega)⟩
theorem StU.step {t : Ty} (h : okTy t) {k j : Nat} {s : List UInt8} {f : List Fd} {S : List UInt8} (hS : StU t k j s f S) {T : Tb} (hT : t.ts[k + j]? = some T) :
    ∃ vs, okV T.o vs ∧ okO S T.o = true ∧ GotV S T.o vs ∧ (S.length : Int) = layN T.o ∧ rightT T = true ∧ StU t k (j + 1) s f (objA T.nw (valsT T vs)) := by
  obtain ⟨F, h1, h2, h3, h4, h5, h6⟩ := hS.ex
  obtain ⟨g1, g2, g3, g4⟩ := h.2.2.2.2.2 _ T hT
  rw [h1] at g3; cases g3
  refine ⟨_, h2, h3, h4, okO_len h3, g1, ⟨T.nw, g4, ?_⟩⟩
  have e : (t.ts.drop k).take (j + 1) = (t.ts.drop k).take j ++ [T] := by
    rw [List.take_add_one, List.getElem?_drop, hT]; rfl
  rw [e, upV_snoc]
  have hv := valsT_ok g1 h2 g2
  have hr := (rightT_iff.1 g1).2.1
  exact ⟨hv, objA_ok hr hv, objA_got hr hv, fun h => by omega, fun _ => rfl⟩
theorem StU.done {t : Ty} (h : okTy t) {v : Int} {s : List UInt8} {f : List Fd} {S : List UInt8} (hv : t.lo ≤ v) (hv2 : v ≤ t.hi) (hf : t.fs[(v - t.lo).toNat]? = some f) (ho : okO s f = true) (hS : StU t (v - t.lo).toNat (t.ts.length - (v - t.lo).toNat) s f S) : upgT (some t) v s = (S, 0) := by
  have hl := h.2.2.2.1
  have hk := (List.getElem?_eq_some_iff.1 hf).1
  unfold upgT
  dsimp only
  rw [if_neg (by omega), hf]
  dsimp only
  rw [if_pos ho]
  obtain ⟨F, h1, h2, h3, h4, h5, h6⟩ := hS.ex
  by_cases c : (v - t.lo).toNat = t.ts.length
  · rw [if_pos c, h5 (by omega)]
  · rw [if_neg c, h6 (by omega)]
    have e : (v - t.lo).toNat + (t.ts.length - (v - t.lo).toNat) = t.ts.length := by omega
    rw [e] at h1
    have := h.last.1
    rw [h1] at this; cases this
    rw [List.take_of_length_le (by rw [List.length_drop]; exact Nat.le_refl _)]
def UpQ (w : World) (o : Option Ty) (v : Int) (s : List UInt8) (e : Ending) (w' : World) : Prop := ∃ A n c, e = .returned (.tuple #[.slice A n c, .int .i64 (upgT o v s).2]) ∧ Rd w' w'.heap.size A n c (upgT o v s).1 ∧ Below w.heap.size w w'
theorem upgT_form {t : Ty} {v : Int} {s : List UInt8} {f : List Fd} (h1 : t.lo ≤ v) (h2 : v ≤ t.hi) (hf : t.fs[(v - t.lo).toNat]? = some f) (ho : okO s f = false) : upgT (some t) v s = ([], 70) := by
  unfold upgT; dsimp only; rw [if_neg (by omega), hf]; dsimp only; rw [if_neg (by rw [ho]; simp)]
theorem upgT_none {o : Option Ty} {v : Int} {s : List UInt8} (ho : ∀ t, o = some t → okTy t) (h : sinceL o v = []) : upgT o v s = ([], 90) := by
  have := since_none ho h
  cases o with
  | none => rfl
  | some t =>
    unfold fieldsT at this
    unfold upgT
    dsimp only at this ⊢
    by_cases c : v < t.lo ∨ t.hi < v
    · exact if_pos c
    · rw [if_neg c] at this
      have h2 := congrArg Prod.snd this
      exact absurd (show (0 : Int) = 90 from h2) (by decide)
set_option maxRecDepth 20000 in
set_option maxHeartbeats 16000000 in
theorem upgrade_any {w : World} {c mb n B : Nat} {r : List UInt8 → Pl} {l : List Ty} (h : Cat w c mb n B r l) (k : List UInt8) (hk : SK k) (v : Int) {A2 : Option Addr} {n2 c2 : Nat} {s : List UInt8} (h2 : Rd w w.heap.size A2 n2 c2 s) (hn2 : n2 ≤ 100000) :
    Calls Tryz.prog 20 #[.pointer (some ⟨c, 0, none⟩), .string (bs k), .int .i64 v, .slice A2 n2 c2] w (UpQ w (atT l k) v s) := by
  obtain ⟨lo, A, m, cp, e1, e2, e3⟩ := h.look k
  have hl := h.mp.look Tryz.underlying84 (Tryz.zeroValue83 w) hk
  change (Instr.lookup 84 (.map (some mb)) (.string (bs k)) false).run Tryz.prog w = .ok ((catF l r k).getD (hV 0 none 0 0)) w at hl
  rw [e1] at hl
  have c0 : w.cell? ⟨c, 0, none⟩ = some (.map (some mb)) := row_cell h.box 0
  have HOK := hid (h.okO k)
  have HH := hid e2
  have H2 := hid h2; have HN2 := hid hn2
  clear e1 e2 e3 h h2 hn2
  go_enter Tryz.func20, Tryz.ntmps20
  go_wp2_with fail
  refine (since_any HH.out HOK.out v).mono ?_
  rintro e w1 ⟨A1, n1, c1, rfl, hrd, hb1⟩
  have HB1 := hid hb1
  have HN := hid hrd.1
  cases hs : sinceL (atT l k) v with
  | nil =>
    rw [hs] at HN
    have hn1 : n1 = 0 := HN.out.symm
    subst hn1
    have HE := hid (upgT_none (s := s) HOK.out hs)
    clear hs hrd hb1
    go_wp2_with fail
    go_ret2
    rw [UpQ, HE.out]
    exact ⟨_, _, _, rfl, Rd.nil _ _, HB1.out⟩
  | cons T rest =>
    obtain ⟨t, ho, g1, g2, g3, g4, g5⟩ := since_some HOK.out hs
    have HT := hid (HOK.out t ho)
    have HAT := hid ho
    rw [hs] at hrd
    have hn0 : 0 < n1 := by have := hrd.1; rw [List.length_cons] at this; omega
    have hni : ((n1 : Int) == 0) = false := by simp; omega
    have hn65 : n1 ≤ 64 := by
      have a := hrd.1; rw [List.length_cons, g5, List.length_drop] at a
      have b := HT.out.2.2.2.1; have d := HT.out.2.2.1; have e := HT.out.2.1; unfold Ty.hi at d; omega
    obtain ⟨_, b, off, rfl, hlt, v1, v2, v3, hr, hc⟩ := hrd.at (i := 0) (T := T) rfl
    rw [Nat.zero_mul, Nat.add_zero] at hc
    obtain ⟨B1', m1, d1, B2', m2, d2, B3', m3, d3, er, r1, r2, r3⟩ := hr
    cases er
    obtain ⟨d0, dd1, dd2⟩ := hc w1 (B0 _)
    have HR2 := hid r2
    have hcap : n1 ≤ c1 := hrd.2.1
    have hcm : c1 ≤ maxLen := hrd.2.2.1
    have HF := hid g3; have H5 := hid g5; have HG := hid (And.intro g1 g2)
    have HRF := hid (HT.out.2.2.2.2.1 _ (List.mem_of_getElem? g3))
    have HRD := hid hrd
    clear hs hrd hb1 ho g1 g2 g3 g4 g5 hc r1 r2 r3 hlt HH
    go_wp2_with fail
    refine (p7checkq_any HR2.out HRF.out (H2.out.on HB1.out) HN2.out).mono ?_
    rintro e w2 ⟨rfl, hb2⟩
    have HB2 := hid hb2
    clear hb2 d0 dd1 dd2
    cases hok : okO s T.nw with
    | false =>
      have HE := hid (upgT_form (s := s) HG.out.1 HG.out.2 HF.out hok)
      clear hok
      go_wp2_with fail
      go_ret2
      rw [UpQ, HAT.out, HE.out]
      exact ⟨_, _, _, rfl, Rd.nil _ _, Bt HB1.out HB2.out⟩
    | true =>
      have HOO := hid hok
      clear hok
      go_wp2_with fail
      refine (clone_any A2 n2 c2 s w2 (H2.out.on (Bt HB1.out HB2.out)) (by have := HN2.out; omega)).mono ?_
      rintro e w3 ⟨u3, rfl, ho3, hb3⟩
      obtain ⟨A3, c3, rfl, hr3⟩ := ho3.rd
      have HB3 := hid (Bt HB2.out hb3)
      have HR3 := hid hr3
      have HS0 := hid (StU.start HT.out HF.out HOO.out)
      clear ho3 hr3 hb3
      have HM9 : Hid (n1 - 1 = t.ts.length - (v - t.lo).toNat ∧ (v - t.lo).toNat ≤ t.ts.length) := hid (by
        have a := HRD.out.1
        rw [List.length_cons, H5.out, List.length_drop] at a
        have b := (List.getElem?_eq_some_iff.1 HF.out).1
        have d := HT.out.2.2.2.1
        omega)
      obtain ⟨D, hD⟩ : ∃ D, (if c1 = 1 then (some ⟨b, off, none⟩ : Option Addr) else some ⟨b, off + 3, none⟩) = D := ⟨_, rfl⟩
      have HRD2 : Hid (RdTb w1 w1.heap.size D (n1 - 1) (c1 - 1) rest) := hid (by
        have a := HRD.out.1
        rw [List.length_cons] at a
        by_cases e : n1 = 1
        · have : rest = [] := List.eq_nil_of_length_eq_zero (by omega)
          subst this
          exact ⟨by simp; omega, by omega, by omega, fun h => by omega⟩
        · rw [← hD, if_neg (by omega)]
          exact HRD.out.drop (k := 1) (by omega) (by omega) (by omega) rfl)
      obtain ⟨m9, hm9⟩ : ∃ m9, m9 = n1 - 1 := ⟨_, rfl⟩
      obtain ⟨c9, hc9⟩ : ∃ c9, c9 = c1 - 1 := ⟨_, rfl⟩
      rw [← hm9, ← hc9] at HRD2
      rw [← hm9] at HM9
      have hm64 : m9 ≤ 64 := by omega
      have hone : 1 ≤ n1 := by omega
      go_upto_region 8 with fail
      rw [← hm9]
      have HRDL := hid HRD2.out.1
      clear hD hm9 hc9 hone
      go_loopw [11, 37] (fun u i wr => ∃ (j : Nat) (S : List UInt8) (A : Option Addr) (n9 c9 : Nat), j ≤ m9 ∧ i = .int .i64 j ∧ u = .slice A n9 c9 ∧ Hid (StU t (v - t.lo).toNat j s T.nw S) ∧ Hid (Rd wr wr.heap.size A n9 c9 S) ∧ Hid (Below w1.heap.size w1 wr)) (fun _ i _ => m9 - (intOf i).toNat)
      case atStart => exact ⟨0, s, A3, _, c3, by omega, rfl, rfl, HS0, HR3, HB3⟩
      case round =>
        obtain ⟨j, S, A7, n7, c7, hj, rfl, rfl, HST, HRS, HB⟩ := hrel
        by_cases hlt : j < m9
        · obtain ⟨T', hT'⟩ : ∃ T', rest[j]? = some T' := ⟨_, List.getElem?_eq_getElem (by have := HRDL.out; omega)⟩
          have hTt : t.ts[(v - t.lo).toNat + j]? = some T' := by
            rw [H5.out, List.getElem?_drop] at hT'; exact hT'
          obtain ⟨vs, hv1, hv2, hv3, hv4, hv5, hv6⟩ := HST.out.step HT.out hTt
          obtain ⟨_, b7, off7, rfl, _, x1, x2, x3, hr7, hc7⟩ := HRD2.out.at hT'
          obtain ⟨E1, q1, z1, E2, q2, z2, E3, q3, z3, er, r1, r2, r3⟩ := hr7
          cases er
          obtain ⟨y0, y1, y2⟩ := hc7 wr HB.out
          have hji : (j : Int) < m9 := by omega
          have hj0 : (0 : Int) ≤ j := by omega
          obtain ⟨w4, hw4⟩ : ∃ w4, w4 = wr.alloc (.cells #[.slice E1 q1 z1, .slice E2 q2 z2, .slice E3 q3 z3] 92) := ⟨_, rfl⟩
          obtain ⟨p, hp⟩ : ∃ p, p = wr.heap.size := ⟨_, rfl⟩
          have HW4 := hid hw4; have HP := hid hp
          have HX4 : Hid (TBx w4 p (.slice E1 q1 z1) (.slice E2 q2 z2) (.slice E3 q3 z3) 92) := by rw [hw4, hp]; exact hid (tb_new _ _ _ _ _)
          have HB4 : Hid (Below wr.heap.size wr w4) := by rw [hw4]; exact hid (B1 _ _)
          have HRT : Hid (RdT w4 w4.heap.size (.agg #[.slice E1 q1 z1, .slice E2 q2 z2, .slice E3 q3 z3]) T') := hid (RdT.on ⟨_, _, _, _, _, _, _, _, _, rfl, r1, r2, r3⟩ (HB.out.trans (HB4.out.mono HB.out.size)))
          have HV1 := hid hv1; have HV2 := hid hv2; have HV3 := hid hv3; have HV4 := hid hv4; have HV5 := hid hv5; have HV6 := hid hv6
          clear hT' hTt hc7 r1 r2 r3 hw4 hp hv1 hv2 hv3 hv4 hv5 hv6
          go_upto_region 10 with fail
          rw [← HW4.out, ← HP.out]
          clear y0 y1 y2
          obtain ⟨y0, y1, y2⟩ := HX4.out.cells
          go_wp2_with fail
          refine (p7applyg_any HRT.out HV5.out HV1.out (HRS.out.on HB4.out) HV4.out HV2.out HV3.out).mono ?_
          rintro e w5 ⟨u5, rfl, ho5, hb5⟩
          obtain ⟨A8, c8, rfl, hr8⟩ := ho5.rd
          have HR8 := hid hr8
          have HB8 : Hid (Below w1.heap.size w1 w5) := hid (HB.out.trans ((Bt HB4.out hb5).mono HB.out.size))
          clear ho5 hr8 hb5 y0 y1 y2
          go_wp2_with fail
          exact ⟨⟨j + 1, _, _, _, _, by omega, by go_num, rfl, HV6, HR8, HB8⟩, by simp [intOf]; omega⟩
        · have hji : ¬ ((j : Int) < m9) := by omega
          have hjm : j = m9 := by omega
          have HE : Hid (upgT (atT l k) v s = (S, 0)) := hid (by
            rw [HAT.out]
            have h9 := HST.out
            rw [hjm, HM9.out.1] at h9
            exact StU.done HT.out HG.out.1 HG.out.2 HF.out HOO.out h9)
          clear hjm
          go_wp2_with fail
          go_ret2
          rw [UpQ, HE.out]
          exact ⟨_, _, _, rfl, HRS.out, Bt HB1.out HB.out⟩
end Go.Proofs.YtaegencmnmjgbaaGreat

namespace Go.Proofs.YtaegencmnmjgbaaGreat
open Go.RowKit Go.Maps
set_option linter.unusedVariables false
set_option linter.unusedSimpArgs false
def alF : List Fd := [⟨[120], 1, 0⟩]
def alC : List Ch := [⟨4, [120], ⟨[], 2, 0⟩, 0, 0, ⟨#[]⟩, []⟩]
def alB : List UInt8 := [255, 0, 0, 0, 0, 0, 0, 0]
def al1 : List Ty := (defS [] [97] alF).1
def al2 : List Ty := (chgS al1 [97] alC).1
def al3 : List Ty := (retS al2 [97] []).1
set_option maxRecDepth 20000 in
theorem al_e1 : (defS [] [97] alF).2 = 0 := by kernel_rfl
set_option maxRecDepth 20000 in
theorem al_e2 : (chgS al1 [97] alC).2 = (2, 0) := by kernel_rfl
set_option maxRecDepth 20000 in
theorem al_e3 : upgT (atT al2 [97]) 1 alB = (alB, 0) := by kernel_rfl
set_option maxRecDepth 20000 in
theorem al_e4 : retS al2 [97] [1] = (al2, 0, 93) := by kernel_rfl
set_option maxRecDepth 20000 in
theorem al_e5 : (retS al2 [97] []).2 = (1, 0) := by kernel_rfl
set_option maxRecDepth 20000 in
theorem al_e6 : versV (atT al3 [97]) = .tuple #[.int .i64 2, .int .i64 2, .int .i64 0] := by kernel_rfl
theorem al_rf (w : World) {ty : TypeId} : RdF (w.alloc (.cells #[.string ⟨#[120]⟩, .int .i64 1, .int .i64 0] ty)) (w.alloc (.cells #[.string ⟨#[120]⟩, .int .i64 1, .int .i64 0] ty)).heap.size (some ⟨w.heap.size, 0, none⟩) 1 1 alF := by
  refine ⟨rfl, by omega, by unfold maxLen; omega, fun f hf => ?_, fun _ => ⟨w.heap.size, 0, rfl, by simp, fun i hi => ?_⟩⟩
  · simp only [alF, List.mem_cons, List.not_mem_nil, or_false] at hf
    subst hf; exact ⟨i64_iff.2 (by decide), i64_iff.2 (by decide), by decide⟩
  · have : i = 0 := by simp [alF] at hi; omega
    subst this; exact ⟨row_cell (heap_alloc_new w _) _, row_cell (heap_alloc_new w _) _, row_cell (heap_alloc_new w _) _⟩
theorem al_rc (w : World) {ty : TypeId} : RdC (w.alloc (.cells #[.int .i64 4, .string ⟨#[120]⟩, .string ⟨#[]⟩, .int .i64 2, .int .i64 0, .int .i64 0, .int .u64 0, .string ⟨#[]⟩, .slice none 0 0] ty)) (w.alloc (.cells #[.int .i64 4, .string ⟨#[120]⟩, .string ⟨#[]⟩, .int .i64 2, .int .i64 0, .int .i64 0, .int .u64 0, .string ⟨#[]⟩, .slice none 0 0] ty)).heap.size (some ⟨w.heap.size, 0, none⟩) 1 1 alC := by
  refine ⟨rfl, by omega, by unfold maxLen; omega, fun f hf => ?_, fun _ => ⟨w.heap.size, 0, rfl, by simp, fun i hi => ?_⟩⟩
  · simp only [alC, List.mem_cons, List.not_mem_nil, or_false] at hf
    subst hf; exact ⟨i64_iff.2 (by decide), i64_iff.2 (by decide), i64_iff.2 (by decide), i64_iff.2 (by decide), ⟨by simp, by rw [pw8]; simp⟩⟩
  · have : i = 0 := by simp [alC] at hi; omega
    subst this
    have h := heap_alloc_new w (.cells #[.int .i64 4, .string ⟨#[120]⟩, .string ⟨#[]⟩, .int .i64 2, .int .i64 0, .int .i64 0, .int .u64 0, .string ⟨#[]⟩, .slice none 0 0] ty)
    exact ⟨none, 0, 0, ⟨row_cell h _, row_cell h _, row_cell h _, row_cell h _, row_cell h _, row_cell h _, row_cell h _, row_cell h _, row_cell h _⟩, RdI.nil _ _⟩
theorem al_ri (w : World) {ty : TypeId} : RdI (w.alloc (.cells #[.int .i64 1] ty)) (w.alloc (.cells #[.int .i64 1] ty)).heap.size (some ⟨w.heap.size, 0, none⟩) 1 1 [1] := by
  refine ⟨rfl, by omega, by unfold maxLen; omega, fun x hx => ?_, fun _ => ⟨w.heap.size, 0, rfl, by simp, fun i hi => ?_⟩⟩
  · simp at hx; subst hx; exact i64_iff.2 (by decide)
  · have : i = 0 := by simp at hi; omega
    subst this; exact row_cell (heap_alloc_new w _) _
theorem al_rb (w : World) {ty : TypeId} : Rd (w.alloc (.cells #[.int .u8 255, .int .u8 0, .int .u8 0, .int .u8 0, .int .u8 0, .int .u8 0, .int .u8 0, .int .u8 0] ty)) (w.alloc (.cells #[.int .u8 255, .int .u8 0, .int .u8 0, .int .u8 0, .int .u8 0, .int .u8 0, .int .u8 0, .int .u8 0] ty)).heap.size (some ⟨w.heap.size, 0, none⟩) 8 8 alB := by
  refine ⟨rfl, by omega, by unfold maxLen; omega, ?_, fun _ => ⟨w.heap.size, 0, rfl, by simp, fun i hi => ?_⟩⟩
  · intro h; cases h
  · rw [row_cell (heap_alloc_new w _)]
    have : i = 0 ∨ i = 1 ∨ i = 2 ∨ i = 3 ∨ i = 4 ∨ i = 5 ∨ i = 6 ∨ i = 7 := by simp [alB] at hi; omega
    rcases this with rfl | rfl | rfl | rfl | rfl | rfl | rfl | rfl <;> rfl
theorem CatQ.bl {w w' : World} {c mb n B : Nat} {r : List UInt8 → Pl} {l l' : List Ty} (hq : CatQ w c mb n B r l l' w') (h : Cat w c mb n B r l) : Below B w w' := CatQ.below h (CatQ.lt h) hq
set_option maxRecDepth 20000 in
set_option maxHeartbeats 8000000 in
theorem alive_any {w : World} : Calls Tryz.prog 11 #[] w fun e w' => e = .returned (.bool true) ∧ Below w.heap.size w w' := by
  go_enter Tryz.func11, Tryz.ntmps11
  go_wp2_with fail
  refine new_any.mono ?_
  rintro e w1 ⟨c, mb, rfl, hc1, hb1⟩
  have HC1 := hid hc1; have HB1 := hid hb1
  clear hc1 hb1
  go_wp2_with fail
  refine (define_any (HC1.out.on (B1 _ _)) (by omega) [97] (by decide) (al_rf w1)).mono ?_
  rintro e w2 ⟨rfl, hq⟩
  have HB2 : Hid (Below w.heap.size w w2) := hid ((Ba HB1.out _).trans (hq.bl (HC1.out.on (B1 _ _))))
  rw [al_e1]
  obtain ⟨r2, hc2, _, _⟩ := hq
  change Cat w2 c mb 1 w.heap.size r2 al1 at hc2
  have HC2 := hid hc2
  clear hc2
  go_wp2_with fail
  refine (change_any (HC2.out.on (B1 _ _)) (by omega) [97] (by unfold SK maxLen; simp) (al_rc w2) (by intro x hx; simp [alC] at hx; subst hx; decide)).mono ?_
  rintro e w3 ⟨rfl, hq⟩
  have HB3 : Hid (Below w.heap.size w w3) := hid ((Ba HB2.out _).trans (hq.bl (HC2.out.on (B1 _ _))))
  rw [al_e2]
  obtain ⟨r3, hc3, _, _⟩ := hq
  change Cat w3 c mb 2 w.heap.size r3 al2 at hc3
  have HC3 := hid hc3
  clear hc3
  dsimp only
  go_wp2_with fail
  refine (upgrade_any (HC3.out.on (B1 _ _)) [97] (by unfold SK maxLen; simp) 1 (al_rb w3) (by omega)).mono ?_
  rintro e w4 ⟨A4, n4, c4, rfl, hr4, hb4⟩
  rw [al_e3] at hr4 ⊢
  have HB4 : Hid (Below w.heap.size w w4) := hid (Bt (Ba HB3.out _) hb4)
  have HC4 := hid ((HC3.out.on (B1 _ _)).on hb4)
  have HR4 := hid hr4
  clear hr4 hb4
  dsimp only at HR4 ⊢
  go_wp2_with fail
  refine (retire_any (HC4.out.on (B1 _ _)) (by omega) [97] (by unfold SK maxLen; simp) (al_ri w4)).mono ?_
  rintro e w5 ⟨rfl, hq⟩
  have HB5 : Hid (Below w.heap.size w w5) := hid ((Ba HB4.out _).trans (hq.bl (HC4.out.on (B1 _ _))))
  rw [al_e4] at hq ⊢
  obtain ⟨r5, hc5, hf5, _⟩ := hq
  have HR5 := hid ((HR4.out.on (B1 _ _)).fr hf5)
  have HC5 := hid hc5
  clear hc5 hf5
  dsimp only
  go_wp2_with fail
  refine (retire_any HC5.out (by omega) [97] (by unfold SK maxLen; simp) (RdI.nil _ _)).mono ?_
  rintro e w6 ⟨rfl, hq⟩
  have HB6 : Hid (Below w.heap.size w w6) := hid (HB5.out.trans (hq.bl HC5.out))
  rw [al_e5]
  obtain ⟨r6, hc6, hf6, _⟩ := hq
  change Cat w6 c mb _ w.heap.size r6 al3 at hc6
  have HR6 := hid (HR5.out.fr hf6)
  have HC6 := hid hc6
  clear hc6 hf6
  dsimp only
  go_wp2_with fail
  refine (versions_any HC6.out [97] (by unfold SK maxLen; simp)).mono ?_
  rintro e w7 ⟨rfl, hb7⟩
  rw [al_e6]
  have HB7 : Hid (Below w.heap.size w w7) := hid (Bt HB6.out hb7)
  have hconv := (HR6.out.on hb7).conv
  clear hb7
  go_wp2_with fail
  go_ret
  exact ⟨rfl, HB7.out⟩
end Go.Proofs.YtaegencmnmjgbaaGreat

namespace Go.Proofs.YtaegencmnmjgbaaGreat
open Go.RowKit Go.Maps
set_option linter.unusedVariables false
set_option linter.unusedSimpArgs false
theorem fieldsT_in {t : Ty} {v : Int} (h1 : t.lo ≤ v) (h2 : v ≤ t.hi) : (fieldsT (some t) v).2 = 0 := by
  unfold fieldsT; dsimp only; rw [if_neg (by omega)]
set_option maxRecDepth 20000 in
set_option maxHeartbeats 16000000 in
theorem walk_SchemaMany (A : Option Addr) (n cp : Nat) (ps : List OpP) (w : World) (h : RdOp w w.heap.size A n cp ps) :
    Calls Tryz.prog 8 #[.slice A n cp] w fun e w' => e = .returned (.bool true) ∧ Below w.heap.size w w' := by
  have HL := hid h.1
  have hnm := h.lenMax
  have H := hid h; clear h
  go_enter Tryz.func8, Tryz.ntmps8
  go_wp2_with fail
  refine (few9_any H.out).mono ?_
  rintro e w1 ⟨fb, rfl, hfew, hb1⟩
  have HFEW := hid hfew; have HB1 := hid hb1
  clear hfew hb1
  cases fb with
  | false =>
    go_wp2_with fail
    refine alive_any.mono ?_
    rintro e w3 ⟨rfl, hb3⟩
    go_wp2_with fail
    go_ret
    exact ⟨rfl, Bt HB1.out hb3⟩
  | true =>
    have HN := hid (HFEW.out rfl)
    have hn60 : (n : Int) ≤ 60 := by have := HN.out; omega
    go_wp2_with fail
    refine new_any.mono ?_
    rintro e w2 ⟨c, mb, rfl, hc2, hb2⟩
    have HB2 := hid (Bt HB1.out hb2)
    have HR2 := hid ((H.out.on opPB HB1.out).on opPB hb2)
    have HC2 : Hid (Cat w2 c mb 0 w1.heap.size (fun _ => ⟨0, 0, []⟩) []) := hid hc2
    have HBB : Hid (Below w1.heap.size w1 w2) := hid hb2
    clear hc2 hb2
    go_wp2_with fail
    go_loopw [24] (fun i wr => ∃ (j : Nat) (r : List UInt8 → Pl) (l : List Ty), j ≤ n ∧ i = .int .i64 j ∧ Hid (Cat wr c mb j w1.heap.size r l) ∧ Hid (RdOp wr wr.heap.size A n cp ps) ∧ Hid (Below w1.heap.size w1 wr)) (fun i _ => n - (intOf i).toNat)
    case atStart => exact ⟨0, _, _, by omega, rfl, HC2, HR2, HBB⟩
    case round =>
      obtain ⟨j, r, l, hj, rfl, HC, HR, HB⟩ := hrel
      by_cases hlt : j < n
      · obtain ⟨p, hp⟩ : ∃ p, ps[j]? = some p := ⟨_, List.getElem?_eq_getElem (by have := HL.out; omega)⟩
        obtain ⟨_, ⟨hop, hok, hsh⟩, b, off, rfl, hc⟩ := HR.out.cellsAt hp
        obtain ⟨o, u1, u2, u3⟩ := p
        obtain ⟨d0, d1, d2, d3, d4⟩ := hc wr (B0 _)
        dsimp only at hop hok hsh d0 d1 d2 d3 d4
        have HOP := hid hop; have HOK := hid hok
        have hop0 := hop
        obtain ⟨A1, n1, c1, A2, n2, c2, A3, n3, c3, e1, e2, e3, h1, h2, h3⟩ := hop
        subst e1; subst e2; subst e3
        obtain ⟨q, hq⟩ : ∃ q, q = wr.heap.size := ⟨_, rfl⟩
        obtain ⟨wv, hwv⟩ : ∃ wv, wv = wr.alloc (.cells #[.int .i64 o.kd, .string (bs o.nm), .slice A1 n1 c1, .slice A2 n2 c2, .slice A3 n3 c3] 54) := ⟨_, rfl⟩
        have HQ := hid hq; have HWV := hid hwv
        have HX : Hid (o9C wv q o (.slice A1 n1 c1) (.slice A2 n2 c2) (.slice A3 n3 c3)) := by rw [hwv, hq]; exact hid (o9C.new _ _ _ _ _)
        have hbv : Below wr.heap.size wr wv := by rw [hwv]; exact B1 _ _
        have HBV : Hid (Below w1.heap.size w1 wv) := by rw [hwv]; exact hid (Ba HB.out _)
        have HCV := hid (HC.out.on hbv)
        have HRV := hid (HR.out.on opPB hbv)
        have HPV := hid (HOP.out.on hbv)
        have hji : (j : Int) < n := by omega
        have hj0 : (0 : Int) ≤ j := by omega
        clear hp hok hsh hc h1 h2 h3 hq hwv hbv hop0
        go_upto_region 9 with fail
        rw [← HWV.out, ← HQ.out]
        clear d0 d1 d2 d3 d4
        obtain ⟨x0, x1, x2, x3, x4⟩ := HX.out.cells
        go_wp2_with fail
        refine (does_any HCV.out (by omega) HOK.out HPV.out).mono ?_
        rintro e w3 ⟨rfl, hq⟩
        have HB3 : Hid (Below w1.heap.size w1 w3) := hid (HBV.out.trans (hq.bl HCV.out))
        obtain ⟨l', hl'⟩ : ∃ l', l' = (doS l o).1 := ⟨_, rfl⟩
        obtain ⟨e3, he3⟩ : ∃ x, x = (doS l o).2.1 := ⟨_, rfl⟩
        obtain ⟨e4, he4⟩ : ∃ x, x = (doS l o).2.2 := ⟨_, rfl⟩
        rw [← hl'] at hq
        rw [← he3, ← he4]
        obtain ⟨r', hc3, hf3, _⟩ := hq
        have HC3 := hid hc3
        have HR3 := hid (RdOp.fr HRV.out hf3)
        clear hc3 hf3 hl' he3 he4 x0 x1 x2 x3 x4
        go_wp2_with fail
        refine (names_any HC3.out).mono ?_
        rintro e w4 ⟨A4, m4, c4, rfl, hr4, hb4⟩
        have HC4 := hid (HC3.out.on hb4)
        have HR4 := hid (HR3.out.on opPB hb4)
        have HB4 := hid (Bt HB3.out hb4)
        have hm : m4 = l'.length := by rw [← hr4.1, List.length_map]
        have hm16 : (m4 : Int) ≤ 16 := by have := HC3.out.ok.2.1; omega
        have HM := hid hm
        have HNS := hid hr4
        clear hb4 hr4 hm
        go_wp2_with fail
        go_loopw [38] (fun i wr => ∃ (k : Nat), k ≤ m4 ∧ i = .int .i64 k ∧ Hid (Below w4.heap.size w4 wr)) (fun i _ => m4 - (intOf i).toNat)
        case atStart => exact ⟨0, by omega, rfl, B0 _⟩
        case round =>
          obtain ⟨k, hk, rfl, HBK⟩ := hrel
          by_cases hkl : k < m4
          · obtain ⟨t, ht⟩ : ∃ t, l'[k]? = some t := ⟨_, List.getElem?_eq_getElem (by have := HM.out; omega)⟩
            have hnmk : (l'.map Ty.nm)[k]? = some t.nm := by rw [List.getElem?_map, ht]; rfl
            obtain ⟨_, _, b2, off2, rfl, _, hcn⟩ := HNS.out.at hnmk
            have y0 := hcn wr HBK.out 0 (by omega)
            rw [Nat.mul_one, Nat.add_zero] at y0
            simp only [stCel, List.getElem?_cons_zero] at y0
            have htm := List.mem_of_getElem? ht
            have HT := hid (HC4.out.ok.2.2 t htm)
            have HAT := hid (rise_at HC4.out.ok.1 htm)
            have hns := name_short HT.out.1
            have HK : Hid (SK t.nm) := hid (by unfold SK maxLen; omega)
            have HCK := hid (HC4.out.on HBK.out)
            obtain ⟨q1, q2, q3, q4, q5⟩ := HT.out.nums
            have q6 : t.hi ≤ 64 := HT.out.2.2.1
            have hki : (k : Int) < m4 := by omega
            have hk0 : (0 : Int) ≤ k := by omega
            obtain ⟨lo, hlo⟩ : ∃ lo, lo = t.lo := ⟨_, rfl⟩
            obtain ⟨hi, hhi⟩ : ∃ hi, hi = t.hi := ⟨_, rfl⟩
            have HLO := hid hlo; have HHI := hid hhi
            have g1 : ¬ lo < 1 := by omega
            have g2 : ¬ hi < lo := by omega
            have g3 : ¬ 64 < hi := by omega
            have g4 : lo ≤ 64 := by omega
            have g5 : hi ≤ 64 := by omega
            clear ht hnmk hcn htm q1 q2 q3 q4 q5 q6 hlo hhi
            go_wp2_with fail
            refine (versions_any HCK.out t.nm HK.out).mono ?_
            rintro e w5 ⟨rfl, hb5⟩
            rw [HAT.out]
            unfold versV
            dsimp only
            rw [← HLO.out, ← HHI.out]
            have HB5 : Hid (Below w4.heap.size w4 w5) := hid (Bt HBK.out hb5)
            clear hb5 y0
            go_wp2_with fail
            go_loopw [12] (fun i wr => ∃ (z : Int), lo ≤ z ∧ z ≤ hi + 1 ∧ i = .int .i64 z ∧ Hid (Below w4.heap.size w4 wr)) (fun i _ => (hi + 1 - intOf i).toNat)
            case atStart => exact ⟨lo, by omega, by omega, rfl, HB5⟩
            case round =>
              obtain ⟨z, hz1, hz2, rfl, HBZ⟩ := hrel
              by_cases hz : z ≤ hi
              · have HCZ := hid (HC4.out.on HBZ.out)
                have HZE : Hid ((fieldsT (some t) z).2 = 0) := hid (fieldsT_in (by rw [← HLO.out]; exact hz1) (by rw [← HHI.out]; exact hz))
                have t1 : decide (z ≤ hi) = true := decide_eq_true hz
                have hz64 : z ≤ 64 := by omega
                have hz0 : 1 ≤ z := by omega
                go_wp2_with fail
                refine (fields_any HCZ.out t.nm HK.out z).mono ?_
                rintro e w6 ⟨A6, n6, c6, rfl, _, hb6⟩
                rw [HAT.out, HZE.out]
                have HB6 : Hid (Below w4.heap.size w4 w6) := hid (Bt HBZ.out hb6)
                clear hb6
                go_wp2_with fail
                exact ⟨⟨z + 1, by omega, by omega, by go_num, HB6⟩, by simp [intOf]; omega⟩
              · have t1 : decide (z ≤ hi) = false := decide_eq_false hz
                go_wp2_with fail
                exact ⟨⟨k + 1, by omega, by go_num, HBZ⟩, by simp [intOf]; omega⟩
          · have hkm : k = m4 := by omega
            have HE : Hid (Below w1.heap.size w1 wr) := hid (Bt HB4.out HBK.out)
            have HCE := hid (HC4.out.on HBK.out)
            have HRE := hid (HR4.out.on opPB HBK.out)
            clear hkm
            go_wp2_with fail
            exact ⟨⟨j + 1, r', l', by omega, by go_num, HCE, HRE, HE⟩, by simp [intOf]; omega⟩
      · have hjn : j = n := by omega
        clear hjn
        go_wp2_with fail
        refine alive_any.mono ?_
        rintro e w3 ⟨rfl, hb3⟩
        go_wp2_with fail
        go_ret
        exact ⟨rfl, Bt HB1.out (Bt HB.out hb3)⟩
end Go.Proofs.YtaegencmnmjgbaaGreat
