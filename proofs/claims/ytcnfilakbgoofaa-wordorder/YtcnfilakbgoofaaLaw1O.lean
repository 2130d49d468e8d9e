/-
  The walk of WordOrder.
-/
import Derived.Test.YtcnfilakbgoofaaLaw1B
import Derived.Deep.QuietTactic
import Derived.BigQuiet
namespace Go.Proofs.Ytcnfilakbgoofaa
open Go.RowKit
set_option linter.unusedVariables false
set_option linter.unusedSimpArgs false

/-- Two numbers whose bytes from k on are the same, and whose byte k-1 is not: the greater byte is the greater number. -/
theorem le_getElem (n : Int) (x i : Nat) (h : i < x) : (le n x)[i]? = some (byteAt n i) := by
  induction x with
  | zero => omega
  | succ x ih =>
    by_cases hi : i = x
    · subst hi; rw [le, List.getElem?_append_right (by rw [le_length]; omega), le_length]; simp
    · rw [le, List.getElem?_append_left (by rw [le_length]; omega), ih (by omega)]

theorem byte_val (n : Int) (i : Nat) : ((byteAt n i).toNat : Int) = n / pw i % 256 := by
  have h1 : 0 ≤ n / pw i % 256 := Int.emod_nonneg _ (by decide)
  have h2 : n / pw i % 256 < 256 := Int.emod_lt_of_pos _ (by decide)
  unfold byteAt; rw [UInt8.toNat_ofNat']; omega

/-- The same from byte i on. -/
def SameFrom (a b : Int) (i : Nat) : Prop := a / pw i = b / pw i

theorem same_top {a b : Int} {x : Nat} (ha0 : 0 ≤ a) (hb0 : 0 ≤ b) (ha : a < pw x) (hb : b < pw x) : SameFrom a b x := by
  unfold SameFrom; rw [Int.ediv_eq_zero_of_lt ha0 ha, Int.ediv_eq_zero_of_lt hb0 hb]
theorem same_zero {a b : Int} (h : SameFrom a b 0) : a = b := by
  simpa [SameFrom, pw] using h
theorem same_down {a b : Int} {i : Nat} (h : SameFrom a b (i + 1)) (he : byteAt a i = byteAt b i) : SameFrom a b i := by
  unfold SameFrom at *
  have e1 := byte_val a i; have e2 := byte_val b i
  rw [he] at e1
  rw [← div_pw', ← div_pw'] at h
  omega
theorem less_at {a b : Int} {i : Nat} (h : SameFrom a b (i + 1)) (hne : (byteAt a i).toNat ≠ (byteAt b i).toNat) : ((byteAt a i).toNat < (byteAt b i).toNat) ↔ a < b := by
  unfold SameFrom at h
  have e1 := byte_val a i; have e2 := byte_val b i
  rw [← div_pw', ← div_pw'] at h
  have hp := pw_pos i
  have d1 := Int.emod_add_mul_ediv a (pw i); have d2 := Int.emod_add_mul_ediv b (pw i)
  have r1 := Int.emod_nonneg a (Int.ne_of_gt hp); have r2 := Int.emod_nonneg b (Int.ne_of_gt hp)
  have s1 := Int.emod_lt_of_pos a hp; have s2 := Int.emod_lt_of_pos b hp
  generalize a / pw i = qa at *
  generalize b / pw i = qb at *
  generalize a % pw i = ra at *
  generalize b % pw i = rb at *
  constructor
  · intro hl
    have : qa + 1 ≤ qb := by omega
    have := Int.mul_le_mul_of_nonneg_left this (Int.le_of_lt hp)
    rw [Int.mul_add] at this; omega
  · intro hl
    by_cases hq : qb < qa
    · have : qb + 1 ≤ qa := by omega
      have := Int.mul_le_mul_of_nonneg_left this (Int.le_of_lt hp)
      rw [Int.mul_add] at this; omega
    · omega

theorem Rd.byte {w : World} {g W c : Nat} {n : Int} (h : Rd w w.heap.size (some ⟨g, 0, none⟩) W c (le n W)) {j : Nat} (hj : j < W) : w.cell? ⟨g, j, none⟩ = some (.int .u8 (byteAt n j).toNat) := by
  obtain ⟨b, off, e, _, hc⟩ := h.2.2.2.2 (by omega)
  cases e
  have h1 := hc j (by rw [le_length]; exact hj)
  have h2 := le_getElem n W j hj
  rw [List.getElem?_eq_getElem (by rw [le_length]; exact hj)] at h2
  rw [Option.some.inj h2, Nat.zero_add] at h1
  exact h1

set_option maxHeartbeats 1000000 in
theorem walk_WordOrder (a b x : Int) (w : World) (w0 : (Lit.int .u64 a).wf = true) (w1 : (Lit.int .u64 b).wf = true) (w2 : (Lit.int .i64 x).wf = true) :
    Calls Try.prog 7 #[.int .u64 a, .int .u64 b, .int .i64 x] w fun e w' => e = .returned (.bool true) ∧ Below w.heap.size w w' := by
  have hna := U64.of_wf w0
  have hnb := U64.of_wf w1
  clear w0 w1 w2
  go_enter Try.func7, Try.ntmps7
  go_wp2_with fail
  refine (put_any none 0 0 [] x a _ (Rd.nil _ _) (by omega) hna).mono ?_
  rintro e w1 ⟨v1, rfl, ho1, hb1⟩
  go_wp2_with fail
  refine (put_any none 0 0 [] x b _ (Rd.nil _ _) (by omega) hnb).mono ?_
  rintro e w2 ⟨v2, rfl, ho2, hb2⟩
  cases hfa : fits a x false with
  | false =>
    go_wp2_with fail
    refine (alive_any _).mono ?_
    rintro e w3 ⟨rfl, hb3⟩
    go_wp2_with fail
    go_ret
    exact ⟨rfl, Bt (Bt hb1 hb2) hb3⟩
  | true =>
    cases hfb : fits b x false with
    | false =>
      go_wp2_with fail
      refine (alive_any _).mono ?_
      rintro e w3 ⟨rfl, hb3⟩
      go_wp2_with fail
      go_ret
      exact ⟨rfl, Bt (Bt hb1 hb2) hb3⟩
    | true =>
      have hx := fits_w hfa
      obtain ⟨W, rfl⟩ := Int.eq_ofNat_of_zero_le (show 0 ≤ x by omega)
      have hW : W = 1 ∨ W = 2 ∨ W = 4 ∨ W = 8 := by omega
      have hla : a < pw W := by simp [fits] at hfa; exact hfa.2
      have hlb : b < pw W := by simp [fits] at hfb; exact hfb.2
      have htop : SameFrom a b W := same_top hna.1 hnb.1 hla hlb
      have HTOP := hid htop
      have ho1 := ho1.grown hb2
      rw [show putL [] a W = le a W by simp [putL, hfa]] at ho1
      rw [show putL [] b W = le b W by simp [putL, hfb]] at ho2
      obtain ⟨g1, c1, hv1, hlc1, hbs1, hgl1, hr1⟩ := ho1.shape (by rw [le_length]; omega)
      obtain ⟨g2, c2, hv2, hlc2, hbs2, hgl2, hr2⟩ := ho2.shape (by rw [le_length]; omega)
      rw [le_length] at hv1 hr1 hv2 hr2
      rw [hv1, hv2]
      have HR1 := hid hr1; have HR2 := hid hr2
      have hne1 : ((W : Int) != W) = false := by simp
      clear hr1 hr2 hv1 hv2 ho1 ho2 hfa hfb hla hlb htop hx hlc1 hlc2
      go_wp2_with fail
      go_loopw [11] (fun i wr => ∃ k : Nat, k ≤ W ∧ i = .int .i64 ((k : Int) - 1) ∧ SameFrom a b k ∧ Ext w2 wr) (fun i _ => (1 + intOf i).toNat)
      case atStart => exact ⟨W, by omega, rfl, HTOP.out, Ext.refl _⟩
      case round =>
        obtain ⟨k, hk, rfl, hsame, hext⟩ := hrel
        have HSAME := hid hsame; clear hsame
        by_cases hk0 : k = 0
        · subst hk0
          have hab := same_zero HSAME.out
          subst hab
          have e0 : ((0 : Nat) : Int) - 1 = -1 := by omega
          rw [e0]
          go_wp2_with fail
          refine (alive_any _).mono ?_
          rintro e w3 ⟨rfl, hb3⟩
          go_wp2_with fail
          go_ret
          exact ⟨rfl, Bt (Bt (Bt hb1 hb2) hext) hb3⟩
        · obtain ⟨j, rfl⟩ : ∃ j, k = j + 1 := ⟨k - 1, by omega⟩
          have e0 : ((j + 1 : Nat) : Int) - 1 = j := by omega
          rw [e0]
          clear e0 hk0
          have hjw : (j : Int) < W := by omega
          have hjw' : j < W := by omega
          obtain ⟨ca, hca⟩ : ∃ ca : Nat, ca = (byteAt a j).toNat := ⟨_, rfl⟩
          obtain ⟨cb, hcb⟩ : ∃ cb : Nat, cb = (byteAt b j).toNat := ⟨_, rfl⟩
          have HCA := hid hca; have HCB := hid hcb
          have hcx : ∀ w', Ext wr w' → w'.cell? ⟨g1, j, none⟩ = some (.int .u8 ca) := fun w' h => by rw [HCA.out]; exact ((HR1.out.on hext).on h).byte hjw'
          have hcy : ∀ w', Ext wr w' → w'.cell? ⟨g2, j, none⟩ = some (.int .u8 cb) := fun w' h => by rw [HCB.out]; exact ((HR2.out.on hext).on h).byte hjw'
          have HCX := hid hcx; have HCY := hid hcy
          clear hca hcb hcx hcy
          by_cases hne : ca = cb
          · subst hne
            have hq : ((ca : Int) != ca) = false := by simp
            have hs := same_down HSAME.out (by
              have h1 := HCA.out; have h2 := HCB.out
              apply UInt8.toNat_inj.1; omega)
            have HS := hid hs; clear hs
            go_wp2_with fail
            refine reg_begin (by kernel_rfl) (fun w0c hx0c hHeld => ?_)
            have hcx : ∀ w', Ext w0c w' → w'.cell? ⟨g1, j, none⟩ = some (.int .u8 ca) := fun w' h => HCX.out w' (hx0c.trans h)
            have hcy : ∀ w', Ext w0c w' → w'.cell? ⟨g2, j, none⟩ = some (.int .u8 ca) := fun w' h => HCY.out w' (hx0c.trans h)
            refine reg_take 0 (v := ?vb0) at0 (by kernel_rfl) (by kernel_rfl) (by kernel_rfl) (by rfl) ?hyb0 hHeld ?restb0
            case hyb0 => (intro w' hSw; go_simp; try with_reducible rfl)
            try simp only [Act.put, List.setIfInBounds_toArray, List.set_cons_zero, List.set_cons_succ]
            refine reg_take 1 (v := ?vb1) (atS at0) (by kernel_rfl) (by kernel_rfl) (by kernel_rfl) (by rfl) ?hyb1 hHeld ?restb1
            case hyb1 => (intro w' hSw; go_simp; try with_reducible rfl)
            try simp only [Act.put, List.setIfInBounds_toArray, List.set_cons_zero, List.set_cons_succ]
            refine reg_take 2 (v := ?vb2) (atS (atS at0)) (by kernel_rfl) (by kernel_rfl) (by kernel_rfl) (by rfl) ?hyb2 hHeld ?restb2
            case hyb2 => (intro w' hSw; go_simp; try with_reducible rfl)
            try simp only [Act.put, List.setIfInBounds_toArray, List.set_cons_zero, List.set_cons_succ]
            refine reg_take 3 (v := ?vb3) (atS (atS (atS at0))) (by kernel_rfl) (by kernel_rfl) (by kernel_rfl) (by rfl) ?hyb3 hHeld ?restb3
            case hyb3 => (intro w' hSw; go_simp; try with_reducible rfl)
            try simp only [Act.put, List.setIfInBounds_toArray, List.set_cons_zero, List.set_cons_succ]
            refine reg_take 4 (v := ?vb4) (atS (atS (atS (atS at0)))) (by kernel_rfl) (by kernel_rfl) (by kernel_rfl) (by rfl) ?hyb4 hHeld ?restb4
            case hyb4 => (intro w' hSw; go_simp; try with_reducible rfl)
            try simp only [Act.put, List.setIfInBounds_toArray, List.set_cons_zero, List.set_cons_succ]
            refine reg_take 5 (v := ?vb5) (atS5 at0) (by kernel_rfl) (by kernel_rfl) (by kernel_rfl) (by rfl) ?hyb5 hHeld ?restb5
            case hyb5 => (intro w' hSw; go_simp; try with_reducible rfl)
            try simp only [Act.put, List.setIfInBounds_toArray, List.set_cons_zero, List.set_cons_succ]
            refine reg_take 6 (v := ?vb6) (atS5 (atS at0)) (by kernel_rfl) (by kernel_rfl) (by kernel_rfl) (by rfl) ?hyb6 hHeld ?restb6
            case hyb6 => (intro w' hSw; go_simp; try with_reducible rfl)
            try simp only [Act.put, List.setIfInBounds_toArray, List.set_cons_zero, List.set_cons_succ]
            refine reg_take 7 (v := ?vb7) (atS5 (atS (atS at0))) (by kernel_rfl) (by kernel_rfl) (by kernel_rfl) (by rfl) ?hyb7 hHeld ?restb7
            case hyb7 => (intro w' hSw; go_simp; try with_reducible rfl)
            try simp only [Act.put, List.setIfInBounds_toArray, List.set_cons_zero, List.set_cons_succ]
            refine reg_take 8 (v := ?vb8) (atS5 (atS (atS (atS at0)))) (by kernel_rfl) (by kernel_rfl) (by kernel_rfl) (by rfl) ?hyb8 hHeld ?restb8
            case hyb8 => (intro w' hSw; go_simp; try with_reducible rfl)
            try simp only [Act.put, List.setIfInBounds_toArray, List.set_cons_zero, List.set_cons_succ]
            refine wpAnyH_done (by kernel_rfl) ?_ _
            refine NoPanic.normal ?_
            clear hcx hcy
            go_wp2_with fail
            refine ⟨⟨j, by omega, rfl, HS.out, hext.trans hx0c⟩, by simp [intOf]; omega⟩
          · have hq : ((ca : Int) != cb) = true := by simp; omega
            have hlt := less_at HSAME.out (by rw [← HCA.out, ← HCB.out]; exact hne)
            rw [← HCA.out, ← HCB.out] at hlt
            have hfin : (decide (ca < cb) == decide (a < b)) = true := by simp [hlt]
            have HFIN := hid hfin
            clear hlt hfin
            go_wp2_with fail
            refine reg_begin (by kernel_rfl) (fun w0 hx0 hHeld => ?_)
            have hcx : ∀ w', Ext w0 w' → w'.cell? ⟨g1, j, none⟩ = some (.int .u8 ca) := fun w' h => HCX.out w' (hx0.trans h)
            have hcy : ∀ w', Ext w0 w' → w'.cell? ⟨g2, j, none⟩ = some (.int .u8 cb) := fun w' h => HCY.out w' (hx0.trans h)
            refine reg_take 0 (v := ?vc0) at0 (by kernel_rfl) (by kernel_rfl) (by kernel_rfl) (by rfl) ?hyc0 hHeld ?restc0
            case hyc0 => (intro w' hSw; go_simp; try with_reducible rfl)
            try simp only [Act.put, List.setIfInBounds_toArray, List.set_cons_zero, List.set_cons_succ]
            refine reg_take 1 (v := ?vc1) (atS at0) (by kernel_rfl) (by kernel_rfl) (by kernel_rfl) (by rfl) ?hyc1 hHeld ?restc1
            case hyc1 => (intro w' hSw; go_simp; try with_reducible rfl)
            try simp only [Act.put, List.setIfInBounds_toArray, List.set_cons_zero, List.set_cons_succ]
            refine reg_take 2 (v := ?vc2) (atS (atS at0)) (by kernel_rfl) (by kernel_rfl) (by kernel_rfl) (by rfl) ?hyc2 hHeld ?restc2
            case hyc2 => (intro w' hSw; go_simp; try with_reducible rfl)
            try simp only [Act.put, List.setIfInBounds_toArray, List.set_cons_zero, List.set_cons_succ]
            refine reg_take 3 (v := ?vc3) (atS (atS (atS at0))) (by kernel_rfl) (by kernel_rfl) (by kernel_rfl) (by rfl) ?hyc3 hHeld ?restc3
            case hyc3 => (intro w' hSw; go_simp; try with_reducible rfl)
            try simp only [Act.put, List.setIfInBounds_toArray, List.set_cons_zero, List.set_cons_succ]
            refine reg_take 4 (v := ?vc4) (atS (atS (atS (atS at0)))) (by kernel_rfl) (by kernel_rfl) (by kernel_rfl) (by rfl) ?hyc4 hHeld ?restc4
            case hyc4 => (intro w' hSw; go_simp; try with_reducible rfl)
            try simp only [Act.put, List.setIfInBounds_toArray, List.set_cons_zero, List.set_cons_succ]
            refine reg_take 5 (v := ?vc5) (atS5 at0) (by kernel_rfl) (by kernel_rfl) (by kernel_rfl) (by rfl) ?hyc5 hHeld ?restc5
            case hyc5 => (intro w' hSw; go_simp; try with_reducible rfl)
            try simp only [Act.put, List.setIfInBounds_toArray, List.set_cons_zero, List.set_cons_succ]
            refine reg_take 6 (v := ?vc6) (atS5 (atS at0)) (by kernel_rfl) (by kernel_rfl) (by kernel_rfl) (by rfl) ?hyc6 hHeld ?restc6
            case hyc6 => (intro w' hSw; go_simp; try with_reducible rfl)
            try simp only [Act.put, List.setIfInBounds_toArray, List.set_cons_zero, List.set_cons_succ]
            refine reg_take 7 (v := ?vc7) (atS5 (atS (atS at0))) (by kernel_rfl) (by kernel_rfl) (by kernel_rfl) (by rfl) ?hyc7 hHeld ?restc7
            case hyc7 => (intro w' hSw; go_simp; try with_reducible rfl)
            try simp only [Act.put, List.setIfInBounds_toArray, List.set_cons_zero, List.set_cons_succ]
            refine reg_take 8 (v := ?vc8) (atS5 (atS (atS (atS at0)))) (by kernel_rfl) (by kernel_rfl) (by kernel_rfl) (by rfl) ?hyc8 hHeld ?restc8
            case hyc8 => (intro w' hSw; go_simp; try with_reducible rfl)
            try simp only [Act.put, List.setIfInBounds_toArray, List.set_cons_zero, List.set_cons_succ]
            refine wpAnyH_done (by kernel_rfl) ?_ _
            refine NoPanic.normal ?_
            clear hcx hcy
            go_wp2_with fail
            refine reg_begin (by kernel_rfl) (fun w0b hx0b hHeld => ?_)
            refine wpAnyH_ready (rs := [0]) (by kernel_rfl) (by simp) ?_
            refine AllReadyH.cons at0 (fun K hK => ?_) AllReadyH.nil
            go_simp
            refine (alive_any _).mono ?_
            rintro e w3 ⟨rfl, hb3⟩
            go_wp2_with fail
            refine hK.out _ _ hb3 (fun hHeld => ?_)
            clear hK K
            try simp only [Act.put, List.setIfInBounds_toArray, List.set_cons_zero, List.set_cons_succ]
            refine reg_on hb3 (fun hHeld => ?_)
            have hcx : ∀ w', Ext w3 w' → w'.cell? ⟨g1, j, none⟩ = some (.int .u8 ca) := fun w' h => HCX.out w' ((hx0.trans hx0b).trans (Ext.trans hb3 h))
            have hcy : ∀ w', Ext w3 w' → w'.cell? ⟨g2, j, none⟩ = some (.int .u8 cb) := fun w' h => HCY.out w' ((hx0.trans hx0b).trans (Ext.trans hb3 h))
            have hfin := HFIN.out
            refine reg_take 1 (v := ?vd1) (atS at0) (by kernel_rfl) (by kernel_rfl) (by kernel_rfl) (by rfl) ?hyd1 hHeld ?restd1
            case hyd1 => (intro w' hSw; go_simp; try with_reducible rfl)
            try simp only [Act.put, List.setIfInBounds_toArray, List.set_cons_zero, List.set_cons_succ]
            refine reg_take 2 (v := ?vd2) (atS (atS at0)) (by kernel_rfl) (by kernel_rfl) (by kernel_rfl) (by rfl) ?hyd2 hHeld ?restd2
            case hyd2 => (intro w' hSw; go_simp; try with_reducible rfl)
            try simp only [Act.put, List.setIfInBounds_toArray, List.set_cons_zero, List.set_cons_succ]
            refine reg_take 3 (v := ?vd3) (atS (atS (atS at0))) (by kernel_rfl) (by kernel_rfl) (by kernel_rfl) (by rfl) ?hyd3 hHeld ?restd3
            case hyd3 => (intro w' hSw; go_simp; try with_reducible rfl)
            try simp only [Act.put, List.setIfInBounds_toArray, List.set_cons_zero, List.set_cons_succ]
            refine reg_take 4 (v := ?vd4) (atS (atS (atS (atS at0)))) (by kernel_rfl) (by kernel_rfl) (by kernel_rfl) (by rfl) ?hyd4 hHeld ?restd4
            case hyd4 => (intro w' hSw; go_simp; try with_reducible rfl)
            try simp only [Act.put, List.setIfInBounds_toArray, List.set_cons_zero, List.set_cons_succ]
            refine reg_take 5 (v := ?vd5) (atS5 at0) (by kernel_rfl) (by kernel_rfl) (by kernel_rfl) (by rfl) ?hyd5 hHeld ?restd5
            case hyd5 => (intro w' hSw; go_simp; try with_reducible rfl)
            try simp only [Act.put, List.setIfInBounds_toArray, List.set_cons_zero, List.set_cons_succ]
            refine reg_take 6 (v := ?vd6) (atS5 (atS at0)) (by kernel_rfl) (by kernel_rfl) (by kernel_rfl) (by rfl) ?hyd6 hHeld ?restd6
            case hyd6 => (intro w' hSw; go_simp; try with_reducible rfl)
            try simp only [Act.put, List.setIfInBounds_toArray, List.set_cons_zero, List.set_cons_succ]
            refine reg_take 7 (v := ?vd7) (atS5 (atS (atS at0))) (by kernel_rfl) (by kernel_rfl) (by kernel_rfl) (by rfl) ?hyd7 hHeld ?restd7
            case hyd7 => (intro w' hSw; go_simp; try with_reducible rfl)
            try simp only [Act.put, List.setIfInBounds_toArray, List.set_cons_zero, List.set_cons_succ]
            refine reg_take 8 (v := ?vd8) (atS5 (atS (atS (atS at0)))) (by kernel_rfl) (by kernel_rfl) (by kernel_rfl) (by rfl) ?hyd8 hHeld ?restd8
            case hyd8 => (intro w' hSw; go_simp; try with_reducible rfl)
            try simp only [Act.put, List.setIfInBounds_toArray, List.set_cons_zero, List.set_cons_succ]
            refine reg_take 9 (v := ?vd9) (atS5 (atS (atS (atS (atS at0))))) (by kernel_rfl) (by kernel_rfl) (by kernel_rfl) (by rfl) ?hyd9 hHeld ?restd9
            case hyd9 => (intro w' hSw; go_simp; try with_reducible rfl)
            try simp only [Act.put, List.setIfInBounds_toArray, List.set_cons_zero, List.set_cons_succ]
            refine reg_take 10 (v := ?vd10) (atS5 (atS5 at0)) (by kernel_rfl) (by kernel_rfl) (by kernel_rfl) (by rfl) ?hyd10 hHeld ?restd10
            case hyd10 => (intro w' hSw; go_simp; try with_reducible rfl)
            try simp only [Act.put, List.setIfInBounds_toArray, List.set_cons_zero, List.set_cons_succ]
            refine reg_take 11 (v := ?vd11) (atS5 (atS5 (atS at0))) (by kernel_rfl) (by kernel_rfl) (by kernel_rfl) (by rfl) ?hyd11 hHeld ?restd11
            case hyd11 => (intro w' hSw; go_simp; try with_reducible rfl)
            try simp only [Act.put, List.setIfInBounds_toArray, List.set_cons_zero, List.set_cons_succ]
            refine reg_take 12 (v := ?vd12) (atS5 (atS5 (atS (atS at0)))) (by kernel_rfl) (by kernel_rfl) (by kernel_rfl) (by rfl) ?hyd12 hHeld ?restd12
            case hyd12 => (intro w' hSw; go_simp; try with_reducible rfl)
            try simp only [Act.put, List.setIfInBounds_toArray, List.set_cons_zero, List.set_cons_succ]
            refine reg_take 13 (v := ?vd13) (atS5 (atS5 (atS (atS (atS at0))))) (by kernel_rfl) (by kernel_rfl) (by kernel_rfl) (by rfl) ?hyd13 hHeld ?restd13
            case hyd13 => (intro w' hSw; go_simp; try with_reducible rfl)
            try simp only [Act.put, List.setIfInBounds_toArray, List.set_cons_zero, List.set_cons_succ]
            refine reg_take 14 (v := ?vd14) (atS5 (atS5 (atS (atS (atS (atS at0)))))) (by kernel_rfl) (by kernel_rfl) (by kernel_rfl) (by rfl) ?hyd14 hHeld ?restd14
            case hyd14 => (intro w' hSw; go_simp; try with_reducible rfl)
            try simp only [Act.put, List.setIfInBounds_toArray, List.set_cons_zero, List.set_cons_succ]
            refine reg_take 15 (v := ?vd15) (atS5 (atS5 (atS5 at0))) (by kernel_rfl) (by kernel_rfl) (by kernel_rfl) (by rfl) ?hyd15 hHeld ?restd15
            case hyd15 => (intro w' hSw; go_simp; try with_reducible rfl)
            try simp only [Act.put, List.setIfInBounds_toArray, List.set_cons_zero, List.set_cons_succ]
            refine reg_take 16 (v := ?vd16) (atS5 (atS5 (atS5 (atS at0)))) (by kernel_rfl) (by kernel_rfl) (by kernel_rfl) (by rfl) ?hyd16 hHeld ?restd16
            case hyd16 => (intro w' hSw; go_simp; try with_reducible rfl)
            try simp only [Act.put, List.setIfInBounds_toArray, List.set_cons_zero, List.set_cons_succ]
            refine wpAnyH_done (by kernel_rfl) ?_ _
            refine NoPanic.normal ?_
            go_wp2_with fail
            go_ret
            exact ⟨rfl, Bt (Bt hb1 hb2) (Ext.trans hext (Ext.trans hx0 (Ext.trans hx0b hb3)))⟩
end Go.Proofs.Ytcnfilakbgoofaa
