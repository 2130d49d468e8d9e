/-
  The walk of WordBack.
-/
import Derived.Test.YtcnfilakbgoofaaLaw1W
import Derived.Test.YtcnfilakbgoofaaReg
namespace Go.Proofs.Ytcnfilakbgoofaa
open Go.RowKit
set_option linter.unusedVariables false
set_option linter.unusedSimpArgs false

theorem emod_mul' (nn : Int) (h0 : 0 ≤ nn) (k : Nat) : nn % (pw k * 256) = nn % pw k + pw k * (nn / pw k % 256) := by
  obtain ⟨m, rfl⟩ := Int.eq_ofNat_of_zero_le h0
  obtain ⟨q, hq⟩ := Int.eq_ofNat_of_zero_le (Int.le_of_lt (pw_pos k))
  rw [hq]
  have h := Nat.mod_mul (x := m) (a := q) (b := 256)
  have h2 := congrArg (fun z : Nat => (z : Int)) h
  simp only [Int.natCast_add, Int.natCast_mul, Int.natCast_emod, Int.natCast_ediv] at h2
  exact h2
theorem div_pw' (n : Int) (k : Nat) : n / pw k / 256 = n / pw (k + 1 : Nat) := by
  rw [pw_succ, Int.ediv_ediv_of_nonneg (Int.le_of_lt (pw_pos k))]
theorem num_le (nn : Int) (h0 : 0 ≤ nn) (k : Nat) : num (le nn k) = nn % pw k := by
  induction k with
  | zero => simp [le, num, pw]
  | succ k ih =>
    have h1 : 0 ≤ nn / pw k % 256 := Int.emod_nonneg _ (by decide)
    have h2 : nn / pw k % 256 < 256 := Int.emod_lt_of_pos _ (by decide)
    have e : (byteAt nn k).toNat = (nn / pw k % 256).toNat := by unfold byteAt; rw [UInt8.toNat_ofNat']; omega
    rw [le, num_append, ih, le_length]
    simp only [num, e]
    rw [Int.toNat_of_nonneg h1, Int.mul_zero, Int.add_zero, pw_succ]
    rw [emod_mul' nn h0 k]
theorem num_fits {nn : Int} (h : U64 nn) {k : Nat} (hf : fits nn k false = true) : num (le nn k) = nn := by
  rw [num_le nn h.1]
  have : nn < pw k := by simp [fits] at hf; exact hf.2
  exact Int.emod_eq_of_lt h.1 this

theorem setL_mid (l : List UInt8) (a : Nat) (xs : List UInt8) (h : a + xs.length ≤ l.length) : ((setL l a xs).drop a).take xs.length = xs := by
  unfold setL splice
  rw [List.drop_append_of_le_length (by simp; omega)]
  simp [List.drop_eq_nil_of_le]
theorem setL_take (l : List UInt8) (a : Nat) (xs : List UInt8) (h : a + xs.length ≤ l.length) : (setL l a xs).take a = l.take a := by
  unfold setL splice
  rw [List.take_append_of_le_length (by simp; omega), List.take_of_length_le (by simp; omega)]
theorem setL_drop (l : List UInt8) (a : Nat) (xs : List UInt8) (h : a + xs.length ≤ l.length) : (setL l a xs).drop (a + xs.length) = l.drop (a + xs.length) := by
  unfold setL splice
  rw [List.drop_append, List.drop_eq_nil_of_le (by simp; omega)]
  simp
  rw [show a + xs.length - min a l.length = xs.length by omega]
  simp

set_option maxHeartbeats 1000000 in
theorem walk_WordBack (A : Option Addr) (n cap : Nat) (l : List UInt8) (at_ nn : Int) (w : World) (h : Rd w w.heap.size A n cap l) (w1 : (Lit.int .i64 at_).wf = true) (w2 : (Lit.int .u64 nn).wf = true) :
    Calls Try.prog 6 #[.slice A n cap, .int .i64 at_, .int .u64 nn] w fun e w' => e = .returned (.bool true) ∧ Below w.heap.size w w' := by
  have hn := U64.of_wf w2
  clear w1 w2
  by_cases hbig : 20000 < n
  · have hb' : decide ((20000 : Int) < n) = true := by simp; omega
    go_enter Try.func6, Try.ntmps6
    go_wp2_with fail
    refine (alive_any _).mono ?_
    rintro e w2 ⟨rfl, hb2⟩
    go_wp2_with fail
    go_ret
    exact ⟨rfl, hb2⟩
  · have hb' : decide ((20000 : Int) < n) = false := by simp; omega
    have HL := hid h.1
    have H := hid h; clear h
    go_enter Try.func6, Try.ntmps6
    go_wp2_with fail
    go_loopw [19] (fun i wr => ∃ k : Nat, k ≤ 4 ∧ i = .int .i64 k ∧ Below (w.heap.size + 1) (w.alloc (.cells #[.int .i64 1, .int .i64 2, .int .i64 4, .int .i64 8] 3)) wr) (fun i _ => 4 - (intOf i).toNat)
    case atStart => exact ⟨0, by omega, rfl, Below.refl _ _⟩
    case round =>
      obtain ⟨k, hk, rfl, hb⟩ := hrel
      have hsz : w.heap.size + 1 ≤ wr.heap.size := by have := hb.size; simpa using this
      have hbw : Below w.heap.size w wr := (B1 w _).trans (hb.mono (by omega))
      by_cases hlt : k < 4
      · have hcell := (hb.cell (p := ⟨w.heap.size, k, none⟩) (by simp)).trans (wdCells w k hlt)
        have hk4 : (k : Int) < 4 := by omega
        have hxw := wd_w k
        obtain ⟨x, hx⟩ : ∃ x, wd k = x := ⟨_, rfl⟩
        rw [hx] at hcell hxw
        clear hx
        go_wp2_with fail
        refine (set_any A n cap l at_ x nn _ (H.out.on hbw) (by omega) hn).mono ?_
        rintro e w1 ⟨v, rfl, ho, hb1⟩
        cases hok : setOk n at_ x nn with
        | false =>
          go_wp2_with fail
          exact ⟨⟨k + 1, by omega, by go_num, hb.trans (hb1.mono hsz)⟩, by simp [intOf]; omega⟩
        | true =>
          have hok' := hok
          simp [setOk, holdsB] at hok'
          obtain ⟨⟨⟨_, ha0⟩, hal⟩, hf⟩ := hok'
          obtain ⟨a, rfl⟩ := Int.eq_ofNat_of_zero_le ha0
          have hax : a + x ≤ n := by omega
          have hl := HL.out
          have hfit : a + (le nn x).length ≤ l.length := by rw [le_length]; omega
          have hset : setR l a x nn = setL l a (le nn x) := by unfold setR; rw [hl, hok]; simp
          rw [hset] at ho
          have hlen := setL_length l a (le nn x) hfit
          obtain ⟨g, c, hv, hlc, hbase, hgl, hr⟩ := ho.shape (by omega)
          rw [hlen, hl] at hv hlc hr
          rw [hv]
          obtain ⟨b, off, hA, hbl, _⟩ := H.out.2.2.2.2 (by omega)
          subst hA
          have hcapn := H.out.2.1
          have HR := hid hr
          have hget : getN (setL l a (le nn x)) a x = nn := by
            unfold getN
            have : holdsB (setL l a (le nn x)).length a x = true := by
              rw [hlen, hl]; simp [setOk] at hok; exact hok.1
            rw [this]
            simp only [if_true, Int.toNat_natCast]
            have e := setL_mid l a (le nn x) hfit
            rw [le_length] at e
            rw [e, num_fits hn hf]
          have hhold : holdsB n a x = true := by simp [setOk] at hok; exact hok.1
          have e1 := setL_take l a (le nn x) hfit
          have e2 := setL_drop l a (le nn x) hfit
          rw [le_length] at e2
          have HG := hid hget; have HHO := hid hhold; have HE1 := hid e1; have HE2 := hid e2
          clear hget hhold e1 e2 hr hv hset hlen hfit ho hl hf hok hal ha0
          go_wp2_with fail
          refine (get_any _ n c _ a x _ HR.out).mono ?_
          rintro e w2 ⟨rfl, hb2⟩
          rw [HG.out, HHO.out]
          have HR2 := hid (HR.out.on hb2)
          have HB2 := hid ((H.out.on hbw).on (Bt hb1 hb2))
          have hax' : (a : Int) + x ≤ n := by omega
          have ha0 : (0 : Int) ≤ (a : Int) + x := by omega
          have hac : a ≤ c := by omega
          have hacap : a ≤ cap := by omega
          have hwr : IntKind.i64.wrap ((a : Int) + x) = a + x := by rw [IntKind.wrap_i64]; omega
          have htn : ((a : Int) + x).toNat = a + x := by omega
          go_wp2_with fail
          refine reg_begin (by kernel_rfl) (fun w0 hx0 hHeld => ?_)
          have HR3 := hid (HR2.out.on hx0)
          have HB3 := hid (HB2.out.on hx0)
          have hcv1 : ∀ w', Ext w0 w' → (convert 22 9 (.slice (some ⟨g, 0, none⟩) a c)).run Try.prog w' = .ok (.string ⟨(l.take a).toArray⟩) w' := fun w' hb => by have := ((HR3.out.on hb).take (m := a) (by omega)).conv; rw [HE1.out] at this; exact this
          have hcv2 : ∀ w', Ext w0 w' → (convert 22 9 (.slice (some ⟨b, off, none⟩) a cap)).run Try.prog w' = .ok (.string ⟨(l.take a).toArray⟩) w' := fun w' hb => ((HB3.out.on hb).take (m := a) (by omega)).conv
          have hcv3 : ∀ w', Ext w0 w' → (convert 22 9 (.slice (if c = a + x then some ⟨g, 0, none⟩ else some ⟨g, a + x, none⟩) (n - (a + x)) (c - (a + x)))).run Try.prog w' = .ok (.string ⟨(l.drop (a + x)).toArray⟩) w' := fun w' hb => by have := ((HR3.out.on hb).drop (k := a + x) hax).conv; rw [HE2.out] at this; simpa [add_plain] using this
          have hcv4 : ∀ w', Ext w0 w' → (convert 22 9 (.slice (if cap = a + x then some ⟨b, off, none⟩ else some ⟨b, off + (a + x), none⟩) (n - (a + x)) (cap - (a + x)))).run Try.prog w' = .ok (.string ⟨(l.drop (a + x)).toArray⟩) w' := fun w' hb => by have := ((HB3.out.on hb).drop (k := a + x) hax).conv; simpa [add_plain] using this
          refine reg_take 0 (v := ?vb0) at0 (by kernel_rfl) (by kernel_rfl) (by kernel_rfl) (by rfl) ?hyb0 hHeld ?restb0
          case hyb0 => (intro w' hSw; go_simp; try with_reducible rfl)
          try simp only [Act.put, List.setIfInBounds_toArray, List.set_cons_zero, List.set_cons_succ]
          refine reg_take 1 (v := ?vb1) (atS at0) (by kernel_rfl) (by kernel_rfl) (by kernel_rfl) (by rfl) ?hyb1 hHeld ?restb1
          case hyb1 => (intro w' hSw; go_simp; try with_reducible rfl)
          try simp only [Act.put, List.setIfInBounds_toArray, List.set_cons_zero, List.set_cons_succ]
          refine reg_take 2 (v := ?vb2) (atS (atS at0)) (by kernel_rfl) (by kernel_rfl) (by kernel_rfl) (by rfl) ?hyb2 hHeld ?restb2
          case hyb2 => (intro w' hSw; go_simp; try with_reducible rfl)
          try simp only [Act.put, List.setIfInBounds_toArray, List.set_cons_zero, List.set_cons_succ]
          refine reg_take 3 (v := ?vb3) (atS (atS (atS at0))) (by kernel_rfl) (by kernel_rfl) (by kernel_rfl) (by rfl) ?hyb3 hHeld ?restb3
          case hyb3 => (intro w' hSw; go_simp; try with_reducible rfl)
          try simp only [Act.put, List.setIfInBounds_toArray, List.set_cons_zero, List.set_cons_succ]
          refine reg_take 4 (v := ?vb4) (atS (atS (atS (atS at0)))) (by kernel_rfl) (by kernel_rfl) (by kernel_rfl) (by rfl) ?hyb4 hHeld ?restb4
          case hyb4 => (intro w' hSw; go_simp; try with_reducible rfl)
          try simp only [Act.put, List.setIfInBounds_toArray, List.set_cons_zero, List.set_cons_succ]
          refine reg_take 5 (v := ?vb5) (atS5 at0) (by kernel_rfl) (by kernel_rfl) (by kernel_rfl) (by rfl) ?hyb5 hHeld ?restb5
          case hyb5 => (intro w' hSw; go_simp; try with_reducible rfl)
          try simp only [Act.put, List.setIfInBounds_toArray, List.set_cons_zero, List.set_cons_succ]
          refine reg_take 6 (v := ?vb6) (atS5 (atS at0)) (by kernel_rfl) (by kernel_rfl) (by kernel_rfl) (by rfl) ?hyb6 hHeld ?restb6
          case hyb6 => (intro w' hSw; go_simp; try with_reducible rfl)
          try simp only [Act.put, List.setIfInBounds_toArray, List.set_cons_zero, List.set_cons_succ]
          refine reg_take 7 (v := ?vb7) (atS5 (atS (atS at0))) (by kernel_rfl) (by kernel_rfl) (by kernel_rfl) (by rfl) ?hyb7 hHeld ?restb7
          case hyb7 => (intro w' hSw; go_simp; try with_reducible rfl)
          try simp only [Act.put, List.setIfInBounds_toArray, List.set_cons_zero, List.set_cons_succ]
          refine reg_take 8 (v := ?vb8) (atS5 (atS (atS (atS at0)))) (by kernel_rfl) (by kernel_rfl) (by kernel_rfl) (by rfl) ?hyb8 hHeld ?restb8
          case hyb8 => (intro w' hSw; go_simp; try with_reducible rfl)
          try simp only [Act.put, List.setIfInBounds_toArray, List.set_cons_zero, List.set_cons_succ]
          refine reg_take 9 (v := ?vb9) (atS5 (atS (atS (atS (atS at0))))) (by kernel_rfl) (by kernel_rfl) (by kernel_rfl) (by rfl) ?hyb9 hHeld ?restb9
          case hyb9 => (intro w' hSw; go_simp; try with_reducible rfl)
          try simp only [Act.put, List.setIfInBounds_toArray, List.set_cons_zero, List.set_cons_succ]
          refine reg_take 10 (v := ?vb10) (atS5 (atS5 at0)) (by kernel_rfl) (by kernel_rfl) (by kernel_rfl) (by rfl) ?hyb10 hHeld ?restb10
          case hyb10 => (intro w' hSw; go_simp; try with_reducible rfl)
          try simp only [Act.put, List.setIfInBounds_toArray, List.set_cons_zero, List.set_cons_succ]
          refine reg_take 11 (v := ?vb11) (atS5 (atS5 (atS at0))) (by kernel_rfl) (by kernel_rfl) (by kernel_rfl) (by rfl) ?hyb11 hHeld ?restb11
          case hyb11 => (intro w' hSw; go_simp; try with_reducible rfl)
          try simp only [Act.put, List.setIfInBounds_toArray, List.set_cons_zero, List.set_cons_succ]
          refine reg_take 12 (v := ?vb12) (atS5 (atS5 (atS (atS at0)))) (by kernel_rfl) (by kernel_rfl) (by kernel_rfl) (by rfl) ?hyb12 hHeld ?restb12
          case hyb12 => (intro w' hSw; go_simp; try with_reducible rfl)
          try simp only [Act.put, List.setIfInBounds_toArray, List.set_cons_zero, List.set_cons_succ]
          refine reg_take 13 (v := ?vb13) (atS5 (atS5 (atS (atS (atS at0))))) (by kernel_rfl) (by kernel_rfl) (by kernel_rfl) (by rfl) ?hyb13 hHeld ?restb13
          case hyb13 => (intro w' hSw; go_simp; try with_reducible rfl)
          try simp only [Act.put, List.setIfInBounds_toArray, List.set_cons_zero, List.set_cons_succ]
          refine reg_take 14 (v := ?vb14) (atS5 (atS5 (atS (atS (atS (atS at0)))))) (by kernel_rfl) (by kernel_rfl) (by kernel_rfl) (by rfl) ?hyb14 hHeld ?restb14
          case hyb14 => (intro w' hSw; go_simp; try with_reducible rfl)
          try simp only [Act.put, List.setIfInBounds_toArray, List.set_cons_zero, List.set_cons_succ]
          refine reg_take 15 (v := ?vb15) (atS5 (atS5 (atS5 at0))) (by kernel_rfl) (by kernel_rfl) (by kernel_rfl) (by rfl) ?hyb15 hHeld ?restb15
          case hyb15 => (intro w' hSw; go_simp; try with_reducible rfl)
          try simp only [Act.put, List.setIfInBounds_toArray, List.set_cons_zero, List.set_cons_succ]
          refine reg_take 16 (v := ?vb16) (atS5 (atS5 (atS5 (atS at0)))) (by kernel_rfl) (by kernel_rfl) (by kernel_rfl) (by rfl) ?hyb16 hHeld ?restb16
          case hyb16 => (intro w' hSw; go_simp; try with_reducible rfl)
          try simp only [Act.put, List.setIfInBounds_toArray, List.set_cons_zero, List.set_cons_succ]
          refine reg_take 17 (v := ?vb17) (atS5 (atS5 (atS5 (atS (atS at0))))) (by kernel_rfl) (by kernel_rfl) (by kernel_rfl) (by rfl) ?hyb17 hHeld ?restb17
          case hyb17 => (intro w' hSw; go_simp; try with_reducible rfl)
          try simp only [Act.put, List.setIfInBounds_toArray, List.set_cons_zero, List.set_cons_succ]
          refine reg_take 18 (v := ?vb18) (atS5 (atS5 (atS5 (atS (atS (atS at0)))))) (by kernel_rfl) (by kernel_rfl) (by kernel_rfl) (by rfl) ?hyb18 hHeld ?restb18
          case hyb18 => (intro w' hSw; go_simp; try with_reducible rfl)
          try simp only [Act.put, List.setIfInBounds_toArray, List.set_cons_zero, List.set_cons_succ]
          refine reg_take 19 (v := ?vb19) (atS5 (atS5 (atS5 (atS (atS (atS (atS at0))))))) (by kernel_rfl) (by kernel_rfl) (by kernel_rfl) (by rfl) ?hyb19 hHeld ?restb19
          case hyb19 => (intro w' hSw; go_simp; try with_reducible rfl)
          try simp only [Act.put, List.setIfInBounds_toArray, List.set_cons_zero, List.set_cons_succ]
          refine reg_take 20 (v := ?vb20) (atS5 (atS5 (atS5 (atS5 at0)))) (by kernel_rfl) (by kernel_rfl) (by kernel_rfl) (by rfl) ?hyb20 hHeld ?restb20
          case hyb20 => (intro w' hSw; go_simp; try with_reducible rfl)
          try simp only [Act.put, List.setIfInBounds_toArray, List.set_cons_zero, List.set_cons_succ]
          refine reg_take 21 (v := ?vb21) (atS5 (atS5 (atS5 (atS5 (atS at0))))) (by kernel_rfl) (by kernel_rfl) (by kernel_rfl) (by rfl) ?hyb21 hHeld ?restb21
          case hyb21 => (intro w' hSw; go_simp; try with_reducible rfl)
          try simp only [Act.put, List.setIfInBounds_toArray, List.set_cons_zero, List.set_cons_succ]
          refine reg_take 22 (v := ?vb22) (atS5 (atS5 (atS5 (atS5 (atS (atS at0)))))) (by kernel_rfl) (by kernel_rfl) (by kernel_rfl) (by rfl) ?hyb22 hHeld ?restb22
          case hyb22 => (intro w' hSw; go_simp; try with_reducible rfl)
          try simp only [Act.put, List.setIfInBounds_toArray, List.set_cons_zero, List.set_cons_succ]
          refine reg_take 23 (v := ?vb23) (atS5 (atS5 (atS5 (atS5 (atS (atS (atS at0))))))) (by kernel_rfl) (by kernel_rfl) (by kernel_rfl) (by rfl) ?hyb23 hHeld ?restb23
          case hyb23 => (intro w' hSw; go_simp; try with_reducible rfl)
          try simp only [Act.put, List.setIfInBounds_toArray, List.set_cons_zero, List.set_cons_succ]
          refine reg_take 24 (v := ?vb24) (atS5 (atS5 (atS5 (atS5 (atS (atS (atS (atS at0)))))))) (by kernel_rfl) (by kernel_rfl) (by kernel_rfl) (by rfl) ?hyb24 hHeld ?restb24
          case hyb24 => (intro w' hSw; go_simp; try with_reducible rfl)
          try simp only [Act.put, List.setIfInBounds_toArray, List.set_cons_zero, List.set_cons_succ]
          refine reg_take 25 (v := ?vb25) (atS5 (atS5 (atS5 (atS5 (atS5 at0))))) (by kernel_rfl) (by kernel_rfl) (by kernel_rfl) (by rfl) ?hyb25 hHeld ?restb25
          case hyb25 => (intro w' hSw; go_simp; try with_reducible rfl)
          try simp only [Act.put, List.setIfInBounds_toArray, List.set_cons_zero, List.set_cons_succ]
          refine reg_take 26 (v := ?vb26) (atS5 (atS5 (atS5 (atS5 (atS5 (atS at0)))))) (by kernel_rfl) (by kernel_rfl) (by kernel_rfl) (by rfl) ?hyb26 hHeld ?restb26
          case hyb26 => (intro w' hSw; go_simp; try with_reducible rfl)
          try simp only [Act.put, List.setIfInBounds_toArray, List.set_cons_zero, List.set_cons_succ]
          refine reg_take 27 (v := ?vb27) (atS5 (atS5 (atS5 (atS5 (atS5 (atS (atS at0))))))) (by kernel_rfl) (by kernel_rfl) (by kernel_rfl) (by rfl) ?hyb27 hHeld ?restb27
          case hyb27 => (intro w' hSw; go_simp; try with_reducible rfl)
          try simp only [Act.put, List.setIfInBounds_toArray, List.set_cons_zero, List.set_cons_succ]
          refine reg_take 28 (v := ?vb28) (atS5 (atS5 (atS5 (atS5 (atS5 (atS (atS (atS at0)))))))) (by kernel_rfl) (by kernel_rfl) (by kernel_rfl) (by rfl) ?hyb28 hHeld ?restb28
          case hyb28 => (intro w' hSw; go_simp; try with_reducible rfl)
          try simp only [Act.put, List.setIfInBounds_toArray, List.set_cons_zero, List.set_cons_succ]
          refine reg_take 29 (v := ?vb29) (atS5 (atS5 (atS5 (atS5 (atS5 (atS (atS (atS (atS at0))))))))) (by kernel_rfl) (by kernel_rfl) (by kernel_rfl) (by rfl) ?hyb29 hHeld ?restb29
          case hyb29 => (intro w' hSw; go_simp; try with_reducible rfl)
          try simp only [Act.put, List.setIfInBounds_toArray, List.set_cons_zero, List.set_cons_succ]
          refine reg_take 30 (v := ?vb30) (atS5 (atS5 (atS5 (atS5 (atS5 (atS5 at0)))))) (by kernel_rfl) (by kernel_rfl) (by kernel_rfl) (by rfl) ?hyb30 hHeld ?restb30
          case hyb30 => (intro w' hSw; go_simp; try with_reducible rfl)
          try simp only [Act.put, List.setIfInBounds_toArray, List.set_cons_zero, List.set_cons_succ]
          refine reg_take 31 (v := ?vb31) (atS5 (atS5 (atS5 (atS5 (atS5 (atS5 (atS at0))))))) (by kernel_rfl) (by kernel_rfl) (by kernel_rfl) (by rfl) ?hyb31 hHeld ?restb31
          case hyb31 => (intro w' hSw; go_simp; try with_reducible rfl)
          try simp only [Act.put, List.setIfInBounds_toArray, List.set_cons_zero, List.set_cons_succ]
          refine reg_take 32 (v := ?vb32) (atS5 (atS5 (atS5 (atS5 (atS5 (atS5 (atS (atS at0)))))))) (by kernel_rfl) (by kernel_rfl) (by kernel_rfl) (by rfl) ?hyb32 hHeld ?restb32
          case hyb32 => (intro w' hSw; go_simp; try with_reducible rfl)
          try simp only [Act.put, List.setIfInBounds_toArray, List.set_cons_zero, List.set_cons_succ]
          refine reg_take 33 (v := ?vb33) (atS5 (atS5 (atS5 (atS5 (atS5 (atS5 (atS (atS (atS at0))))))))) (by kernel_rfl) (by kernel_rfl) (by kernel_rfl) (by rfl) ?hyb33 hHeld ?restb33
          case hyb33 => (intro w' hSw; go_simp; try with_reducible rfl)
          try simp only [Act.put, List.setIfInBounds_toArray, List.set_cons_zero, List.set_cons_succ]
          refine reg_take 34 (v := ?vb34) (atS5 (atS5 (atS5 (atS5 (atS5 (atS5 (atS (atS (atS (atS at0)))))))))) (by kernel_rfl) (by kernel_rfl) (by kernel_rfl) (by rfl) ?hyb34 hHeld ?restb34
          case hyb34 => (intro w' hSw; go_simp; try with_reducible rfl)
          try simp only [Act.put, List.setIfInBounds_toArray, List.set_cons_zero, List.set_cons_succ]
          refine reg_take 35 (v := ?vb35) (atS5 (atS5 (atS5 (atS5 (atS5 (atS5 (atS5 at0))))))) (by kernel_rfl) (by kernel_rfl) (by kernel_rfl) (by rfl) ?hyb35 hHeld ?restb35
          case hyb35 => (intro w' hSw; go_simp; try with_reducible rfl)
          try simp only [Act.put, List.setIfInBounds_toArray, List.set_cons_zero, List.set_cons_succ]
          refine reg_take 36 (v := ?vb36) (atS5 (atS5 (atS5 (atS5 (atS5 (atS5 (atS5 (atS at0)))))))) (by kernel_rfl) (by kernel_rfl) (by kernel_rfl) (by rfl) ?hyb36 hHeld ?restb36
          case hyb36 => (intro w' hSw; go_simp; try with_reducible rfl)
          try simp only [Act.put, List.setIfInBounds_toArray, List.set_cons_zero, List.set_cons_succ]
          refine reg_take 37 (v := ?vb37) (atS5 (atS5 (atS5 (atS5 (atS5 (atS5 (atS5 (atS (atS at0))))))))) (by kernel_rfl) (by kernel_rfl) (by kernel_rfl) (by rfl) ?hyb37 hHeld ?restb37
          case hyb37 => (intro w' hSw; go_simp; try with_reducible rfl)
          try simp only [Act.put, List.setIfInBounds_toArray, List.set_cons_zero, List.set_cons_succ]
          refine reg_take 38 (v := ?vb38) (atS5 (atS5 (atS5 (atS5 (atS5 (atS5 (atS5 (atS (atS (atS at0)))))))))) (by kernel_rfl) (by kernel_rfl) (by kernel_rfl) (by rfl) ?hyb38 hHeld ?restb38
          case hyb38 => (intro w' hSw; go_simp; try with_reducible rfl)
          try simp only [Act.put, List.setIfInBounds_toArray, List.set_cons_zero, List.set_cons_succ]
          refine reg_take 39 (v := ?vb39) (atS5 (atS5 (atS5 (atS5 (atS5 (atS5 (atS5 (atS (atS (atS (atS at0))))))))))) (by kernel_rfl) (by kernel_rfl) (by kernel_rfl) (by rfl) ?hyb39 hHeld ?restb39
          case hyb39 => (intro w' hSw; go_simp; try with_reducible rfl)
          try simp only [Act.put, List.setIfInBounds_toArray, List.set_cons_zero, List.set_cons_succ]
          refine wpAnyH_done (by kernel_rfl) ?_ _
          refine NoPanic.normal ?_
          clear hcv1 hcv2 hcv3 hcv4 hwr htn
          go_wp2_with fail
          refine ⟨⟨k + 1, by omega, by go_num, hb.trans ((Bt (Bt hb1 hb2) hx0).mono hsz)⟩, by simp [intOf]; omega⟩
      · go_wp2_with fail
        refine (alive_any _).mono ?_
        rintro e w2 ⟨rfl, hb2⟩
        go_wp2_with fail
        go_ret
        exact ⟨rfl, Bt hbw hb2⟩
end Go.Proofs.Ytcnfilakbgoofaa
