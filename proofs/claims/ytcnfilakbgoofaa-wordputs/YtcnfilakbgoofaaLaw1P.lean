/-
  The walk of WordPuts.
-/
import Derived.Test.YtcnfilakbgoofaaLaw1A
import Derived.Test.YtcnfilakbgoofaaRefC
namespace Go.Proofs.Ytcnfilakbgoofaa
open Go.RowKit
set_option linter.unusedVariables false

set_option maxHeartbeats 1000000 in
theorem walk_WordPuts (A : Option Addr) (n cap : Nat) (l : List UInt8) (at_ x nn : Int) (w : World) (h : Rd w w.heap.size A n cap l) (w1 : (Lit.int .i64 at_).wf = true) (w2 : (Lit.int .i64 x).wf = true) (w3 : (Lit.int .u64 nn).wf = true) :
    Calls Try.prog 3 #[.slice A n cap, .agg #[.int .i64 at_, .int .i64 x], .int .u64 nn] w fun e w' => e = .returned (.bool true) ∧ Below w.heap.size w w' := by
  have hn := U64.of_wf w3
  clear w1 w2 w3
  by_cases hbig : 20000 < n
  · have hb' : decide ((20000 : Int) < n) = true := by simp; omega
    go_enter Try.func3, Try.ntmps3
    go_wp2_with fail
    go_quiet (fail)
    go_wp2_with fail
    refine (alive_any _).mono ?_
    rintro e w2 ⟨rfl, hb2⟩
    go_wp2_with fail
    go_ret
    exact ⟨rfl, Bt (Bd (B1 _ _) _) hb2⟩
  · have hb' : decide ((20000 : Int) < n) = false := by simp; omega
    have HL := hid h.1
    have H := hid h; clear h
    go_enter Try.func3, Try.ntmps3
    go_wp2_with fail
    go_quiet (fail)
    obtain ⟨w0, hw0⟩ : ∃ w0, w0 = (w.alloc (Obj.cells #[.int .i64 at_, .int .i64 x] 24)).drewN nq := ⟨_, rfl⟩
    have hb0 : Below w.heap.size w w0 := by rw [hw0]; exact Bd (B1 _ _) _
    rw [← hw0]
    clear hw0
    have H0 := hid (H.out.on hb0)
    go_wp2_with (at_builtin; refine wpList_append8 rfl (.tmp 25) (.tmp 26) rfl rfl (own_new w0 [] 0 rfl (by unfold maxLen; omega)) rfl (H0.out.on (B1 _ _)) (by simp) (by simp; omega) ?_; intro v' w' how hgr hnil)
    have hb1 : Below w0.heap.size w0 w' := (B1 w0 (Obj.cells #[] 5)).grown (show (w0.alloc (Obj.cells #[] 5)).grownBy w' (some w0.heap.size) from hgr) (by simp) (fun k hk => by cases hk; exact Nat.le_refl _)
    obtain ⟨A1, c1, hv1, hr1⟩ := how.rd
    rw [hv1]
    have HR1 := hid hr1
    have hlen : ([] ++ l).length = n := by simpa using HL.out
    rw [hlen] at hr1 ⊢
    replace hr1 : Rd w' w'.heap.size A1 n c1 l := hr1
    replace HR1 := hid hr1
    clear hr1 hv1 how hgr hnil hlen
    have hbA := Bt hb0 hb1
    clear hb0 hb1
    go_wp2_with fail
    refine (put_any A1 n c1 l x nn _ HR1.out (by omega) hn).mono ?_
    rintro e w2 ⟨v2, rfl, ho2, hb2⟩
    go_wp2_with fail
    refine (rput_any x nn _ hn).mono ?_
    rintro e w3 ⟨rfl, hb3⟩
    have hbB := Bt (Bt hbA hb2) hb3
    have HO2 := hid (ho2.grown hb3)
    clear ho2 hb2 hb3 hbA HR1
    go_wp2_with fail
    refine (set_any A n cap l at_ x nn _ (H.out.on hbB) (by omega) hn).mono ?_
    rintro e w4 ⟨v4, rfl, ho4, hb4⟩
    have hbC := Bt hbB hb4
    have HO2 := hid (HO2.out.grown hb4)
    have HO4 := hid ho4
    clear ho4 hb4 hbB
    have hcv := (H.out.on hbC).conv
    go_wp2_with fail
    refine (rset_any l at_ x nn _ (by have := HL.out; omega) hn).mono ?_
    rintro e w5 ⟨rfl, hb5⟩
    rw [HL.out]
    have hbD := Bt hbC hb5
    have HO2 := hid (HO2.out.grown hb5)
    have HO4 := hid (HO4.out.grown hb5)
    clear hcv hbC hb5
    go_wp2_with fail
    refine (alive_any _).mono ?_
    rintro e w6 ⟨rfl, hb6⟩
    have hfin := Bt hbD hb6
    have hcv := (H.out.on hfin).conv
    obtain ⟨A7, c7, hv7, hr7⟩ := (HO2.out.grown hb6).rd
    have hcv7 := hr7.conv
    rw [← hv7] at hcv7
    obtain ⟨A8, c8, hv8, hr8⟩ := (HO4.out.grown hb6).rd
    have hcv8 := hr8.conv
    rw [← hv8] at hcv8
    have hp : putL l nn x = l ++ rputL nn x := by unfold putL rputL; split <;> simp
    rw [hp] at hcv7
    have hq : ((rputL nn x).isEmpty) = !(fits nn x false) := by
      unfold rputL
      cases hf : fits nn x false with
      | true => simp only [if_true]; rw [le_ne nn _ (by have := fits_w hf; omega)]; rfl
      | false => rfl
    have hlr : (rputL nn x).length ≤ 8 := by
      unfold rputL
      cases hf : fits nn x false with
      | true => simp only [if_true]; rw [le_length]; have := fits_w hf; omega
      | false => simp
    have hll : l.length ≤ 20000 := by have := HL.out; omega
    obtain ⟨X, hX⟩ : ∃ X, X = rputL nn x := ⟨_, rfl⟩
    rw [← hX] at hcv7 hq hlr ⊢
    clear hv7 hr7 hv8 hr8 hp hX
    have hcat : ((⟨l.toArray⟩ : ByteArray) ++ ⟨X.toArray⟩).toList = l ++ X := by rw [ByteArray.mk_append_mk]; simp
    go_wp2_with fail
    go_ret
    exact ⟨rfl, hfin⟩
end Go.Proofs.Ytcnfilakbgoofaa
