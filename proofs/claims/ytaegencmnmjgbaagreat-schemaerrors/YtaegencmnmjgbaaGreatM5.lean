/-
  Contracts of the document's Zero, Encode, Decode.
  Contract of the document's Decode (written by tools/kindd.py).
  Whole numbers of 64 bits; slices of them that read as a list.
-/
import Derived.Test.YtaegencmnmjgbaaGreatM4
import Derived.Laws.Rows
import Derived.Laws.ResultCell
import Derived.Test.YtaegencmnmjgbaaGreatM1
import Derived.Deep.QuietTactic
import Derived.BigQuiet

namespace Go.Proofs.YtaegencmnmjgbaaGreat
open Go.RowKit
set_option linter.unusedVariables false
set_option linter.unusedSimpArgs false
section
variable {w w' : World} {b b' B : Nat} {nm t t' : ByteArray} {k g n n' k' : Int}
theorem VB.frozen (h : VB w b k n t) (i : Nat) : w.frozen? ⟨b, i, none⟩ = false := row_frozen h i
theorem VB.setText (h : VB w b k n t) (t' : ByteArray) : VB (w.setCell ⟨b, 2, none⟩ (.string t')) b k n t' := row_set h 2 _
theorem VB.setBits (h : VB w b k n t) (n' : Int) : VB (w.setCell ⟨b, 1, none⟩ (.int .u64 n')) b k n' t := row_set h 1 _
theorem VB.setKind (h : VB w b k n t) (k' : Int) : VB (w.setCell ⟨b, 0, none⟩ (.int .i64 k')) b k' n t := row_set h 0 _
theorem VB.other (h : VB w b k n t) (hne : b ≠ b') (i : Nat) (u : Value) : VB (w.setCell ⟨b', i, none⟩ u) b k n t := (Below.heap_setCell w ⟨b', i, none⟩ u b hne).trans h
theorem FB.other (h : FB w b nm k g) (hne : b ≠ b') (i : Nat) (u : Value) : FB (w.setCell ⟨b', i, none⟩ u) b nm k g := (Below.heap_setCell w ⟨b', i, none⟩ u b hne).trans h
end
theorem run_loadVB {w : World} {b : Nat} {k n : Int} {t : ByteArray} (h : VB w b k n t) : (loadVar 71 ⟨b, 0, none⟩).run Tryz.prog w = .ok (.agg #[.int .i64 k, .int .u64 n, .string t]) w :=
  run_loadVar_row w b 71 71 #[.int .i64 k, .int .u64 n, .string t] (0, 0) _ h Tryz.underlying71 rfl (by kernel_rfl)
theorem ret_VB {fn : Func} {p : Tmp} (hf : fn.results = #[.cell p 71]) {R : Ending → World → Prop} {a : Act} {w : World} {b : Nat} {k n : Int} {t : ByteArray} (hp : a.tmps.getD p undef = .pointer (some ⟨b, 0, none⟩)) (hv : VB w b k n t)
    (hd : a.defers = []) (hR : R (.returned (.agg #[.int .i64 k, .int .u64 n, .string t])) w) : bodyPost Tryz.prog fn R .ret a w :=
  bodyPost_ret_by (results_cell_row hf a.tmps w b 71 _ (0, 0) _ hp hv Tryz.underlying71 rfl (by kernel_rfl)) hd hR
theorem ret_VBe {fn : Func} {p u : Tmp} (hf : fn.results = #[.cell p 71, .tmp u]) {R : Ending → World → Prop} {a : Act} {w : World} {b : Nat} {k n : Int} {t : ByteArray} {x : Value} (hp : a.tmps.getD p undef = .pointer (some ⟨b, 0, none⟩)) (hv : VB w b k n t)
    (hx : a.tmps.getD u undef = x) (hd : a.defers = []) (hR : R (.returned (.tuple #[.agg #[.int .i64 k, .int .u64 n, .string t], x])) w) : bodyPost Tryz.prog fn R .ret a w :=
  bodyPost_ret_by (by rw [results_cell_tmp hf, hp, hx]; simp [asAddr, Result.andThen, run_loadVB hv]) hd hR
def zs (n : Nat) : ByteArray := ⟨(List.replicate n (0 : UInt8)).toArray⟩
theorem zs_size (n : Nat) : (zs n).size = n := by simp [zs, ByteArray.size]
theorem zs_succ (n : Nat) : zs n ++ ⟨#[0]⟩ = zs (n + 1) := by
  unfold zs; rw [show (⟨#[0]⟩ : ByteArray) = ⟨[(0 : UInt8)].toArray⟩ from rfl, ByteArray.mk_append_mk, ← List.replicate_succ']
def zeroK (k g : Int) : Int := if mayF k g then k else 0
def zeroT (k g : Int) : ByteArray := if mayF k g then zs g.toNat else ⟨#[]⟩
set_option maxHeartbeats 2000000 in
theorem rzero_any (nm : ByteArray) (k g : Int) (w : World) :
    Calls Tryz.prog 133 #[.agg #[.string nm, .int .i64 k, .int .i64 g]] w fun e w' => e = .returned (.agg #[.int .i64 (zeroK k g), .int .u64 0, .string (zeroT k g)]) ∧ Below w.heap.size w w' := by
  by_cases hm : mayF k g = true
  · have hg : 0 ≤ g ∧ g ≤ 64 := by
      by_cases h : k = 12
      · subst h; have := may12 hm; omega
      · have := (may_cases hm h).1; omega
    rw [show zeroK k g = k by simp [zeroK, hm], show zeroT k g = zs g.toNat by simp [zeroT, hm]]
    go_enter Tryz.func133, Tryz.ntmps133
    go_wp2_with fail
    go_at_call 113
    refine (rmay_any _ _ _ _).mono ?_
    rintro e w1 ⟨rfl, hb1⟩
    rw [hm]
    have hF := ((fb_new w nm k g).alloc _).on hb1
    obtain ⟨c0, c1, c2⟩ := hF.cells
    go_wp2_with fail
    have hR0 : VB w1 (w.heap.size + 1) 0 0 ⟨#[]⟩ := by
      have h := (vb_new (w.alloc (.cells #[.string nm, .int .i64 k, .int .i64 g] 68)) 0 0 ⟨#[]⟩).on hb1
      rwa [World.size_alloc] at h
    have hbw : Below w.heap.size w w1 := Bt (Ba (B1 _ _) _) hb1
    have hsz : w.heap.size + 1 < w1.heap.size := hR0.lt
    obtain ⟨q, hq⟩ : ∃ q, q = w1.heap.size := ⟨_, rfl⟩
    rw [← hq]
    have HQ : Hid (w.heap.size + 1 < q) := by rw [hq]; exact hsz
    have HV0 : Hid (VB (w1.alloc (.cells #[.int .i64 k, .int .u64 0, .string ⟨#[]⟩] 71)) q k 0 (zs 0)) := by rw [hq]; exact vb_new w1 k 0 ⟨#[]⟩
    have HF0 := hid (hF.alloc (.cells #[.int .i64 k, .int .u64 0, .string ⟨#[]⟩] 71))
    have HR0 := hid (hR0.alloc (.cells #[.int .i64 k, .int .u64 0, .string ⟨#[]⟩] 71))
    have HB0 : Hid (Below w.heap.size w (w1.alloc (.cells #[.int .i64 k, .int .u64 0, .string ⟨#[]⟩] 71))) := Ba hbw _
    clear hq hsz hbw hR0 hF c0 c1 c2 hb1
    go_loopw [4] (fun i wr => ∃ (j : Nat), (j : Int) ≤ g ∧ i = .int .i64 j ∧ Hid (VB wr q k 0 (zs j)) ∧ Hid (FB wr w.heap.size nm k g) ∧ Hid (VB wr (w.heap.size + 1) 0 0 ⟨#[]⟩) ∧ Hid (Below w.heap.size w wr)) (fun i _ => g.toNat - (intOf i).toNat)
    case atStart => exact ⟨0, by omega, rfl, HV0, HF0, HR0, HB0⟩
    case round =>
      obtain ⟨j, hj, rfl, HV, HF, HR, HB⟩ := hrel
      obtain ⟨c0, c1, c2⟩ := HF.out.cells
      obtain ⟨d0, d1, d2⟩ := HV.out.cells
      have f2 := HV.out.frozen 2
      have hzl := zs_size j
      by_cases hlt : (j : Int) < g
      · go_wp2_with fail
        go_roundw
        case rel => 
          have hne1 : w.heap.size ≠ q := by have := HQ.out; omega
          have hne2 : w.heap.size + 1 ≠ q := by have := HQ.out; omega
          exact ⟨j + 1, by omega, by simp, hid (by have h := HV.out.setText (zs j ++ ⟨#[0]⟩); rw [zs_succ] at h; rw [← zs_succ]; exact HV.out.setText _), hid (HF.out.other hne1 _ _), hid (HR.out.other hne2 _ _), hid (HB.out.setCell (by have := HQ.out; simp; omega) _)⟩
        case measure => simp [intOf]; omega
      · have hjg : g.toNat = j := by omega
        rw [hjg]
        obtain ⟨r0, r1, r2⟩ := HR.out.cells
        have g0 := HR.out.frozen 0
        have g1 := HR.out.frozen 1
        have g2 := HR.out.frozen 2
        go_wp2_with fail
        refine ret_VB (by rfl) (by rfl) (((HR.out.setKind k).setBits 0).setText (zs j)) (by rfl) ⟨rfl, ?_⟩
        exact ((HB.out.setCell (by simp) _).setCell (by simp) _).setCell (by simp) _
  · have hm : mayF k g = false := by simpa using hm
    rw [show zeroK k g = 0 by simp [zeroK, hm], show zeroT k g = ⟨#[]⟩ by simp [zeroT, hm]]
    go_enter Tryz.func133, Tryz.ntmps133
    go_wp2_with fail
    go_at_call 113
    refine (rmay_any _ _ _ _).mono ?_
    rintro e w1 ⟨rfl, hb1⟩
    rw [hm]
    have hR0 : VB w1 (w.heap.size + 1) 0 0 ⟨#[]⟩ := by
      have h := (vb_new (w.alloc (.cells #[.string nm, .int .i64 k, .int .i64 g] 68)) 0 0 ⟨#[]⟩).on hb1
      rwa [World.size_alloc] at h
    obtain ⟨r0, r1, r2⟩ := hR0.cells
    have g0 := hR0.frozen 0
    have g1 := hR0.frozen 1
    have g2 := hR0.frozen 2
    have hbw : Below w.heap.size w w1 := Bt (Ba (B1 _ _) _) hb1
    go_wp2_with fail
    refine ret_VB (by rfl) (by rfl) (((hR0.setKind 0).setBits 0).setText ⟨#[]⟩) (by rfl) ⟨rfl, ?_⟩
    exact ((hbw.setCell (by simp) _).setCell (by simp) _).setCell (by simp) _
theorem ext_at (X : List UInt8) (i j : Nat) : (⟨X.toArray⟩ : ByteArray).extract i j = ⟨((X.take j).drop i).toArray⟩ := by
  rw [ByteArray.extract_mk]
  simp [List.drop_take]
theorem longF_le8 {k : Int} (g : Int) (h12 : k ≠ 12) : longF k g ≤ 8 := by
  unfold longF; rw [if_neg h12]; unfold sizeOfKind; repeat' split
  all_goals omega
def encL (n : Int) (t : ByteArray) (k g : Int) : ByteArray := if k = 12 then t else ⟨((le n 8).take (longF k g).toNat).toArray⟩
def encT (vk n : Int) (t : ByteArray) (k g : Int) : ByteArray := if rightF vk n t.size k g then encL n t k g else ⟨#[]⟩
def encE (vk n : Int) (t : ByteArray) (k g : Int) : Int := if rightF vk n t.size k g then 0 else 50
set_option maxHeartbeats 2000000 in
theorem rencode_any (vk n : Int) (t nm : ByteArray) (k g : Int) (w : World) (hn : U64 n) :
    Calls Tryz.prog 81 #[.agg #[.int .i64 vk, .int .u64 n, .string t], .agg #[.string nm, .int .i64 k, .int .i64 g]] w fun e w' => e = .returned (.tuple #[.string (encT vk n t k g), .int .i64 (encE vk n t k g)]) ∧ Below w.heap.size w w' := by
  by_cases hr : rightF vk n t.size k g = true
  · rw [show encE vk n t k g = 0 by simp [encE, hr], show encT vk n t k g = encL n t k g by simp [encT, hr]]
    by_cases h12 : k = 12
    · subst h12
      rw [show encL n t 12 g = t by simp [encL]]
      go_enter Tryz.func81, Tryz.ntmps81
      go_wp2_with fail
      go_at_call 116
      refine (rright_any _ _ _ _ _ _ _ hn).mono ?_
      rintro e w1 ⟨rfl, hb1⟩
      rw [hr]
      obtain ⟨c0, c1, c2⟩ := ((fb_new2 w _ nm 12 g).on hb1).cells
      obtain ⟨d0, d1, d2⟩ := (((vb_new w vk n t).alloc _).on hb1).cells
      go_wp2_with fail
      go_ret2
      exact ⟨rfl, Bt (Ba (B1 _ _) _) hb1⟩
    · have b12 : (k == 12) = false := by simpa using h12
      rw [show encL n t k g = ⟨((le n 8).take (longF k g).toNat).toArray⟩ by simp [encL, h12]]
      obtain ⟨m, hm⟩ := Int.eq_ofNat_of_zero_le (longF_nonneg k g)
      have hm8 : m ≤ 8 := by
        have := longF_le8 g h12
        omega
      have hmi : (m : Int) ≤ 8 := by omega
      have hpl : rputL n 8 = le n 8 := by
        have : fits n 8 false = true := by have h1 := hn.1; have h2 := hn.2; simp [fits, isW]; exact h2
        simp [rputL, this]
      have hxe : (⟨(le n 8).toArray⟩ : ByteArray).extract 0 m = ⟨((le n 8).take m).toArray⟩ := by rw [ext_at]; simp
      have hlen : (le n 8).length = 8 := le_length _ _
      rw [hm, Int.toNat_natCast]
      have HM := hid hm
      go_enter Tryz.func81, Tryz.ntmps81
      go_wp2_with fail
      go_at_call 116
      refine (rright_any _ _ _ _ _ _ _ hn).mono ?_
      rintro e w1 ⟨rfl, hb1⟩
      rw [hr]
      have hF := (fb_new2 w (.cells #[.int .i64 vk, .int .u64 n, .string t] 71) nm k g).on hb1
      have hV := ((vb_new w vk n t).alloc (.cells #[.string nm, .int .i64 k, .int .i64 g] 68)).on hb1
      obtain ⟨c0, c1, c2⟩ := hF.cells
      obtain ⟨d0, d1, d2⟩ := hV.cells
      clear hm
      go_wp2_with fail
      refine reg_begin (by kernel_rfl) (fun w0r hx0r hHeld => ?_)
      have hF0 := hF.on hx0r
      have hV0 := hV.on hx0r
      have q0 : ∀ w', Ext w0r w' → w'.cell? ⟨w.heap.size + 1, 0, none⟩ = some (.string nm) := fun w' h => (hF0.on h).cells.1
      have q1 : ∀ w', Ext w0r w' → w'.cell? ⟨w.heap.size + 1, 1, none⟩ = some (.int .i64 k) := fun w' h => (hF0.on h).cells.2.1
      have q2 : ∀ w', Ext w0r w' → w'.cell? ⟨w.heap.size + 1, 2, none⟩ = some (.int .i64 g) := fun w' h => (hF0.on h).cells.2.2
      have p1 : ∀ w', Ext w0r w' → w'.cell? ⟨w.heap.size, 1, none⟩ = some (.int .u64 n) := fun w' h => (hV0.on h).cells.2.1
      refine reg_take 0 (v := ?vb0) at0 (by kernel_rfl) (by kernel_rfl) (by kernel_rfl) (by rfl) ?hyb0 hHeld ?restb0
      case hyb0 => (intro w' hSw; go_simp; try with_reducible rfl)
      try simp only [Act.put, List.setIfInBounds_toArray, List.set_cons_zero, List.set_cons_succ]
      refine reg_take 1 (v := ?vb1) (atS at0) (by kernel_rfl) (by kernel_rfl) (by kernel_rfl) (by rfl) ?hyb1 hHeld ?restb1
      case hyb1 => (intro w' hSw; go_simp; try with_reducible rfl)
      try simp only [Act.put, List.setIfInBounds_toArray, List.set_cons_zero, List.set_cons_succ]
      refine reg_take 3 (v := ?vb3) (atS (atS (atS at0))) (by kernel_rfl) (by kernel_rfl) (by kernel_rfl) (by rfl) ?hyb3 hHeld ?restb3
      case hyb3 => (intro w' hSw; go_simp; try with_reducible rfl)
      try simp only [Act.put, List.setIfInBounds_toArray, List.set_cons_zero, List.set_cons_succ]
      refine wpAnyH_ready (rs := [2]) (by kernel_rfl) (by simp) ?_
      refine AllReadyH.cons (atS (atS at0)) (fun K hK => ?_) AllReadyH.nil
      go_simp
      go_at_call 79
      refine (rput_any _ _ _ hn).mono ?_
      rintro e w2 ⟨rfl, hb2⟩
      rw [hpl]
      go_wp2_with fail
      refine hK.out _ _ hb2 (fun hHeld => ?_)
      clear hK K
      try simp only [Act.put, List.setIfInBounds_toArray, List.set_cons_zero, List.set_cons_succ]
      refine reg_on hb2 (fun hHeld => ?_)
      refine wpAnyH_ready (rs := [4]) (by kernel_rfl) (by simp) ?_
      refine AllReadyH.cons (atS (atS (atS (atS at0)))) (fun K hK => ?_) AllReadyH.nil
      go_simp
      go_at_call 76
      refine (rlong_any _ _ _ _).mono ?_
      rintro e w3 ⟨rfl, hb3⟩
      rw [HM.out]
      go_wp2_with fail
      refine hK.out _ _ hb3 (fun hHeld => ?_)
      clear hK K
      try simp only [Act.put, List.setIfInBounds_toArray, List.set_cons_zero, List.set_cons_succ]
      refine reg_on hb3 (fun hHeld => ?_)
      refine reg_take 5 (v := ?vb5) (atS5 at0) (by kernel_rfl) (by kernel_rfl) (by kernel_rfl) (by rfl) ?hyb5 hHeld ?restb5
      case hyb5 => (intro w' hSw; go_simp; try with_reducible rfl)
      try simp only [Act.put, List.setIfInBounds_toArray, List.set_cons_zero, List.set_cons_succ]
      refine reg_take 6 (v := ?vb6) (atS5 (atS at0)) (by kernel_rfl) (by kernel_rfl) (by kernel_rfl) (by rfl) ?hyb6 hHeld ?restb6
      case hyb6 => (intro w' hSw; go_simp; try with_reducible rfl)
      try simp only [Act.put, List.setIfInBounds_toArray, List.set_cons_zero, List.set_cons_succ]
      refine reg_take 7 (v := ?vb7) (atS5 (atS (atS at0))) (by kernel_rfl) (by kernel_rfl) (by kernel_rfl) (by rfl) ?hyb7 hHeld ?restb7
      case hyb7 => (intro w' hSw; go_simp; try with_reducible rfl)
      try simp only [Act.put, List.setIfInBounds_toArray, List.set_cons_zero, List.set_cons_succ]
      refine wpAnyH_done (by kernel_rfl) ?_ _
      refine NoPanic.normal ?_
      clear q0 q1 q2 p1
      go_wp2_with fail
      go_ret2
      exact ⟨rfl, Bt (Bt (Bt (Bt (Ba (B1 _ _) _) hb1) hx0r) hb2) hb3⟩
  · have hr : rightF vk n t.size k g = false := by simpa using hr
    rw [show encE vk n t k g = 50 by simp [encE, hr], show encT vk n t k g = ⟨#[]⟩ by simp [encT, hr]]
    go_enter Tryz.func81, Tryz.ntmps81
    go_wp2_with fail
    go_at_call 116
    refine (rright_any _ _ _ _ _ _ _ hn).mono ?_
    rintro e w1 ⟨rfl, hb1⟩
    rw [hr]
    go_wp2_with fail
    go_ret2
    exact ⟨rfl, Bt (Ba (B1 _ _) _) hb1⟩
end Go.Proofs.YtaegencmnmjgbaaGreat

namespace Go.Proofs.YtaegencmnmjgbaaGreat
open Go.RowKit
set_option linter.unusedVariables false
set_option linter.unusedSimpArgs false
def decN (k : Int) (l : List UInt8) : Int := if k = 12 then 0 else if 4 < k ∧ k < 9 then sgn (getN l 0 l.length) l.length else getN l 0 l.length
def decT (k : Int) (l : List UInt8) : ByteArray := if k = 12 then ⟨l.toArray⟩ else ⟨#[]⟩
def decB (l : List UInt8) (k g : Int) : Bool := rightF k (decN k l) (decT k l).size k g && decide ((encT k (decN k l) (decT k l) k g).toList = l)
def decR (l : List UInt8) (k g : Int) : Value := if decB l k g then .tuple #[.agg #[.int .i64 k, .int .u64 (decN k l), .string (decT k l)], .int .i64 0] else .tuple #[.agg #[.int .i64 0, .int .u64 0, .string ⟨#[]⟩], .int .i64 50]
theorem decR_ok {l : List UInt8} {k g : Int} (h : decB l k g = true) : decR l k g = .tuple #[.agg #[.int .i64 k, .int .u64 (decN k l), .string (decT k l)], .int .i64 0] := by simp [decR, h]
theorem decR_no {l : List UInt8} {k g : Int} (h : decB l k g = false) : decR l k g = .tuple #[.agg #[.int .i64 0, .int .u64 0, .string ⟨#[]⟩], .int .i64 50] := by simp [decR, h]
theorem getN_U64 (l : List UInt8) (a x : Int) : U64 (getN l a x) := by
  unfold getN; split
  · rename_i h
    have hw0 : isW x = true := by
      unfold holdsB at h
      rw [Bool.and_eq_true, Bool.and_eq_true] at h
      exact h.1.1
    have hw := isW_cases hw0
    have hb := num_bounds ((l.drop a.toNat).take x.toNat)
    have hle : ((l.drop a.toNat).take x.toNat).length ≤ 8 := by rw [List.length_take]; omega
    refine ⟨hb.1, Int.lt_of_lt_of_le hb.2 ?_⟩
    rw [pw8]
    have h8 : ∀ m : Nat, m ≤ 8 → pw (m : Int) ≤ 18446744073709551616 := by
      intro m hm
      have : m = 0 ∨ m = 1 ∨ m = 2 ∨ m = 3 ∨ m = 4 ∨ m = 5 ∨ m = 6 ∨ m = 7 ∨ m = 8 := by omega
      rcases this with rfl | rfl | rfl | rfl | rfl | rfl | rfl | rfl | rfl <;> decide
    exact h8 _ hle
  · exact ⟨by decide, by rw [pw8]; decide⟩
theorem decN_U64 (k : Int) (l : List UInt8) : U64 (decN k l) := by
  unfold decN; split
  · exact ⟨by decide, by rw [pw8]; decide⟩
  · split
    · exact sgn_U64 _ _ (getN_U64 _ _ _)
    · exact getN_U64 _ _ _
theorem vb_new2 (w : World) (o : Obj) (k n : Int) (t : ByteArray) : VB ((w.alloc o).alloc (.cells #[.int .i64 k, .int .u64 n, .string t] 71)) (w.heap.size + 1) k n t := by
  have h := vb_new (w.alloc o) k n t
  rwa [World.size_alloc] at h
theorem vb_new3 (w : World) (o o' : Obj) (k n : Int) (t : ByteArray) : VB (((w.alloc o).alloc o').alloc (.cells #[.int .i64 k, .int .u64 n, .string t] 71)) (w.heap.size + 1 + 1) k n t := by
  have h := vb_new2 (w.alloc o) o' k n t
  rwa [World.size_alloc] at h
end Go.Proofs.YtaegencmnmjgbaaGreat

namespace Go.Proofs.YtaegencmnmjgbaaGreat
open Go.RowKit
set_option linter.unusedVariables false
def I64 (k : Int) : Prop := (Lit.int .i64 k).wf = true
theorem i64_iff {k : Int} : I64 k ↔ -9223372036854775808 ≤ k ∧ k ≤ 9223372036854775807 := by
  simp [I64, Lit.wf, IntKind.min, IntKind.max, IntKind.bits, IntKind.signed]
def RdI (w : World) (B : Nat) (A : Option Addr) (n cap : Nat) (l : List Int) : Prop :=
  l.length = n ∧ n ≤ cap ∧ cap ≤ maxLen ∧ (∀ x ∈ l, I64 x) ∧
    (0 < n → ∃ b off, A = some ⟨b, off, none⟩ ∧ b < B ∧ ∀ i (h : i < l.length), w.cell? ⟨b, off + i, none⟩ = some (.int .i64 l[i]))
section
variable {w w' : World} {B B' n cap : Nat} {A : Option Addr} {l : List Int}
theorem RdI.below (h : RdI w B A n cap l) (hb : Below B w w') : RdI w' B A n cap l :=
  ⟨h.1, h.2.1, h.2.2.1, h.2.2.2.1, fun hn => by
    obtain ⟨b, off, e, hlt, hc⟩ := h.2.2.2.2 hn
    exact ⟨b, off, e, hlt, fun i hi => (hb.cell (p := ⟨b, off + i, none⟩) hlt).trans (hc i hi)⟩⟩
theorem RdI.more (h : RdI w B A n cap l) (hB : B ≤ B') : RdI w B' A n cap l :=
  ⟨h.1, h.2.1, h.2.2.1, h.2.2.2.1, fun hn => by
    obtain ⟨b, off, e, hlt, hc⟩ := h.2.2.2.2 hn
    exact ⟨b, off, e, by omega, hc⟩⟩
theorem RdI.on (h : RdI w w.heap.size A n cap l) (hb : Below w.heap.size w w') : RdI w' w'.heap.size A n cap l := (h.below hb).more hb.size
theorem RdI.nil (w : World) (B : Nat) : RdI w B none 0 0 [] := ⟨rfl, by omega, by simp [maxLen], by simp, fun h => by omega⟩
end
end Go.Proofs.YtaegencmnmjgbaaGreat
