/-
  Contracts of the document's own answers for layer 1 that take numbers alone: Right, top, Sign, Fits, Size; and of word.Size.
  Contracts of the document's own answers for layer 1 that work on bytes: Put, Get, Set, Pad.
  Regions that draw their order: what is held may grow on the way.
-/
import Derived.Test.YtaegencmnmjgbaaGreatM1
import Derived.Test.YtaegencmnmjgbaaGreatM2
import Derived.Deep.QuietTactic
import Derived.BigQuiet
import Derived.Deep.RegionHeld3

namespace Go.Proofs.YtaegencmnmjgbaaGreat
open Go.RowKit
set_option linter.unusedVariables false
set_option maxHeartbeats 400000 in
theorem right_any (x : Int) (w : World) :
    Calls Tryz.prog 111 #[.int .i64 x] w fun e w' => e = .returned (.bool (isW x)) ∧ w = w' := by
  by_cases h1 : x = 1
  · subst h1; go_enter Tryz.func111, Tryz.ntmps111; go_wp2; go_ret; exact ⟨rfl, rfl⟩
  have b1 : (x == 1) = false := by simpa using h1
  by_cases h2 : x = 2
  · subst h2; go_enter Tryz.func111, Tryz.ntmps111; go_wp2; go_ret; exact ⟨rfl, rfl⟩
  have b2 : (x == 2) = false := by simpa using h2
  by_cases h4 : x = 4
  · subst h4; go_enter Tryz.func111, Tryz.ntmps111; go_wp2; go_ret; exact ⟨rfl, rfl⟩
  have b4 : (x == 4) = false := by simpa using h4
  by_cases h8 : x = 8
  · subst h8; go_enter Tryz.func111, Tryz.ntmps111; go_wp2; go_ret; exact ⟨rfl, rfl⟩
  have b8 : (x == 8) = false := by simpa using h8
  go_enter Tryz.func111, Tryz.ntmps111; go_wp2; go_ret
  exact ⟨ret_bool (by simp [isW, b1, b2, b4, b8]), rfl⟩
set_option maxHeartbeats 400000 in
theorem top_any (x : Int) (w : World) (hx : 0 ≤ x) (hx8 : x ≤ 8) :
    Calls Tryz.prog 118 #[.int .i64 x] w fun e w' => e = .returned (.int .u64 (pw x - 1)) ∧ w = w' := by
  obtain ⟨m, rfl⟩ := Int.eq_ofNat_of_zero_le hx
  go_enter Tryz.func118, Tryz.ntmps118
  go_wp2
  go_loop [3, 4] (fun n i => ∃ k : Nat, k ≤ m ∧ i = .int .i64 k ∧ n = .int .u64 (pw k - 1)) (fun _ i => m - (intOf i).toNat)
  case atStart => exact ⟨0, by omega, rfl, by simp [pw]⟩
  case round =>
    obtain ⟨k, hk, rfl, rfl⟩ := hrel
    by_cases hlt : k < m
    · go_wp2
      go_round
      case rel => exact ⟨k + 1, by omega, by go_num, by rw [top_step (by omega)]⟩
      case measure => simp [intOf]; omega
    · go_wp2
      go_ret
      obtain rfl : k = m := by omega
      exact ⟨rfl, rfl⟩
theorem top1 (w : World) : Calls Tryz.prog 118 #[.int .i64 1] w fun e w' => e = .returned (.int .u64 255) ∧ w = w' := by
  have h := top_any 1 w (by decide) (by decide); rw [pw1] at h; exact h
theorem top2 (w : World) : Calls Tryz.prog 118 #[.int .i64 2] w fun e w' => e = .returned (.int .u64 65535) ∧ w = w' := by
  have h := top_any 2 w (by decide) (by decide); rw [pw2] at h; exact h
theorem top4 (w : World) : Calls Tryz.prog 118 #[.int .i64 4] w fun e w' => e = .returned (.int .u64 4294967295) ∧ w = w' := by
  have h := top_any 4 w (by decide) (by decide); rw [pw4] at h; exact h
theorem top8 (w : World) : Calls Tryz.prog 118 #[.int .i64 8] w fun e w' => e = .returned (.int .u64 18446744073709551615) ∧ w = w' := by
  have h := top_any 8 w (by decide) (by decide); rw [pw8] at h; exact h
set_option maxHeartbeats 1000000 in
theorem rsign1 (n : Int) (w : World) (hn : U64 n) :
    Calls Tryz.prog 115 #[.int .u64 n, .int .i64 1] w fun e w' => e = .returned (.int .u64 (sgn n 1)) ∧ w = w' := by
  have h0 := hn.1
  have hw : isW 1 = true := rfl
  by_cases hlow : n % 256 ≤ 127
  all_goals
    go_enter Tryz.func115, Tryz.ntmps115
    go_wp2_with (first | (go_at_call 111; refine (right_any _ _).mono ?_; rintro e w' ⟨rfl, rfl⟩) | (go_at_call 118; refine (top1 _).mono ?_; rintro e w' ⟨rfl, rfl⟩))
    go_ret
  · exact ⟨ret_int (by simp [sgn, hw, pw1]; omega), rfl⟩
  · exact ⟨ret_int (by rw [IntKind.wrap_u64, IntKind.wrap_u64]; simp [sgn, hw, pw1, pw8]; omega), rfl⟩
set_option maxHeartbeats 1000000 in
theorem rsign2 (n : Int) (w : World) (hn : U64 n) :
    Calls Tryz.prog 115 #[.int .u64 n, .int .i64 2] w fun e w' => e = .returned (.int .u64 (sgn n 2)) ∧ w = w' := by
  have h0 := hn.1
  have hw : isW 2 = true := rfl
  by_cases hlow : n % 65536 ≤ 32767
  all_goals
    go_enter Tryz.func115, Tryz.ntmps115
    go_wp2_with (first | (go_at_call 111; refine (right_any _ _).mono ?_; rintro e w' ⟨rfl, rfl⟩) | (go_at_call 118; refine (top2 _).mono ?_; rintro e w' ⟨rfl, rfl⟩))
    go_ret
  · exact ⟨ret_int (by simp [sgn, hw, pw2]; omega), rfl⟩
  · exact ⟨ret_int (by rw [IntKind.wrap_u64, IntKind.wrap_u64]; simp [sgn, hw, pw2, pw8]; omega), rfl⟩
set_option maxHeartbeats 1000000 in
theorem rsign4 (n : Int) (w : World) (hn : U64 n) :
    Calls Tryz.prog 115 #[.int .u64 n, .int .i64 4] w fun e w' => e = .returned (.int .u64 (sgn n 4)) ∧ w = w' := by
  have h0 := hn.1
  have hw : isW 4 = true := rfl
  by_cases hlow : n % 4294967296 ≤ 2147483647
  all_goals
    go_enter Tryz.func115, Tryz.ntmps115
    go_wp2_with (first | (go_at_call 111; refine (right_any _ _).mono ?_; rintro e w' ⟨rfl, rfl⟩) | (go_at_call 118; refine (top4 _).mono ?_; rintro e w' ⟨rfl, rfl⟩))
    go_ret
  · exact ⟨ret_int (by simp [sgn, hw, pw4]; omega), rfl⟩
  · exact ⟨ret_int (by rw [IntKind.wrap_u64, IntKind.wrap_u64]; simp [sgn, hw, pw4, pw8]; omega), rfl⟩
set_option maxHeartbeats 1000000 in
theorem rsign8 (n : Int) (w : World) (hn : U64 n) :
    Calls Tryz.prog 115 #[.int .u64 n, .int .i64 8] w fun e w' => e = .returned (.int .u64 (sgn n 8)) ∧ w = w' := by
  have h0 := hn.1
  have hw : isW 8 = true := rfl
  have h1 := hn.2
  by_cases hlow : n ≤ 9223372036854775807
  all_goals
    go_enter Tryz.func115, Tryz.ntmps115
    go_wp2_with (first | (go_at_call 111; refine (right_any _ _).mono ?_; rintro e w' ⟨rfl, rfl⟩) | (go_at_call 118; refine (top8 _).mono ?_; rintro e w' ⟨rfl, rfl⟩))
    go_ret
  · exact ⟨ret_int (sgn8 n hn).symm, rfl⟩
  · exact ⟨ret_int (by rw [sgn8 n hn]; rw [pw8] at h1; rw [IntKind.wrap_u64, IntKind.wrap_u64]; omega), rfl⟩
set_option maxHeartbeats 1000000 in
theorem rsign_any (n x : Int) (w : World) (hn : U64 n) :
    Calls Tryz.prog 115 #[.int .u64 n, .int .i64 x] w fun e w' => e = .returned (.int .u64 (sgn n x)) ∧ w = w' := by
  by_cases hx : isW x = true
  · rcases isW_cases hx with rfl | rfl | rfl | rfl
    · exact rsign1 n w hn
    · exact rsign2 n w hn
    · exact rsign4 n w hn
    · exact rsign8 n w hn
  · have hx' : isW x = false := by simpa using hx
    go_enter Tryz.func115, Tryz.ntmps115
    go_wp2_with (first | (go_at_call 111; refine (right_any _ _).mono ?_; rintro e w' ⟨rfl, rfl⟩))
    go_ret
    exact ⟨ret_int (by simp [sgn, hx']), rfl⟩
set_option maxHeartbeats 1000000 in
theorem rfits_any (n x : Int) (sg : Bool) (w : World) (hn : U64 n) :
    Calls Tryz.prog 146 #[.int .u64 n, .int .i64 x, .bool sg] w fun e w' => e = .returned (.bool (fits n x sg)) ∧ w = w' := by
  have h0 := hn.1
  by_cases hx : isW x = true
  · have hx8 : 0 ≤ x ∧ x ≤ 8 := by rcases isW_cases hx with rfl | rfl | rfl | rfl <;> omega
    cases sg
    · go_enter Tryz.func146, Tryz.ntmps146
      go_wp2_with (first | (go_at_call 111; refine (right_any _ _).mono ?_; rintro e w' ⟨rfl, rfl⟩) | (go_at_call 118; refine (top_any _ _ hx8.1 hx8.2).mono ?_; rintro e w' ⟨rfl, rfl⟩))
      go_ret
      exact ⟨ret_bool (by rw [Bool.eq_iff_iff]; simp [fits, hx]; omega), rfl⟩
    · go_enter Tryz.func146, Tryz.ntmps146
      go_wp2_with (first | (go_at_call 111; refine (right_any _ _).mono ?_; rintro e w' ⟨rfl, rfl⟩) | (go_at_call 115; refine (rsign_any _ _ _ hn).mono ?_; rintro e w' ⟨rfl, rfl⟩))
      go_ret
      exact ⟨ret_bool (by simp [fits, hx]), rfl⟩
  · have hx' : isW x = false := by simpa using hx
    go_enter Tryz.func146, Tryz.ntmps146
    go_wp2_with (first | (go_at_call 111; refine (right_any _ _).mono ?_; rintro e w' ⟨rfl, rfl⟩))
    go_ret
    exact ⟨ret_bool (by simp [fits, hx']), rfl⟩
end Go.Proofs.YtaegencmnmjgbaaGreat

namespace Go.Proofs.YtaegencmnmjgbaaGreat
open Go.RowKit
set_option linter.unusedVariables false
def rputL (nn x : Int) : List UInt8 := if fits nn x false then le nn x.toNat else []
theorem conv1 (W : World) (c : UInt8) : (convert 35 9 (.slice (some ⟨W.heap.size, 0, none⟩) 1 1)).run Tryz.prog (W.alloc (.cells #[bv c] 5)) = .ok (.string ⟨#[c]⟩) (W.alloc (.cells #[bv c] 5)) := by
  obtain ⟨A, cap, hv, hr⟩ := (own_new W [c] 1 rfl (by unfold maxLen; omega)).rd
  cases hv
  exact hr.conv
theorem div_pw (n : Int) (k : Nat) : n / pw k / 256 = n / pw (k + 1 : Nat) := by
  rw [pw_succ, Int.ediv_ediv_of_nonneg (Int.le_of_lt (pw_pos k))]
set_option maxHeartbeats 1000000 in
theorem rput_true (x : Nat) (nn : Int) (w : World) (hn : U64 nn) (hf : fits nn x false = true) (hx : x = 1 ∨ x = 2 ∨ x = 4 ∨ x = 8) :
    Calls Tryz.prog 79 #[.int .i64 x, .int .u64 nn] w fun e w' => e = .returned (.string ⟨(le nn x).toArray⟩) ∧ Below w.heap.size w w' := by
  have hw : isW x = true := by rcases hx with rfl | rfl | rfl | rfl <;> rfl
  have h0 := hn.1
  have hle : nn ≤ pw x - 1 := by simp [fits] at hf; omega
  have hle' : decide (pw x - 1 < nn) = false := by simp; omega
  clear hf
  go_enter Tryz.func79, Tryz.ntmps79
  go_wp2_with fail
  refine (right_any _ _).mono ?_
  rintro e w' ⟨rfl, rfl⟩
  go_wp2_with fail
  refine (top_any _ _ (by omega) (by omega)).mono ?_
  rintro e w' ⟨rfl, rfl⟩
  go_wp2_with fail
  go_loopw [1, 5, 6] (fun n s i wr => ∃ k : Nat, k ≤ x ∧ i = .int .i64 k ∧ s = .string ⟨(le nn k).toArray⟩ ∧ n = .int .u64 (nn / pw k) ∧ Below w.heap.size w wr) (fun _ _ i _ => x - (intOf i).toNat)
  case atStart => exact ⟨0, by omega, rfl, rfl, by simp [pw], B0 _⟩
  case round =>
    obtain ⟨k, hk, rfl, rfl, rfl, hb⟩ := hrel
    by_cases hlt : k < x
    · have hcv := conv1 wr (byteAt nn k)
      rw [bv_byteAt] at hcv
      have hlen : (le nn k).length ≤ 8 := by rw [le_length]; omega
      have hd0 : 0 ≤ nn / pw k := Int.ediv_nonneg h0 (Int.le_of_lt (pw_pos k))
      go_wp2
      refine ⟨⟨k + 1, by omega, by go_num, ?_, ?_, Ba hb _⟩, by simp [intOf]; omega⟩
      · rw [show (⟨#[byteAt nn k]⟩ : ByteArray) = ⟨[byteAt nn k].toArray⟩ from rfl, ByteArray.mk_append_mk]; rfl
      · have hle2 : nn / pw k ≤ nn := Int.ediv_le_self _ h0
        have h2 := hn.2; rw [pw8] at h2
        rw [Int.tdiv_eq_ediv_of_nonneg hd0, ← div_pw, IntKind.wrap_u64, Int.emod_eq_of_lt (by omega) (by omega)]
    · go_wp2
      go_ret
      obtain rfl : k = x := by omega
      exact ⟨rfl, hb⟩
set_option maxHeartbeats 1000000 in
theorem rput_false (x nn : Int) (w : World) (hn : U64 nn) (hf : fits nn x false = false) :
    Calls Tryz.prog 79 #[.int .i64 x, .int .u64 nn] w fun e w' => e = .returned (.string ⟨#[]⟩) ∧ Below w.heap.size w w' := by
  by_cases hx : isW x = true
  · have hx8 := isW_cases hx
    have hle' : decide (pw x - 1 < nn) = true := by simp [fits, hx] at hf; simp; omega
    have hlt : pw x - 1 < nn := by simpa using hle'
    clear hf
    go_enter Tryz.func79, Tryz.ntmps79
    go_wp2_with fail
    refine (right_any _ _).mono ?_
    rintro e w' ⟨rfl, rfl⟩
    go_wp2_with fail
    refine (top_any _ _ (by omega) (by omega)).mono ?_
    rintro e w' ⟨rfl, rfl⟩
    go_wp2_with fail
    go_ret
    exact ⟨rfl, B0 _⟩
  · have hx' : isW x = false := by simpa using hx
    go_enter Tryz.func79, Tryz.ntmps79
    go_wp2_with fail
    refine (right_any _ _).mono ?_
    rintro e w' ⟨rfl, rfl⟩
    go_wp2_with fail
    go_ret
    exact ⟨rfl, B0 _⟩
theorem rput_any (x nn : Int) (w : World) (hn : U64 nn) :
    Calls Tryz.prog 79 #[.int .i64 x, .int .u64 nn] w fun e w' => e = .returned (.string ⟨(rputL nn x).toArray⟩) ∧ Below w.heap.size w w' := by
  cases hf : fits nn x false with
  | true =>
    have hx := fits_w hf
    obtain ⟨k, rfl⟩ := Int.eq_ofNat_of_zero_le (show 0 ≤ x by omega)
    refine (rput_true k nn w hn hf (by omega)).mono ?_
    rintro e w' ⟨rfl, hb⟩
    exact ⟨by simp [rputL, hf], hb⟩
  | false =>
    refine (rput_false x nn w hn hf).mono ?_
    rintro e w' ⟨rfl, hb⟩
    exact ⟨by simp [rputL, hf], hb⟩
end Go.Proofs.YtaegencmnmjgbaaGreat

namespace Go.Proofs.YtaegencmnmjgbaaGreat
open Go.RowKit
set_option linter.unusedVariables false
section
variable {P : Program} {md : Region.Mode} {ops : Array Oper} {Q : Exit → Act → World → Prop} {S S' : World → Prop}
theorem held_weaken (hS : ∀ w, S' w → S w) : ∀ (fuel : Nat) (listed : Array Bool) (a : Act) (w : World), wpAnyH P md ops Q S' fuel listed a w → wpAnyH P md ops Q S fuel listed a w
  | 0, _, _, _, h => h
  | fuel + 1, _, _, _, h => ⟨h.1, fun i hi => wpOp_mono (fun a' w' h' => ⟨hS _ h'.1, held_weaken hS fuel _ a' w' h'.2⟩) (h.2 i hi)⟩
end
def Ext (w w' : World) : Prop := Below w.heap.size w w'
theorem Ext.refl (w : World) : Ext w w := B0 w
theorem Ext.trans {a b c : World} (h : Ext a b) (k : Ext b c) : Ext a c := Bt h k
variable {P : Program} {md : Region.Mode} {ops : Array Oper} {Q : Exit → Act → World → Prop}
theorem reg_begin {id : Nat} {a : Act} {w : World} (hm : P.follows .mixedOrders = true)
    (h : ∀ w0, Ext w w0 → Ext w0 w0 → wpAnyH P .any ops (NoPanic Q) (Ext w0) ops.size (Array.replicate ops.size false) a w0) : (Code.region id ops true).wp P Q a w :=
  wp_region_noPanic <| wp_region_held_drew (S := Ext w.drew) hm (Ext.refl _) (fun _ => h w.drew (Below.drew (B0 w)) (Ext.refl _))
theorem reg_on {w w1 : World} {fuel : Nat} {listed : Array Bool} {a : Act} (h : Ext w w1) (k : Ext w1 w1 → wpAnyH P md ops Q (Ext w1) fuel listed a w1) : wpAnyH P md ops Q (Ext w) fuel listed a w1 :=
  held_weaken (fun _ h' => h.trans h') _ _ _ _ (k (Ext.refl _))
theorem at0 {α : Type} {o : α} {l : List α} : (o :: l).toArray[0]? = some o := rfl
theorem atS {α : Type} {o x : α} {l : List α} {n : Nat} (h : l.toArray[n]? = some x) : (o :: l).toArray[n + 1]? = some x := by simpa using h
theorem atS5 {α : Type} {o1 o2 o3 o4 o5 x : α} {l : List α} {n : Nat} (h : l.toArray[n]? = some x) : (o1 :: o2 :: o3 :: o4 :: o5 :: l).toArray[n + 5]? = some x := by simpa using h
theorem reg_take (i : Nat) {oi : Oper} {v : Value} {fuel : Nat} {listed : Array Bool} {a : Act} {w w1 : World} (hi : ops[i]? = some oi)
    (hs : Region.noSelect ops = true) (hf : Region.free md ops listed i = true) (hr : (Region.ready md ops listed).contains i = true)
    (hy : Region.wanted oi (yielded ops a.tmps) = true) (hv : ∀ w', Ext w1 w' → (execOp a.eval oi).run P w' = .ok (.value v) w') (hS : Ext w1 w)
    (h : wpAnyH P md ops (NoPanic Q) (Ext w1) fuel (listed.setIfInBounds i true) (a.put oi.dst v) w) : wpAnyH P md ops (NoPanic Q) (Ext w1) (fuel + 1) listed a w :=
  wpAnyH_take hi hs hf hr (fun _ _ _ h => h) (Or.inl ⟨hy, hv⟩) hS h
def ExB (B : Nat) (w w' : World) : Prop := Below B w w'
theorem ExB.refl (B : Nat) (w : World) : ExB B w w := Below.refl _ _
theorem ExB.trans {B : Nat} {a b c : World} (h : ExB B a b) (k : ExB B b c) : ExB B a c := Below.trans h k
theorem reg_beginB (B : Nat) {id : Nat} {a : Act} {w : World} (hm : P.follows .mixedOrders = true)
    (h : ∀ w0, Hid (w0.heap = w.heap) → ExB B w w0 → ExB B w0 w0 → wpAnyH P .any ops (NoPanic Q) (ExB B w0) ops.size (Array.replicate ops.size false) a w0) : (Code.region id ops true).wp P Q a w :=
  wp_region_noPanic <| wp_region_held_drew (S := ExB B w.drew) hm (ExB.refl _ _) (fun _ => h w.drew (hid rfl) (Below.drew (Below.refl _ _)) (ExB.refl _ _))
theorem reg_onB {B : Nat} {w w1 : World} {fuel : Nat} {listed : Array Bool} {a : Act} (h : ExB B w w1) (k : ExB B w1 w1 → wpAnyH P md ops Q (ExB B w1) fuel listed a w1) : wpAnyH P md ops Q (ExB B w) fuel listed a w1 :=
  held_weaken (fun _ h' => h.trans h') _ _ _ _ (k (ExB.refl _ _))
theorem reg_takeB (i : Nat) {B : Nat} {oi : Oper} {v : Value} {fuel : Nat} {listed : Array Bool} {a : Act} {w w1 : World} (hi : ops[i]? = some oi)
    (hs : Region.noSelect ops = true) (hf : Region.free md ops listed i = true) (hr : (Region.ready md ops listed).contains i = true)
    (hy : Region.wanted oi (yielded ops a.tmps) = true) (hv : ∀ w', ExB B w1 w' → (execOp a.eval oi).run P w' = .ok (.value v) w') (hS : ExB B w1 w)
    (h : wpAnyH P md ops (NoPanic Q) (ExB B w1) fuel (listed.setIfInBounds i true) (a.put oi.dst v) w) : wpAnyH P md ops (NoPanic Q) (ExB B w1) (fuel + 1) listed a w :=
  wpAnyH_take hi hs hf hr (fun _ _ _ h => h) (Or.inl ⟨hy, hv⟩) hS h
theorem reg_skip {P : Program} {md : Region.Mode} {ops : Array Oper} {Q : Exit → Act → World → Prop} (i : Nat) {oi : Oper} {fuel : Nat} {listed : Array Bool} {a : Act} {w w1 : World} (hi : ops[i]? = some oi)
    (hs : Region.noSelect ops = true) (hf : Region.free md ops listed i = true) (hr : (Region.ready md ops listed).contains i = true)
    (hy : Region.wanted oi (yielded ops a.tmps) = false) (hS : Ext w1 w)
    (h : wpAnyH P md ops (NoPanic Q) (Ext w1) fuel (listed.setIfInBounds i true) (a.put oi.dst undef) w) : wpAnyH P md ops (NoPanic Q) (Ext w1) (fuel + 1) listed a w :=
  wpAnyH_take hi hs hf hr (fun _ _ _ h => h) (Or.inr ⟨hy, rfl⟩) hS h
def ExO (r : Option Nat) (w w' : World) : Prop := w.grownBy w' r
theorem ExO.refl (r : Option Nat) (w : World) : ExO r w w := grown_refl w r
theorem ExO.trans {r : Option Nat} {a b c : World} (h : ExO r a b) (k : ExO r b c) : ExO r a c := World.grownBy.trans h k
section
variable {P : Program} {md : Region.Mode} {ops : Array Oper} {Q : Exit → Act → World → Prop}
theorem reg_beginO (r : Option Nat) {id : Nat} {a : Act} {w : World} (hm : P.follows .mixedOrders = true)
    (h : ∀ w0, Hid (w0.heap = w.heap) → ExO r w w0 → ExO r w0 w0 → wpAnyH P .any ops (NoPanic Q) (ExO r w0) ops.size (Array.replicate ops.size false) a w0) : (Code.region id ops true).wp P Q a w :=
  wp_region_noPanic <| wp_region_held_drew (S := ExO r w.drew) hm (ExO.refl _ _) (fun _ => h w.drew (hid rfl) ⟨rfl, rfl, rfl, Nat.le_refl _, fun _ _ _ => rfl⟩ (ExO.refl _ _))
theorem reg_onO {r : Option Nat} {w w1 : World} {fuel : Nat} {listed : Array Bool} {a : Act} (h : ExO r w w1) (k : ExO r w1 w1 → wpAnyH P md ops Q (ExO r w1) fuel listed a w1) : wpAnyH P md ops Q (ExO r w) fuel listed a w1 :=
  held_weaken (fun _ h' => h.trans h') _ _ _ _ (k (ExO.refl _ _))
theorem reg_takeO (i : Nat) {r : Option Nat} {oi : Oper} {v : Value} {fuel : Nat} {listed : Array Bool} {a : Act} {w w1 : World} (hi : ops[i]? = some oi)
    (hs : Region.noSelect ops = true) (hf : Region.free md ops listed i = true) (hr : (Region.ready md ops listed).contains i = true)
    (hy : Region.wanted oi (yielded ops a.tmps) = true) (hv : ∀ w', ExO r w1 w' → (execOp a.eval oi).run P w' = .ok (.value v) w') (hS : ExO r w1 w)
    (h : wpAnyH P md ops (NoPanic Q) (ExO r w1) fuel (listed.setIfInBounds i true) (a.put oi.dst v) w) : wpAnyH P md ops (NoPanic Q) (ExO r w1) (fuel + 1) listed a w :=
  wpAnyH_take hi hs hf hr (fun _ _ _ h => h) (Or.inl ⟨hy, hv⟩) hS h
end
end Go.Proofs.YtaegencmnmjgbaaGreat
