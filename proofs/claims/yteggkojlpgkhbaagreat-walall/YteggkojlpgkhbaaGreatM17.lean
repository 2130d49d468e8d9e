/-
  wal: what a recovery leaves is left by another one: mathematics.
  pmem: a device of no bytes at all (nil): its calls.
-/
import Derived.Test.YteggkojlpgkhbaaGreatM16

namespace Go.Proofs.YteggkojlpgkhbaaGreat
open Go.RowKit Go.Maps Go.Shelf
set_option linter.unusedVariables false

theorem bring_get : ∀ {xs : List (Int × Int)} {S : List UInt8} {i : Nat}, okX S.length xs → (∀ x ∈ xs, ¬ (x.1 * 8 ≤ i ∧ (i : Int) < x.1 * 8 + 8)) → (bringL S xs)[i]? = S[i]? := by
  intro xs
  induction xs with
  | nil => intro S i _ _; rfl
  | cons x xs ih =>
    intro S i hok hx
    have h1 := hok x (by simp)
    have hl : (setL S (x.1 * 8).toNat (le x.2 8)).length = S.length := setL_length _ _ _ (by rw [le_length]; omega)
    show (bringL (setL S (x.1 * 8).toNat (le x.2 8)) xs)[i]? = _
    rw [ih (fun y hy => by rw [hl]; exact hok y (by simp [hy])) (fun y hy => hx y (by simp [hy])), setL_get _ _ _ (by rw [le_length]; omega), if_neg]
    have := hx x (by simp)
    rw [le_length]; omega
/-- Is byte i one of the words of sets? -/
def inX (xs : List (Int × Int)) (i : Nat) : Prop := ∃ x ∈ xs, x.1 * 8 ≤ i ∧ (i : Int) < x.1 * 8 + 8
theorem bring_same : ∀ {xs : List (Int × Int)} {S S' : List UInt8}, S.length = S'.length → okX S.length xs → (∀ i : Nat, ¬ inX xs i → S[i]? = S'[i]?) → bringL S xs = bringL S' xs := by
  intro xs
  induction xs with
  | nil =>
    intro S S' _ _ h
    exact List.ext_getElem? fun i => h i (fun ⟨x, hx, _⟩ => by cases hx)
  | cons x xs ih =>
    intro S S' hl hok h
    have hx := hok x (by simp)
    have l1 : (setL S (x.1 * 8).toNat (le x.2 8)).length = S.length := setL_length _ _ _ (by rw [le_length]; omega)
    have l2 : (setL S' (x.1 * 8).toNat (le x.2 8)).length = S'.length := setL_length _ _ _ (by rw [le_length]; omega)
    refine ih (S := setL S (x.1 * 8).toNat (le x.2 8)) (S' := setL S' (x.1 * 8).toNat (le x.2 8)) (by omega) (fun y hy => by rw [l1]; exact hok y (by simp [hy])) fun i hi => ?_
    rw [setL_get _ _ _ (by rw [le_length]; omega), setL_get _ _ _ (by rw [le_length]; omega)]
    by_cases c : (x.1 * 8).toNat ≤ i ∧ i < (x.1 * 8).toNat + (le x.2 8).length
    · rw [if_pos c, if_pos c]
    · rw [if_neg c, if_neg c]
      refine h i fun ⟨y, hy, hc⟩ => ?_
      rcases List.mem_cons.1 hy with rfl | hy
      · rw [le_length] at c; omega
      · exact hi ⟨y, hy, hc⟩
theorem bring_out {xs : List (Int × Int)} {S : List UInt8} (hok : okX S.length xs) {i : Nat} (h : ¬ inX xs i) : (bringL S xs)[i]? = S[i]? := bring_get hok (fun x hx hc => h ⟨x, hx, hc⟩)
theorem bring_idem {xs : List (Int × Int)} {S : List UInt8} (hok : okX S.length xs) : bringL (bringL S xs) xs = bringL S xs :=
  bring_same (by rw [bringL_length hok]) (by rw [bringL_length hok]; exact hok) (fun i hi => bring_out hok hi)

theorem runS_bring : ∀ (xs : List (Int × Int)) (D : DS), (runS D (bringS xs)).S = bringL D.S xs := by
  have key : ∀ (xs : List (Int × Int)) (D : DS), (runS D (bringP xs)).S = bringL D.S xs := by
    intro xs
    induction xs with
    | nil => intro D; rfl
    | cons x xs ih =>
      intro D
      show (runS ((Stp.fl x.1 1).on ((Stp.wr x.1 (le x.2 8)).on D)) (bringP xs)).S = _
      rw [ih]; rfl
  intro xs D
  unfold bringS
  rw [runS_snoc]
  exact key xs D
theorem recB_get {S : List UInt8} {a m : Nat} {j : Nat} (hj : j < m * 8) : (recB S a m)[j]? = S[a * 8 + j]? := by
  unfold recB
  rw [List.getElem?_take_of_lt (by omega), List.getElem?_drop, show ((a : Int) * 8).toNat = a * 8 by omega]
theorem recB_bring {S : List UInt8} {n at_ words : Int} (hn : n = (S.length : Int) / 8) (he : rgE n at_ words = 0) {xs : List (Int × Int)} (h : xs.all (mayB n at_ words) = true) : recB (bringL S xs) at_ words = recB S at_ words := by
  obtain ⟨h0, h1, h2⟩ := rgE_ok he
  obtain ⟨a, rfl⟩ : ∃ a : Nat, (a : Int) = at_ := ⟨at_.toNat, by omega⟩
  obtain ⟨m, rfl⟩ : ∃ m : Nat, (m : Int) = words := ⟨words.toNat, by omega⟩
  have hok : okX S.length xs := may_ok hn h
  have hl : ∀ T : List UInt8, T.length = S.length → (recB T a m).length = m * 8 := fun T hT => by unfold recB; simp; omega
  refine List.ext_getElem? fun j => ?_
  by_cases hj : j < m * 8
  · rw [recB_get hj, recB_get hj]
    refine bring_out hok fun ⟨x, hx, hc⟩ => ?_
    have := List.all_eq_true.1 h x hx
    unfold mayB at this
    simp at this
    omega
  · rw [List.getElem?_eq_none (by rw [hl _ (bringL_length hok)]; omega), List.getElem?_eq_none (by rw [hl _ rfl]; omega)]
theorem recOk_all {n at_ words : Int} {b : List UInt8} (h : recOk n at_ words b = true) : (setsL (recY b)).all (mayB n at_ words) = true := by
  unfold recOk at h
  simp only [Bool.and_eq_true] at h
  exact h.2
/-- A device behind a recovery. -/
def revD (n at_ words : Int) (D : DS) : DS := if recOk n at_ words (recB D.S at_ words) = true then runS D (bringS (setsL (recY (recB D.S at_ words)))) else D
theorem revD_pos {n at_ words : Int} {D : DS} (h : recOk n at_ words (recB D.S at_ words) = true) : revD n at_ words D = runS D (bringS (setsL (recY (recB D.S at_ words)))) := by unfold revD; rw [if_pos h]
theorem rev_len {n at_ words : Int} {D : DS} (hn : n = (D.S.length : Int) / 8) : (revD n at_ words D).S.length = D.S.length := by
  unfold revD
  split
  · rename_i h
    rw [runS_bring, bringL_length (may_ok hn (recOk_all h))]
  · rfl
theorem rev_again {n at_ words : Int} {D : DS} (hn : n = (D.S.length : Int) / 8) (he : rgE n at_ words = 0) :
    recB (revD n at_ words D).S at_ words = recB D.S at_ words ∧ (revD n at_ words (revD n at_ words D)).S = (revD n at_ words D).S ∧ seqOf n at_ words (revD n at_ words D).S = seqOf n at_ words D.S := by
  have h1 : recB (revD n at_ words D).S at_ words = recB D.S at_ words := by
    unfold revD
    split
    · rename_i h
      rw [runS_bring]; exact recB_bring hn he (recOk_all h)
    · rfl
  refine ⟨h1, ?_, by unfold seqOf; rw [h1]⟩
  by_cases h : recOk n at_ words (recB D.S at_ words) = true
  · have e1 : revD n at_ words D = runS D (bringS (setsL (recY (recB D.S at_ words)))) := by unfold revD; rw [if_pos h]
    have e2 : revD n at_ words (revD n at_ words D) = runS (revD n at_ words D) (bringS (setsL (recY (recB D.S at_ words)))) := by
      have h3 : recOk n at_ words (recB (revD n at_ words D).S at_ words) = true := by rw [h1]; exact h
      have h4 := revD_pos h3
      rw [h1] at h4
      exact h4
    rw [e2, runS_bring, e1, runS_bring]
    exact bring_idem (may_ok hn (recOk_all h))
  · have e1 : revD n at_ words D = D := by unfold revD; rw [if_neg h]
    rw [e1, e1]
/-- wal.Recover on any device. -/
theorem recover_all {w : World} {B d g cap lb fb : Nat} {D : DS} (h : DevS w B d g cap lb fb D) {at_ words n : Int} (hn : n = (D.S.length : Int) / 8) (he : rgE n at_ words = 0) :
    Calls Tryz.prog 23 #[.pointer (some ⟨d, 0, none⟩), .int .i64 at_, .int .i64 words] w fun e w' => e = .returned (.tuple #[.int .i64 (seqOf n at_ words D.S), .int .i64 0]) ∧ DevS w' B d g cap lb fb (revD n at_ words D) ∧ Fr g lb fb w w' := by
  by_cases hr : recOk n at_ words (recB D.S at_ words) = true
  · refine (recover_some h hn he hr).mono ?_
    rintro e w' ⟨rfl, hd, hf⟩
    refine ⟨by unfold seqOf; rw [if_pos hr], ?_, hf⟩
    unfold revD; rw [if_pos hr]; exact hd
  · refine (recover_none h hn he (by simpa using hr)).mono ?_
    rintro e w' ⟨rfl, hb⟩
    refine ⟨by unfold seqOf; rw [if_neg hr]; rfl, ?_, (Fr.refl _ _ _ _).then hb⟩
    unfold revD; rw [if_neg hr]; exact h.on hb
end Go.Proofs.YteggkojlpgkhbaaGreat

namespace Go.Proofs.YteggkojlpgkhbaaGreat
open Go.RowKit Go.Maps Go.Shelf
set_option linter.unusedVariables false

/-- A device whose bytes are nil. -/
structure DevN (w : World) (B d lb fb : Nat) : Prop where
  hd : w.heap[d]? = some (.cells #[.slice none 0 0, .map (some lb), .map (some fb)] 118 (0, 0))
  Bd : B ≤ d
  Bl : B ≤ lb
  Bf : B ≤ fb
  ne : lb ≠ fb
  loose : Mp w lb 8192 (fun _ => none)
  flush : Mp w fb 8192 (fun _ => none)
section
variable {w w' : World} {B d lb fb : Nat}
theorem DevN.dlt (h : DevN w B d lb fb) : d < w.heap.size := row_lt h.hd
theorem DevN.dl (h : DevN w B d lb fb) : d ≠ lb := fun e => by
  obtain ⟨es, c, hm⟩ := h.loose.isMap
  have := h.hd; rw [e, hm] at this; cases this
theorem DevN.df (h : DevN w B d lb fb) : d ≠ fb := fun e => by
  obtain ⟨es, c, hm⟩ := h.flush.isMap
  have := h.hd; rw [e, hm] at this; cases this
theorem DevN.on (h : DevN w B d lb fb) (hb : Below w.heap.size w w') : DevN w' B d lb fb :=
  ⟨(hb.block d h.dlt).trans h.hd, h.Bd, h.Bl, h.Bf, h.ne, h.loose.below hb h.loose.lt, h.flush.below hb h.flush.lt⟩
theorem DevN.c0 (h : DevN w B d lb fb) : w.cell? ⟨d, 0, none⟩ = some (.slice none 0 0) := by rw [row_cell h.hd]; rfl
theorem DevN.c1 (h : DevN w B d lb fb) : w.cell? ⟨d, 1, none⟩ = some (.map (some lb)) := by rw [row_cell h.hd]; rfl
theorem DevN.c2 (h : DevN w B d lb fb) : w.cell? ⟨d, 2, none⟩ = some (.map (some fb)) := by rw [row_cell h.hd]; rfl
theorem DevN.setF (h : DevN w B d lb fb) (hg : w.grownBy w' (some fb)) (hm : Mp w' fb 8192 (fun _ => none)) : DevN w' B d lb fb :=
  ⟨(hg.block d h.dlt (by have := h.df; simpa using this)).trans h.hd, h.Bd, h.Bl, h.Bf, h.ne, h.loose.kept hg (by have := h.ne; simpa using this), hm⟩
theorem DevN.setL (h : DevN w B d lb fb) (hg : w.grownBy w' (some lb)) (hm : Mp w' lb 8192 (fun _ => none)) : DevN w' B d lb fb :=
  ⟨(hg.block d h.dlt (by have := h.dl; simpa using this)).trans h.hd, h.Bd, h.Bl, h.Bf, h.ne, hm, h.flush.kept hg (by have := h.ne; simpa using this.symm)⟩
theorem DevN.below (h : DevN w B d lb fb) (hf : Fr lb lb fb w w') : Below B w w' :=
  ⟨hf.os, hf.tape, hf.output, hf.size, fun k hk => hf.block k (by have := h.Bd; have := h.dlt; omega) (by have := h.Bl; omega) (by have := h.Bl; omega) (by have := h.Bf; omega)⟩

theorem lenN (h : DevN w B d lb fb) :
    Calls Tryz.prog 59 #[.pointer (some ⟨d, 0, none⟩)] w fun e w' => e = .returned (.int .i64 0) ∧ w' = w := by
  have hc := h.c0
  go_enter Tryz.func59, Tryz.ntmps59
  go_wp2
  go_ret
  exact ⟨rfl, rfl⟩
set_option maxHeartbeats 400000 in
theorem dholdsN (h : DevN w B d lb fb) (at_ long : Int) (ha : I64 at_) (hl : I64 long) :
    Calls Tryz.prog 58 #[.pointer (some ⟨d, 0, none⟩), .int .i64 at_, .int .i64 long] w fun e w' => e = .returned (.int .i64 (hE 0 at_ long)) ∧ w' = w := by
  have ha2 := i64_iff.1 ha; have hl2 := i64_iff.1 hl
  have HC := hid (lenN h)
  clear h ha hl
  go_enter Tryz.func58, Tryz.ntmps58
  by_cases h1 : long < 0
  · go_wp2_with fail
    go_ret
    exact ⟨by simp [hE, h1], rfl⟩
  · by_cases h2 : at_ < 0
    · go_wp2_with fail
      go_ret
      exact ⟨by unfold hE; rw [if_neg (by omega), if_pos (.inl h2)]; rfl, rfl⟩
    · go_wp2_with fail
      refine HC.out.mono ?_
      rintro e w1 ⟨rfl, hww⟩
      obtain rfl : w = w1 := hww.symm
      by_cases h3 : 0 - at_ < long
      · have h3' : -at_ < long := by omega
        go_wp2_with fail
        go_ret
        exact ⟨by unfold hE; rw [if_neg (by omega), if_pos (.inr h3)]; rfl, rfl⟩
      · have h3' : ¬ -at_ < long := by omega
        go_wp2_with fail
        go_ret
        exact ⟨by unfold hE; rw [if_neg (by omega), if_neg (by omega)]; rfl, rfl⟩
theorem hE0 {at_ long : Int} (h : hE 0 at_ long = 0) : at_ = 0 ∧ long = 0 := by have := hE_ok h; omega

set_option maxHeartbeats 1000000 in
theorem flushN (h : DevN w B d lb fb) (at_ long : Int) (ha : I64 at_) (hl : I64 long) :
    Calls Tryz.prog 52 #[.pointer (some ⟨d, 0, none⟩), .int .i64 at_, .int .i64 long] w fun e w' => ∃ er, e = .returned (.int .i64 er) ∧ w' = w := by
  have hh := dholdsN h at_ long ha hl
  by_cases he : hE 0 at_ long = 0
  · obtain ⟨rfl, rfl⟩ := hE0 he
    rw [he] at hh
    have HH := hid hh
    clear h hh ha hl he
    go_enter Tryz.func52, Tryz.ntmps52
    go_wp2_with fail
    refine HH.out.mono ?_
    rintro e w1 ⟨rfl, hww⟩
    obtain rfl : w = w1 := hww.symm
    go_wp2_with fail
    refine (span_any 0 0 (by omega) (by omega) (by omega) _).mono ?_
    rintro e w1 ⟨rfl, hww⟩
    obtain rfl : w = w1 := hww.symm
    rw [show spA 0 0 = 0 from rfl, show spB 0 0 = 0 from rfl]
    go_wp2_with fail
    go_loopw [10] (fun i wr => i = .int .i64 0 ∧ Hid (wr = w)) (fun _ _ => 0)
    case atStart => exact ⟨rfl, hid rfl⟩
    case round =>
      obtain ⟨rfl, HW⟩ := hrel
      obtain rfl : w = wr := HW.out.symm
      go_wp2_with fail
      go_ret
      exact ⟨⟨_, rfl⟩, rfl⟩
  · obtain ⟨x, hx⟩ : ∃ x, x = hE 0 at_ long := ⟨_, rfl⟩
    rw [← hx] at hh he
    have HH := hid hh
    clear h hh hx ha hl
    go_enter Tryz.func52, Tryz.ntmps52
    go_wp2_with fail
    refine HH.out.mono ?_
    rintro e w1 ⟨rfl, hww⟩
    obtain rfl : w = w1 := hww.symm
    go_wp2_with fail
    go_ret
    exact ⟨_, rfl, rfl⟩
set_option maxHeartbeats 1000000 in
theorem writeN (h : DevN w B d lb fb) (at_ : Int) (ha : I64 at_) {A : Option Addr} {n c : Nat} {l : List UInt8} (hr : Rd w w.heap.size A n c l) :
    Calls Tryz.prog 51 #[.pointer (some ⟨d, 0, none⟩), .int .i64 at_, .slice A n c] w fun e w' => ∃ er, e = .returned (.int .i64 er) ∧ w' = w := by
  have hl : I64 n := i64_iff.2 (by have := Nat.le_trans hr.2.1 hr.2.2.1; unfold maxLen at this; omega)
  have hh := dholdsN h at_ n ha hl
  by_cases he : hE 0 at_ n = 0
  · obtain ⟨rfl, h2⟩ := hE0 he
    obtain rfl : n = 0 := by omega
    rw [he] at hh
    have HH := hid hh; have hc0 := h.c0
    clear h hh ha hl he hr h2
    go_enter Tryz.func51, Tryz.ntmps51
    go_wp2_with fail
    refine HH.out.mono ?_
    rintro e w1 ⟨rfl, hww⟩
    obtain rfl : w = w1 := hww.symm
    go_wp2_with fail
    refine (span_any 0 0 (by omega) (by omega) (by omega) _).mono ?_
    rintro e w1 ⟨rfl, hww⟩
    obtain rfl : w = w1 := hww.symm
    rw [show spA 0 0 = 0 from rfl, show spB 0 0 = 0 from rfl]
    go_wp2_with fail
    go_loopw [10] (fun i wr => i = .int .i64 0 ∧ Hid (wr = w)) (fun _ _ => 0)
    case atStart => exact ⟨rfl, hid rfl⟩
    case round =>
      obtain ⟨rfl, HW⟩ := hrel
      obtain rfl : w = wr := HW.out.symm
      have hrun : ∀ ty, (Builtin.copy_ #[22, 22] ty #[.slice none 0 0, .slice A 0 c]).run Tryz.prog w = .ok (goInt (0 : Nat)) w := fun ty => by
        rw [run_copy_none (P := Tryz.prog) _ 22 22 ty 5 _ A _ _ 0 c Tryz.underlying22 size8 (by simp)]
        simp
      go_wp2_with fail
      go_ret
      exact ⟨⟨_, rfl⟩, rfl⟩
  · obtain ⟨x, hx⟩ : ∃ x, x = hE 0 at_ n := ⟨_, rfl⟩
    rw [← hx] at hh he
    have HH := hid hh
    clear h hh hx ha hl hr
    go_enter Tryz.func51, Tryz.ntmps51
    go_wp2_with fail
    refine HH.out.mono ?_
    rintro e w1 ⟨rfl, hww⟩
    obtain rfl : w = w1 := hww.symm
    go_wp2_with fail
    go_ret
    exact ⟨_, rfl, rfl⟩
theorem frN_of {row : Option Nat} (hg : w.grownBy w' row) (hr : ∀ j, row = some j → j = lb ∨ j = fb ∨ w.heap.size ≤ j) : Fr lb lb fb w w' := (Fr.refl lb lb fb w).by hg fun j hj => by
  rcases hr j hj with h | h | h
  · exact .inl h
  · exact .inr (.inr (.inl h))
  · exact .inr (.inr (.inr h))
set_option maxHeartbeats 1000000 in
theorem fenceN (h : DevN w B d lb fb) :
    Calls Tryz.prog 53 #[.pointer (some ⟨d, 0, none⟩)] w fun e w' => e = .returned (.tuple #[]) ∧ DevN w' B d lb fb ∧ Fr lb lb fb w w' := by
  have hc2 := h.c2
  have HD := hid h
  clear h
  go_enter Tryz.func53, Tryz.ntmps53
  go_wp2_with (at_range; refine wpList_rangeM rfl _ 116 rfl 4 Tryz.underlying116 HD.out.flush rfl ?_; intro w0 cnt0 hrg0 hg0 hs0)
  go_frame
  have hb0 : Below w.heap.size w w0 := (B0 w).grown hg0 (Nat.le_refl _) (fun j hj => by cases hj)
  have HD0 := hid (HD.out.on hb0)
  have HB0 : Hid (Fr lb lb fb w w0) := (Fr.refl lb lb fb w).then hb0
  have HRG := hid hrg0
  clear hrg0 hg0 hs0 hb0
  go_loopw [2] (fun _ wr => ∃ (left : Int → Bool) (cnt : Nat), Hid (MRg wr fb w.heap.size 8192 (fun _ => none) left cnt) ∧ Hid (DevN wr B d lb fb) ∧ Hid (Fr lb lb fb w wr)) (fun _ wr => wr.rangeLeft fb w.heap.size)
  case atStart => exact ⟨_, cnt0, HRG, HD0, HB0⟩
  case round =>
    obtain ⟨left, cnt, hrg, HD0, HB0⟩ := hrel
    have hcr1 := HD0.out.c1
    have hcr2 := HD0.out.c2
    go_wp2_with (at_next; refine wpList_nextM rfl _ rfl hrg.out rfl ?_ ?_)
    · intro _
      obtain ⟨w3, hrun3, hm3, ht3⟩ := HD0.out.flush.clear Tryz.underlying116
      have hg3 := ht3.grown
      have HD3 := hid (HD0.out.setF hg3 ((hm3.mono (by omega)).ext fun j => rfl))
      have HB3 : Hid (Fr lb lb fb w w3) := Fr.f HB0.out hg3
      clear hm3 ht3 hg3
      go_wp2_with fail
      go_end0
      exact ⟨rfl, HD3.out, HB3.out⟩
set_option maxHeartbeats 1000000 in
theorem crashN (h : DevN w B d lb fb) {A : Option Addr} {n c : Nat} {l : List Int} (hk : RdI w w.heap.size A n c l) :
    Calls Tryz.prog 22 #[.pointer (some ⟨d, 0, none⟩), .slice A n c] w fun e w' => e = .returned (.tuple #[]) ∧ DevN w' B d lb fb ∧ Fr lb lb fb w w' := by
  have HD := hid h; have HK := hid hk
  clear h hk
  go_enter Tryz.func22, Tryz.ntmps22
  go_wp2_with fail
  refine (among_any HK.out).mono ?_
  rintro e w1 ⟨rfl, hq1, ⟨m, hm1⟩, hb1⟩
  have HD1 := hid (HD.out.on hb1)
  have HB1 : Hid (Fr lb lb fb w w1) := (Fr.refl lb lb fb w).then hb1
  have hcl := HD1.out.c1
  clear hq1 hm1 hb1
  go_wp2_with (at_range; refine wpList_rangeM rfl _ 115 rfl 119 Tryz.underlying115 HD1.out.loose rfl ?_; intro w0 cnt0 hrg0 hg0 hs0)
  go_frame
  have hb0 : Below w1.heap.size w1 w0 := (B0 w1).grown hg0 (Nat.le_refl _) (fun j hj => by cases hj)
  have HD0 := hid (HD1.out.on hb0)
  have HB0 : Hid (Fr lb lb fb w w0) := HB1.out.then hb0
  have HRG := hid hrg0
  clear hrg0 hg0 hs0 hb0 hcl
  obtain ⟨r, hr⟩ : ∃ r, r = w1.heap.size := ⟨_, rfl⟩
  rw [← hr] at HRG ⊢
  clear hr
  go_loopw [5] (fun _ wr => ∃ (left : Int → Bool) (cnt : Nat), Hid (MRg wr lb r 8192 (fun _ => none) left cnt) ∧ Hid (DevN wr B d lb fb) ∧ Hid (Fr lb lb fb w wr)) (fun _ wr => wr.rangeLeft lb r)
  case atStart => exact ⟨_, cnt0, HRG, HD0, HB0⟩
  case round =>
    obtain ⟨left, cnt, hrg, HD0, HB0⟩ := hrel
    have hcr1 := HD0.out.c1
    have hcr2 := HD0.out.c2
    go_wp2_with (at_next; refine wpList_nextM rfl _ rfl hrg.out rfl ?_ ?_)
    · intro _
      obtain ⟨w3, hrun3, hm3, ht3⟩ := HD0.out.loose.clear Tryz.underlying115
      have hg3 := ht3.grown
      have HD3 := hid (HD0.out.setL hg3 ((hm3.mono (by omega)).ext fun j => rfl))
      have HB3 : Hid (Fr lb lb fb w w3) := Fr.l HB0.out hg3
      obtain ⟨w4, hrun4, hm4, ht4⟩ := HD3.out.flush.clear Tryz.underlying116
      have hg4 := ht4.grown
      have HD4 := hid (HD3.out.setF hg4 ((hm4.mono (by omega)).ext fun j => rfl))
      have HB4 : Hid (Fr lb lb fb w w4) := Fr.f HB3.out hg4
      have hc32 := HD3.out.c2
      clear hm3 ht3 hg3 hm4 ht4 hg4
      go_wp2_with fail
      go_end0
      exact ⟨rfl, HD4.out, HB4.out⟩
theorem bcloneN (w : World) : Calls Tryz.prog 50 #[.slice none 0 0] w fun e w' => e = .returned (.slice none 0 0) ∧ w' = w := by
  have hq := fun W => Lib.run_eql_slice_nil (P := Tryz.prog) W 22 5 none 0 0 0 0 Tryz.underlying22
  go_enter Tryz.func50, Tryz.ntmps50
  go_wp2_with fail
  go_ret
  exact ⟨rfl, rfl⟩
theorem bytesN (h : DevN w B d lb fb) :
    Calls Tryz.prog 45 #[.pointer (some ⟨d, 0, none⟩)] w fun e w' => e = .returned (.slice none 0 0) ∧ w' = w := by
  have hc := h.c0
  clear h
  go_enter Tryz.func45, Tryz.ntmps45
  go_wp2_with fail
  refine (bcloneN _).mono ?_
  rintro e w1 ⟨rfl, hww⟩
  obtain rfl : w = w1 := hww.symm
  go_wp2_with fail
  go_ret
  exact ⟨rfl, rfl⟩
theorem deviceN (w : World) :
    Calls Tryz.prog 49 #[.slice none 0 0] w fun e w' => e = .returned (.pointer (some ⟨w.heap.size + 2, 0, none⟩)) ∧
      w' = ((w.alloc (.map #[] 0)).alloc (.map #[] 0)).alloc (.cells #[.slice none 0 0, .map (some w.heap.size), .map (some (w.heap.size + 1))] 118) := by
  have hmm := @run_makeMap Tryz.prog
  go_enter Tryz.func49, Tryz.ntmps49
  go_wp2
  go_ret
  exact ⟨rfl, rfl⟩
theorem devN_new (w : World) : DevN (((w.alloc (.map #[] 0)).alloc (.map #[] 0)).alloc (.cells #[.slice none 0 0, .map (some w.heap.size), .map (some (w.heap.size + 1))] 118)) w.heap.size (w.heap.size + 2) w.heap.size (w.heap.size + 1) := by
  refine ⟨?_, by omega, Nat.le_refl _, by omega, by omega, ?_, ?_⟩
  · have := heap_alloc_new ((w.alloc (.map #[] 0)).alloc (.map #[] 0)) (.cells #[.slice none 0 0, .map (some w.heap.size), .map (some (w.heap.size + 1))] 118)
    simpa using this
  · exact (((Mp.made w).alloc _).alloc _).mono (by omega)
  · have := (Mp.made (w.alloc (.map #[] 0))).alloc (.cells #[.slice none 0 0, .map (some w.heap.size), .map (some (w.heap.size + 1))] 118)
    simpa using this.mono (show 0 ≤ 8192 by omega)
set_option maxHeartbeats 1000000 in
theorem ofN (w : World) :
    Calls Tryz.prog 17 #[.slice none 0 0] w fun e w' => ∃ d lb fb, e = .returned (.tuple #[.pointer (some ⟨d, 0, none⟩), .int .i64 0]) ∧ DevN w' w.heap.size d lb fb ∧ Below w.heap.size w w' := by
  go_enter Tryz.func17, Tryz.ntmps17
  go_wp2_with fail
  refine (bcloneN _).mono ?_
  rintro e w1 ⟨rfl, hww⟩
  obtain rfl : w = w1 := hww.symm
  go_wp2_with fail
  refine (deviceN _).mono ?_
  rintro e w1 ⟨rfl, rfl⟩
  go_wp2_with fail
  go_ret2
  exact ⟨w.heap.size + 2, w.heap.size, w.heap.size + 1, rfl, devN_new w, Ba (Ba (B1 _ _) _) _⟩
set_option maxHeartbeats 1000000 in
theorem looseN (h : DevN w B d lb fb) :
    Calls Tryz.prog 47 #[.pointer (some ⟨d, 0, none⟩)] w fun e w' => ∃ v, e = .returned v ∧ w'.ownsRow w.heap.size 3 1 v (looseL 0 (fun _ => none)).length ((looseL 0 (fun _ => none)).map encZ) ∧ Below w.heap.size w w' := by
  have hc1 := h.c1
  obtain ⟨D0, hown, hat, hn0⟩ := h.loose
  have hbl := hown.lt
  have hsz := hown.size_le
  have hat' : ∀ k, I64 k → ∀ z, D0.atKey (.int .i64 k) z = vw (lfun (fun _ => none) k) z := hat
  have hperm := loose_keys (n := 0) (L := fun _ => none) hown hat' (fun k x hl => by cases hl) (by omega)
  have hseq : SeqGives Fence.wide 2 Tryz.prog 89 #[.pointer (some ⟨w.heap.size, 0, none⟩)] encZ (fun ss => ss.Perm (intKeys D0)) (Maps.size D0) (w.alloc (.cells #[.map (some lb)] 115)) :=
    AnyZI.keys_gives (ρ := Tryz.keysA_ren) { Tryz.keysA with } Fence.wide _ trivial rfl (by omega) w.heap.size lb 8192 D0 _ (by simp) (by simp) (by
      obtain ⟨es, clock, hb, Ft, hs, hD⟩ := hown
      exact ⟨es, clock, (Below.heap_alloc _ _ lb hbl).trans hb, Ft, hs, hD⟩)
  have cK : ∀ mb W, CallsIn Fence.wide 5 Tryz.prog 74 #[.map mb] W fun e w' => e = .returned (.func (.func 89) #[] #[.pointer (some ⟨W.heap.size, 0, none⟩)]) ∧ w' = W.alloc (.cells #[.map mb] 115) := fun mb W => AnyZI.keys_in Tryz.keysA Fence.wide 5 trivial rfl mb W
  have cS := AnyZI.sorted_in Tryz.sortedA Fence.wide 5 trivial trivial trivial trivial rfl (by omega) (sortsA _) (enters_of Tryz.func88 (by kernel_rfl) rfl) 89 #[.pointer (some ⟨w.heap.size, 0, none⟩)] trivial (enters_of Tryz.func89 (by kernel_rfl) rfl) _ _ (Nat.le_trans hsz (by decide)) (by omega) _ hseq
  change CallsIn _ _ Tryz.prog 73 _ _ _ at cS
  have hfK : Fence.wide.fn 74 := trivial
  have hfS : Fence.wide.fn 73 := trivial
  have HP := hid hperm
  clear hseq hperm hat hat' hsz h hn0
  refine (callsIn_wide (n := 6)).1 ?_
  refine callsIn_of_wp Tryz.func47 rfl trivial ?_ rfl
  simp only [Tryz.ntmps47, List.size_toArray, List.length_cons, List.length_nil, Nat.reduceAdd, Nat.reduceSub, Array.replicate_succ, Array.replicate_zero, List.push_toArray, List.append_toArray, List.nil_append, List.cons_append]
  gi_wp2_with (first
    | (gi_at_call 74; refine (cK _ _).mono ?_; rintro e w' ⟨rfl, rfl⟩)
    | (gi_at_call 73; refine cS.mono ?_; rintro e w' ⟨v, ss, rfl, hS, hrow, hnil, hb⟩))
  go_ret
  have e1 : ss.mergeSort (fun x y => decide (x ≤ y)) = looseL 0 (fun _ => none) := (mergeSort_of_perm_i (hS.trans HP.out.symm)).trans (looseL_sort _ _)
  have e2 : ss.length = (looseL 0 (fun _ => none)).length := (hS.trans HP.out.symm).length_eq
  rw [e1, e2] at hrow
  exact ⟨v, rfl, ownsRow_base_a hrow (by simp), ((Below.refl _ w).alloc (Nat.le_refl _) _).trans (hb.mono (by simp))⟩
theorem rgE0 (at_ words : Int) : rgE 0 at_ words ≠ 0 := by
  intro h
  have := rgE_ok h
  omega
set_option maxHeartbeats 1000000 in
theorem rgN (h : DevN w B d lb fb) (at_ words : Int) (ha : I64 at_) (hw : I64 words) :
    Calls Tryz.prog 25 #[.pointer (some ⟨d, 0, none⟩), .int .i64 at_, .int .i64 words] w fun e w' => e = .returned (.tuple #[.agg #[.pointer none, .int .i64 0, .int .i64 0], .int .i64 (rgE 0 at_ words)]) ∧ Below w.heap.size w w' := by
  have HL := hid (fun o => lenN (h.on (B1 w o)))
  have he := rgE0 at_ words
  clear h
  have ha' := i64_iff.1 ha; have hw' := i64_iff.1 hw
  clear ha hw
  unfold rgE at he ⊢
  by_cases c1 : words < 1
  · rw [if_pos c1]
    have d1 : decide (words < 1) = true := by simp; omega
    clear he
    go_enter Tryz.func25, Tryz.ntmps25
    go_wp2_with fail
    refine bodyPost_ret (v := .tuple #[.agg #[.pointer none, .int .i64 0, .int .i64 0], .int .i64 1]) ?_ rfl ⟨rfl, B1 w _⟩
    simp [results, Tryz.f25, go_sem]
  · rw [if_neg c1] at he ⊢
    have c2 : at_ < 0 ∨ 0 - at_ < words := by omega
    rw [if_pos c2]
    clear he
    have d1 : decide (words < 1) = false := by simp; omega
    by_cases c3 : at_ < 0
    · have d2 : decide (at_ < 0) = true := by simp; omega
      go_enter Tryz.func25, Tryz.ntmps25
      go_wp2_with fail
      refine bodyPost_ret (v := .tuple #[.agg #[.pointer none, .int .i64 0, .int .i64 0], .int .i64 30]) ?_ rfl ⟨rfl, B1 w _⟩
      simp [results, Tryz.f25, go_sem]
    · have d2 : decide (at_ < 0) = false := by simp; omega
      have q2 : IntKind.i64.wrap (-at_) = -at_ := by rw [IntKind.wrap_i64]; omega
      have d3 : decide (-at_ < words) = true := by simp; omega
      have d3' : -at_ < words := by omega
      clear c2
      go_enter Tryz.func25, Tryz.ntmps25
      go_wp2_with fail
      refine (HL.out _).mono ?_
      rintro e w1 ⟨rfl, rfl⟩
      go_wp2_with fail
      refine bodyPost_ret (v := .tuple #[.agg #[.pointer none, .int .i64 0, .int .i64 0], .int .i64 30]) ?_ rfl ⟨rfl, B1 w _⟩
      simp [results, Tryz.f25, go_sem]
theorem recoverN (h : DevN w B d lb fb) {at_ words : Int} (ha : I64 at_) (hw : I64 words) :
    Calls Tryz.prog 23 #[.pointer (some ⟨d, 0, none⟩), .int .i64 at_, .int .i64 words] w fun e w' => e = .returned (.tuple #[.int .i64 0, .int .i64 (rgE 0 at_ words)]) ∧ Below w.heap.size w w' := by
  have hr := rgN h at_ words ha hw
  have he := rgE0 at_ words
  obtain ⟨x, hx⟩ : ∃ x, x = rgE 0 at_ words := ⟨_, rfl⟩
  rw [← hx] at hr he ⊢
  have HR := hid hr
  have d1 : (x == 0) = false := by rw [beq_eq_false_iff_ne]; exact he
  clear h hr hx ha hw
  go_enter Tryz.func23, Tryz.ntmps23
  go_wp2_with fail
  refine HR.out.mono ?_
  rintro e w1 ⟨rfl, hb1⟩
  go_wp2_with fail
  go_ret2
  exact ⟨rfl, Ba hb1 _⟩
end
end Go.Proofs.YteggkojlpgkhbaaGreat
