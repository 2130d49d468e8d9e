/-
  pmem: a device of no bytes at all (nil): its calls.
  A device of no bytes behind a script, and the document's words of it.
-/
import Derived.Test.YtoacdnicnfpceaaGreatM16

namespace Go.Proofs.YtoacdnicnfpceaaGreat
open Go.RowKit Go.Maps Go.Shelf
set_option linter.unusedVariables false

/-- A device whose bytes are nil. -/
structure DevN (w : World) (B d lb fb : Nat) : Prop where
  hd : w.heap[d]? = some (.cells #[.slice none 0 0, .map (some lb), .map (some fb)] 117 (0, 0))
  Bd : B ≤ d
  Bl : B ≤ lb
  Bf : B ≤ fb
  ne : lb ≠ fb
  loose : Mp w lb 8192 (fun _ => none)
  flush : Mp w fb 8192 (fun _ => none)
section
variable {w w' : World} {B d lb fb : Nat}
theorem DevN.dlt (h : DevN w B d lb fb) : d < w.heap.size := row_lt h.hd
theorem DevN.dl (h : DevN w B d lb fb) : d ≠ lb := fun e => by
  obtain ⟨es, c, hm⟩ := h.loose.isMap
  have := h.hd; rw [e, hm] at this; cases this
theorem DevN.df (h : DevN w B d lb fb) : d ≠ fb := fun e => by
  obtain ⟨es, c, hm⟩ := h.flush.isMap
  have := h.hd; rw [e, hm] at this; cases this
theorem DevN.on (h : DevN w B d lb fb) (hb : Below w.heap.size w w') : DevN w' B d lb fb :=
  ⟨(hb.block d h.dlt).trans h.hd, h.Bd, h.Bl, h.Bf, h.ne, h.loose.below hb h.loose.lt, h.flush.below hb h.flush.lt⟩
theorem DevN.c0 (h : DevN w B d lb fb) : w.cell? ⟨d, 0, none⟩ = some (.slice none 0 0) := by rw [row_cell h.hd]; rfl
theorem DevN.c1 (h : DevN w B d lb fb) : w.cell? ⟨d, 1, none⟩ = some (.map (some lb)) := by rw [row_cell h.hd]; rfl
theorem DevN.c2 (h : DevN w B d lb fb) : w.cell? ⟨d, 2, none⟩ = some (.map (some fb)) := by rw [row_cell h.hd]; rfl
theorem DevN.setF (h : DevN w B d lb fb) (hg : w.grownBy w' (some fb)) (hm : Mp w' fb 8192 (fun _ => none)) : DevN w' B d lb fb :=
  ⟨(hg.block d h.dlt (by have := h.df; simpa using this)).trans h.hd, h.Bd, h.Bl, h.Bf, h.ne, h.loose.kept hg (by have := h.ne; simpa using this), hm⟩
theorem DevN.setL (h : DevN w B d lb fb) (hg : w.grownBy w' (some lb)) (hm : Mp w' lb 8192 (fun _ => none)) : DevN w' B d lb fb :=
  ⟨(hg.block d h.dlt (by have := h.dl; simpa using this)).trans h.hd, h.Bd, h.Bl, h.Bf, h.ne, hm, h.flush.kept hg (by have := h.ne; simpa using this.symm)⟩
theorem DevN.below (h : DevN w B d lb fb) (hf : Fr lb lb fb w w') : Below B w w' :=
  ⟨hf.os, hf.tape, hf.output, hf.size, fun k hk => hf.block k (by have := h.Bd; have := h.dlt; omega) (by have := h.Bl; omega) (by have := h.Bl; omega) (by have := h.Bf; omega)⟩

theorem lenN (h : DevN w B d lb fb) :
    Calls Tryz.prog 61 #[.pointer (some ⟨d, 0, none⟩)] w fun e w' => e = .returned (.int .i64 0) ∧ w' = w := by
  have hc := h.c0
  go_enter Tryz.func61, Tryz.ntmps61
  go_wp2
  go_ret
  exact ⟨rfl, rfl⟩
set_option maxHeartbeats 400000 in
theorem dholdsN (h : DevN w B d lb fb) (at_ long : Int) (ha : I64 at_) (hl : I64 long) :
    Calls Tryz.prog 60 #[.pointer (some ⟨d, 0, none⟩), .int .i64 at_, .int .i64 long] w fun e w' => e = .returned (.int .i64 (hE 0 at_ long)) ∧ w' = w := by
  have ha2 := i64_iff.1 ha; have hl2 := i64_iff.1 hl
  have HC := hid (lenN h)
  clear h ha hl
  go_enter Tryz.func60, Tryz.ntmps60
  by_cases h1 : long < 0
  · go_wp2_with fail
    go_ret
    exact ⟨by simp [hE, h1], rfl⟩
  · by_cases h2 : at_ < 0
    · go_wp2_with fail
      go_ret
      exact ⟨by unfold hE; rw [if_neg (by omega), if_pos (.inl h2)]; rfl, rfl⟩
    · go_wp2_with fail
      refine HC.out.mono ?_
      rintro e w1 ⟨rfl, hww⟩
      obtain rfl : w = w1 := hww.symm
      by_cases h3 : 0 - at_ < long
      · have h3' : -at_ < long := by omega
        go_wp2_with fail
        go_ret
        exact ⟨by unfold hE; rw [if_neg (by omega), if_pos (.inr h3)]; rfl, rfl⟩
      · have h3' : ¬ -at_ < long := by omega
        go_wp2_with fail
        go_ret
        exact ⟨by unfold hE; rw [if_neg (by omega), if_neg (by omega)]; rfl, rfl⟩
theorem hE0 {at_ long : Int} (h : hE 0 at_ long = 0) : at_ = 0 ∧ long = 0 := by have := hE_ok h; omega

set_option maxHeartbeats 1000000 in
theorem flushN (h : DevN w B d lb fb) (at_ long : Int) (ha : I64 at_) (hl : I64 long) :
    Calls Tryz.prog 56 #[.pointer (some ⟨d, 0, none⟩), .int .i64 at_, .int .i64 long] w fun e w' => ∃ er, e = .returned (.int .i64 er) ∧ w' = w := by
  have hh := dholdsN h at_ long ha hl
  by_cases he : hE 0 at_ long = 0
  · obtain ⟨rfl, rfl⟩ := hE0 he
    rw [he] at hh
    have HH := hid hh
    clear h hh ha hl he
    go_enter Tryz.func56, Tryz.ntmps56
    go_wp2_with fail
    refine HH.out.mono ?_
    rintro e w1 ⟨rfl, hww⟩
    obtain rfl : w = w1 := hww.symm
    go_wp2_with fail
    refine (span_any 0 0 (by omega) (by omega) (by omega) _).mono ?_
    rintro e w1 ⟨rfl, hww⟩
    obtain rfl : w = w1 := hww.symm
    rw [show spA 0 0 = 0 from rfl, show spB 0 0 = 0 from rfl]
    go_wp2_with fail
    go_loopw [10] (fun i wr => i = .int .i64 0 ∧ Hid (wr = w)) (fun _ _ => 0)
    case atStart => exact ⟨rfl, hid rfl⟩
    case round =>
      obtain ⟨rfl, HW⟩ := hrel
      obtain rfl : w = wr := HW.out.symm
      go_wp2_with fail
      go_ret
      exact ⟨⟨_, rfl⟩, rfl⟩
  · obtain ⟨x, hx⟩ : ∃ x, x = hE 0 at_ long := ⟨_, rfl⟩
    rw [← hx] at hh he
    have HH := hid hh
    clear h hh hx ha hl
    go_enter Tryz.func56, Tryz.ntmps56
    go_wp2_with fail
    refine HH.out.mono ?_
    rintro e w1 ⟨rfl, hww⟩
    obtain rfl : w = w1 := hww.symm
    go_wp2_with fail
    go_ret
    exact ⟨_, rfl, rfl⟩
set_option maxHeartbeats 1000000 in
theorem writeN (h : DevN w B d lb fb) (at_ : Int) (ha : I64 at_) {A : Option Addr} {n c : Nat} {l : List UInt8} (hr : Rd w w.heap.size A n c l) :
    Calls Tryz.prog 55 #[.pointer (some ⟨d, 0, none⟩), .int .i64 at_, .slice A n c] w fun e w' => ∃ er, e = .returned (.int .i64 er) ∧ w' = w := by
  have hl : I64 n := i64_iff.2 (by have := Nat.le_trans hr.2.1 hr.2.2.1; unfold maxLen at this; omega)
  have hh := dholdsN h at_ n ha hl
  by_cases he : hE 0 at_ n = 0
  · obtain ⟨rfl, h2⟩ := hE0 he
    obtain rfl : n = 0 := by omega
    rw [he] at hh
    have HH := hid hh; have hc0 := h.c0
    clear h hh ha hl he hr h2
    go_enter Tryz.func55, Tryz.ntmps55
    go_wp2_with fail
    refine HH.out.mono ?_
    rintro e w1 ⟨rfl, hww⟩
    obtain rfl : w = w1 := hww.symm
    go_wp2_with fail
    refine (span_any 0 0 (by omega) (by omega) (by omega) _).mono ?_
    rintro e w1 ⟨rfl, hww⟩
    obtain rfl : w = w1 := hww.symm
    rw [show spA 0 0 = 0 from rfl, show spB 0 0 = 0 from rfl]
    go_wp2_with fail
    go_loopw [10] (fun i wr => i = .int .i64 0 ∧ Hid (wr = w)) (fun _ _ => 0)
    case atStart => exact ⟨rfl, hid rfl⟩
    case round =>
      obtain ⟨rfl, HW⟩ := hrel
      obtain rfl : w = wr := HW.out.symm
      have hrun : ∀ ty, (Builtin.copy_ #[22, 22] ty #[.slice none 0 0, .slice A 0 c]).run Tryz.prog w = .ok (goInt (0 : Nat)) w := fun ty => by
        rw [run_copy_none (P := Tryz.prog) _ 22 22 ty 5 _ A _ _ 0 c Tryz.underlying22 size8 (by simp)]
        simp
      go_wp2_with fail
      go_ret
      exact ⟨⟨_, rfl⟩, rfl⟩
  · obtain ⟨x, hx⟩ : ∃ x, x = hE 0 at_ n := ⟨_, rfl⟩
    rw [← hx] at hh he
    have HH := hid hh
    clear h hh hx ha hl hr
    go_enter Tryz.func55, Tryz.ntmps55
    go_wp2_with fail
    refine HH.out.mono ?_
    rintro e w1 ⟨rfl, hww⟩
    obtain rfl : w = w1 := hww.symm
    go_wp2_with fail
    go_ret
    exact ⟨_, rfl, rfl⟩
theorem frN_of {row : Option Nat} (hg : w.grownBy w' row) (hr : ∀ j, row = some j → j = lb ∨ j = fb ∨ w.heap.size ≤ j) : Fr lb lb fb w w' := (Fr.refl lb lb fb w).by hg fun j hj => by
  rcases hr j hj with h | h | h
  · exact .inl h
  · exact .inr (.inr (.inl h))
  · exact .inr (.inr (.inr h))
set_option maxHeartbeats 1000000 in
theorem fenceN (h : DevN w B d lb fb) :
    Calls Tryz.prog 57 #[.pointer (some ⟨d, 0, none⟩)] w fun e w' => e = .returned (.tuple #[]) ∧ DevN w' B d lb fb ∧ Fr lb lb fb w w' := by
  have hc2 := h.c2
  have HD := hid h
  clear h
  go_enter Tryz.func57, Tryz.ntmps57
  go_wp2_with (at_range; refine wpList_rangeM rfl _ 115 rfl 4 Tryz.underlying115 HD.out.flush rfl ?_; intro w0 cnt0 hrg0 hg0 hs0)
  go_frame
  have hb0 : Below w.heap.size w w0 := (B0 w).grown hg0 (Nat.le_refl _) (fun j hj => by cases hj)
  have HD0 := hid (HD.out.on hb0)
  have HB0 : Hid (Fr lb lb fb w w0) := (Fr.refl lb lb fb w).then hb0
  have HRG := hid hrg0
  clear hrg0 hg0 hs0 hb0
  go_loopw [2] (fun _ wr => ∃ (left : Int → Bool) (cnt : Nat), Hid (MRg wr fb w.heap.size 8192 (fun _ => none) left cnt) ∧ Hid (DevN wr B d lb fb) ∧ Hid (Fr lb lb fb w wr)) (fun _ wr => wr.rangeLeft fb w.heap.size)
  case atStart => exact ⟨_, cnt0, HRG, HD0, HB0⟩
  case round =>
    obtain ⟨left, cnt, hrg, HD0, HB0⟩ := hrel
    have hcr1 := HD0.out.c1
    have hcr2 := HD0.out.c2
    go_wp2_with (at_next; refine wpList_nextM rfl _ rfl hrg.out rfl ?_ ?_)
    · intro _
      obtain ⟨w3, hrun3, hm3, ht3⟩ := HD0.out.flush.clear Tryz.underlying115
      have hg3 := ht3.grown
      have HD3 := hid (HD0.out.setF hg3 ((hm3.mono (by omega)).ext fun j => rfl))
      have HB3 : Hid (Fr lb lb fb w w3) := Fr.f HB0.out hg3
      clear hm3 ht3 hg3
      go_wp2_with fail
      go_end0
      exact ⟨rfl, HD3.out, HB3.out⟩
set_option maxHeartbeats 1000000 in
theorem crashN (h : DevN w B d lb fb) {A : Option Addr} {n c : Nat} {l : List Int} (hk : RdI w w.heap.size A n c l) :
    Calls Tryz.prog 26 #[.pointer (some ⟨d, 0, none⟩), .slice A n c] w fun e w' => e = .returned (.tuple #[]) ∧ DevN w' B d lb fb ∧ Fr lb lb fb w w' := by
  have HD := hid h; have HK := hid hk
  clear h hk
  go_enter Tryz.func26, Tryz.ntmps26
  go_wp2_with fail
  refine (among_any HK.out).mono ?_
  rintro e w1 ⟨rfl, hq1, ⟨m, hm1⟩, hb1⟩
  have HD1 := hid (HD.out.on hb1)
  have HB1 : Hid (Fr lb lb fb w w1) := (Fr.refl lb lb fb w).then hb1
  have hcl := HD1.out.c1
  clear hq1 hm1 hb1
  go_wp2_with (at_range; refine wpList_rangeM rfl _ 114 rfl 123 Tryz.underlying114 HD1.out.loose rfl ?_; intro w0 cnt0 hrg0 hg0 hs0)
  go_frame
  have hb0 : Below w1.heap.size w1 w0 := (B0 w1).grown hg0 (Nat.le_refl _) (fun j hj => by cases hj)
  have HD0 := hid (HD1.out.on hb0)
  have HB0 : Hid (Fr lb lb fb w w0) := HB1.out.then hb0
  have HRG := hid hrg0
  clear hrg0 hg0 hs0 hb0 hcl
  obtain ⟨r, hr⟩ : ∃ r, r = w1.heap.size := ⟨_, rfl⟩
  rw [← hr] at HRG ⊢
  clear hr
  go_loopw [5] (fun _ wr => ∃ (left : Int → Bool) (cnt : Nat), Hid (MRg wr lb r 8192 (fun _ => none) left cnt) ∧ Hid (DevN wr B d lb fb) ∧ Hid (Fr lb lb fb w wr)) (fun _ wr => wr.rangeLeft lb r)
  case atStart => exact ⟨_, cnt0, HRG, HD0, HB0⟩
  case round =>
    obtain ⟨left, cnt, hrg, HD0, HB0⟩ := hrel
    have hcr1 := HD0.out.c1
    have hcr2 := HD0.out.c2
    go_wp2_with (at_next; refine wpList_nextM rfl _ rfl hrg.out rfl ?_ ?_)
    · intro _
      obtain ⟨w3, hrun3, hm3, ht3⟩ := HD0.out.loose.clear Tryz.underlying114
      have hg3 := ht3.grown
      have HD3 := hid (HD0.out.setL hg3 ((hm3.mono (by omega)).ext fun j => rfl))
      have HB3 : Hid (Fr lb lb fb w w3) := Fr.l HB0.out hg3
      obtain ⟨w4, hrun4, hm4, ht4⟩ := HD3.out.flush.clear Tryz.underlying115
      have hg4 := ht4.grown
      have HD4 := hid (HD3.out.setF hg4 ((hm4.mono (by omega)).ext fun j => rfl))
      have HB4 : Hid (Fr lb lb fb w w4) := Fr.f HB3.out hg4
      have hc32 := HD3.out.c2
      clear hm3 ht3 hg3 hm4 ht4 hg4
      go_wp2_with fail
      go_end0
      exact ⟨rfl, HD4.out, HB4.out⟩
theorem bcloneN (w : World) : Calls Tryz.prog 53 #[.slice none 0 0] w fun e w' => e = .returned (.slice none 0 0) ∧ w' = w := by
  have hq := fun W => Lib.run_eql_slice_nil (P := Tryz.prog) W 22 5 none 0 0 0 0 Tryz.underlying22
  go_enter Tryz.func53, Tryz.ntmps53
  go_wp2_with fail
  go_ret
  exact ⟨rfl, rfl⟩
theorem bytesN (h : DevN w B d lb fb) :
    Calls Tryz.prog 20 #[.pointer (some ⟨d, 0, none⟩)] w fun e w' => e = .returned (.slice none 0 0) ∧ w' = w := by
  have hc := h.c0
  clear h
  go_enter Tryz.func20, Tryz.ntmps20
  go_wp2_with fail
  refine (bcloneN _).mono ?_
  rintro e w1 ⟨rfl, hww⟩
  obtain rfl : w = w1 := hww.symm
  go_wp2_with fail
  go_ret
  exact ⟨rfl, rfl⟩
theorem deviceN (w : World) :
    Calls Tryz.prog 54 #[.slice none 0 0] w fun e w' => e = .returned (.pointer (some ⟨w.heap.size + 2, 0, none⟩)) ∧
      w' = ((w.alloc (.map #[] 0)).alloc (.map #[] 0)).alloc (.cells #[.slice none 0 0, .map (some w.heap.size), .map (some (w.heap.size + 1))] 117) := by
  have hmm := @run_makeMap Tryz.prog
  go_enter Tryz.func54, Tryz.ntmps54
  go_wp2
  go_ret
  exact ⟨rfl, rfl⟩
theorem devN_new (w : World) : DevN (((w.alloc (.map #[] 0)).alloc (.map #[] 0)).alloc (.cells #[.slice none 0 0, .map (some w.heap.size), .map (some (w.heap.size + 1))] 117)) w.heap.size (w.heap.size + 2) w.heap.size (w.heap.size + 1) := by
  refine ⟨?_, by omega, Nat.le_refl _, by omega, by omega, ?_, ?_⟩
  · have := heap_alloc_new ((w.alloc (.map #[] 0)).alloc (.map #[] 0)) (.cells #[.slice none 0 0, .map (some w.heap.size), .map (some (w.heap.size + 1))] 117)
    simpa using this
  · exact (((Mp.made w).alloc _).alloc _).mono (by omega)
  · have := (Mp.made (w.alloc (.map #[] 0))).alloc (.cells #[.slice none 0 0, .map (some w.heap.size), .map (some (w.heap.size + 1))] 117)
    simpa using this.mono (show 0 ≤ 8192 by omega)
set_option maxHeartbeats 1000000 in
theorem ofN (w : World) :
    Calls Tryz.prog 21 #[.slice none 0 0] w fun e w' => ∃ d lb fb, e = .returned (.tuple #[.pointer (some ⟨d, 0, none⟩), .int .i64 0]) ∧ DevN w' w.heap.size d lb fb ∧ Below w.heap.size w w' := by
  go_enter Tryz.func21, Tryz.ntmps21
  go_wp2_with fail
  refine (bcloneN _).mono ?_
  rintro e w1 ⟨rfl, hww⟩
  obtain rfl : w = w1 := hww.symm
  go_wp2_with fail
  refine (deviceN _).mono ?_
  rintro e w1 ⟨rfl, rfl⟩
  go_wp2_with fail
  go_ret2
  exact ⟨w.heap.size + 2, w.heap.size, w.heap.size + 1, rfl, devN_new w, Ba (Ba (B1 _ _) _) _⟩
set_option maxHeartbeats 1000000 in
theorem looseN (h : DevN w B d lb fb) :
    Calls Tryz.prog 49 #[.pointer (some ⟨d, 0, none⟩)] w fun e w' => ∃ v, e = .returned v ∧ w'.ownsRow w.heap.size 3 1 v (looseL 0 (fun _ => none)).length ((looseL 0 (fun _ => none)).map encZ) ∧ Below w.heap.size w w' := by
  have hc1 := h.c1
  obtain ⟨D0, hown, hat, hn0⟩ := h.loose
  have hbl := hown.lt
  have hsz := hown.size_le
  have hat' : ∀ k, I64 k → ∀ z, D0.atKey (.int .i64 k) z = vw (lfun (fun _ => none) k) z := hat
  have hperm := loose_keys (n := 0) (L := fun _ => none) hown hat' (fun k x hl => by cases hl) (by omega)
  have hseq : SeqGives Fence.wide 2 Tryz.prog 91 #[.pointer (some ⟨w.heap.size, 0, none⟩)] encZ (fun ss => ss.Perm (intKeys D0)) (Maps.size D0) (w.alloc (.cells #[.map (some lb)] 114)) :=
    AnyZI.keys_gives (ρ := Tryz.keysA_ren) { Tryz.keysA with } Fence.wide _ trivial rfl (by omega) w.heap.size lb 8192 D0 _ (by simp) (by simp) (by
      obtain ⟨es, clock, hb, Ft, hs, hD⟩ := hown
      exact ⟨es, clock, (Below.heap_alloc _ _ lb hbl).trans hb, Ft, hs, hD⟩)
  have cK : ∀ mb W, CallsIn Fence.wide 5 Tryz.prog 76 #[.map mb] W fun e w' => e = .returned (.func (.func 91) #[] #[.pointer (some ⟨W.heap.size, 0, none⟩)]) ∧ w' = W.alloc (.cells #[.map mb] 114) := fun mb W => AnyZI.keys_in Tryz.keysA Fence.wide 5 trivial rfl mb W
  have cS := AnyZI.sorted_in Tryz.sortedA Fence.wide 5 trivial trivial trivial trivial rfl (by omega) (sortsA _) (enters_of Tryz.func90 (by kernel_rfl) rfl) 91 #[.pointer (some ⟨w.heap.size, 0, none⟩)] trivial (enters_of Tryz.func91 (by kernel_rfl) rfl) _ _ (Nat.le_trans hsz (by decide)) (by omega) _ hseq
  change CallsIn _ _ Tryz.prog 75 _ _ _ at cS
  have hfK : Fence.wide.fn 76 := trivial
  have hfS : Fence.wide.fn 75 := trivial
  have HP := hid hperm
  clear hseq hperm hat hat' hsz h hn0
  refine (callsIn_wide (n := 6)).1 ?_
  refine callsIn_of_wp Tryz.func49 rfl trivial ?_ rfl
  simp only [Tryz.ntmps49, List.size_toArray, List.length_cons, List.length_nil, Nat.reduceAdd, Nat.reduceSub, Array.replicate_succ, Array.replicate_zero, List.push_toArray, List.append_toArray, List.nil_append, List.cons_append]
  gi_wp2_with (first
    | (gi_at_call 76; refine (cK _ _).mono ?_; rintro e w' ⟨rfl, rfl⟩)
    | (gi_at_call 75; refine cS.mono ?_; rintro e w' ⟨v, ss, rfl, hS, hrow, hnil, hb⟩))
  go_ret
  have e1 : ss.mergeSort (fun x y => decide (x ≤ y)) = looseL 0 (fun _ => none) := (mergeSort_of_perm_i (hS.trans HP.out.symm)).trans (looseL_sort _ _)
  have e2 : ss.length = (looseL 0 (fun _ => none)).length := (hS.trans HP.out.symm).length_eq
  rw [e1, e2] at hrow
  exact ⟨v, rfl, ownsRow_base_a hrow (by simp), ((Below.refl _ w).alloc (Nat.le_refl _) _).trans (hb.mono (by simp))⟩
theorem rgE0 (at_ words : Int) : rgE 0 at_ words ≠ 0 := by
  intro h
  have := rgE_ok h
  omega
set_option maxHeartbeats 1000000 in
theorem rgN (h : DevN w B d lb fb) (at_ words : Int) (ha : I64 at_) (hw : I64 words) :
    Calls Tryz.prog 28 #[.pointer (some ⟨d, 0, none⟩), .int .i64 at_, .int .i64 words] w fun e w' => e = .returned (.tuple #[.agg #[.pointer none, .int .i64 0, .int .i64 0], .int .i64 (rgE 0 at_ words)]) ∧ Below w.heap.size w w' := by
  have HL := hid (fun o => lenN (h.on (B1 w o)))
  have he := rgE0 at_ words
  clear h
  have ha' := i64_iff.1 ha; have hw' := i64_iff.1 hw
  clear ha hw
  unfold rgE at he ⊢
  by_cases c1 : words < 1
  · rw [if_pos c1]
    have d1 : decide (words < 1) = true := by simp; omega
    clear he
    go_enter Tryz.func28, Tryz.ntmps28
    go_wp2_with fail
    refine bodyPost_ret (v := .tuple #[.agg #[.pointer none, .int .i64 0, .int .i64 0], .int .i64 1]) ?_ rfl ⟨rfl, B1 w _⟩
    simp [results, Tryz.f28, go_sem]
  · rw [if_neg c1] at he ⊢
    have c2 : at_ < 0 ∨ 0 - at_ < words := by omega
    rw [if_pos c2]
    clear he
    have d1 : decide (words < 1) = false := by simp; omega
    by_cases c3 : at_ < 0
    · have d2 : decide (at_ < 0) = true := by simp; omega
      go_enter Tryz.func28, Tryz.ntmps28
      go_wp2_with fail
      refine bodyPost_ret (v := .tuple #[.agg #[.pointer none, .int .i64 0, .int .i64 0], .int .i64 30]) ?_ rfl ⟨rfl, B1 w _⟩
      simp [results, Tryz.f28, go_sem]
    · have d2 : decide (at_ < 0) = false := by simp; omega
      have q2 : IntKind.i64.wrap (-at_) = -at_ := by rw [IntKind.wrap_i64]; omega
      have d3 : decide (-at_ < words) = true := by simp; omega
      have d3' : -at_ < words := by omega
      clear c2
      go_enter Tryz.func28, Tryz.ntmps28
      go_wp2_with fail
      refine (HL.out _).mono ?_
      rintro e w1 ⟨rfl, rfl⟩
      go_wp2_with fail
      refine bodyPost_ret (v := .tuple #[.agg #[.pointer none, .int .i64 0, .int .i64 0], .int .i64 30]) ?_ rfl ⟨rfl, B1 w _⟩
      simp [results, Tryz.f28, go_sem]
theorem recoverN (h : DevN w B d lb fb) {at_ words : Int} (ha : I64 at_) (hw : I64 words) :
    Calls Tryz.prog 18 #[.pointer (some ⟨d, 0, none⟩), .int .i64 at_, .int .i64 words] w fun e w' => e = .returned (.tuple #[.int .i64 0, .int .i64 (rgE 0 at_ words)]) ∧ Below w.heap.size w w' := by
  have hr := rgN h at_ words ha hw
  have he := rgE0 at_ words
  obtain ⟨x, hx⟩ : ∃ x, x = rgE 0 at_ words := ⟨_, rfl⟩
  rw [← hx] at hr he ⊢
  have HR := hid hr
  have d1 : (x == 0) = false := by rw [beq_eq_false_iff_ne]; exact he
  clear h hr hx ha hw
  go_enter Tryz.func18, Tryz.ntmps18
  go_wp2_with fail
  refine HR.out.mono ?_
  rintro e w1 ⟨rfl, hb1⟩
  go_wp2_with fail
  go_ret2
  exact ⟨rfl, Ba hb1 _⟩
end
end Go.Proofs.YtoacdnicnfpceaaGreat

namespace Go.Proofs.YtoacdnicnfpceaaGreat
open Go.RowKit Go.Maps Go.Shelf
set_option linter.unusedVariables false

theorem words_nil : wordsOf (cl []) = [] := rfl
theorem good_nil : (cl []).good := ⟨by simp [cl], fun k x h => by cases h⟩
theorem words_op {o : OpV} (hn : o.bs.length = o.nb) : wordsOf (opD (cl []) o) = wordsOf (cl []) := by
  have : (opD (cl []) o).S.length = 0 := opD_length o hn
  rw [words_nil]
  refine List.eq_nil_of_length_eq_zero ?_
  rw [wordsOf_length, this]
section
variable {w w' : World} {B d lb fb : Nat}
set_option maxHeartbeats 2000000 in
theorem doesN (h : DevN w B d lb fb) (o : OpV) (ho : o.ok w w.heap.size) :
    Calls Tryz.prog 23 #[.pointer (some ⟨d, 0, none⟩), o.val] w fun e w' => e = .returned (.tuple #[]) ∧ DevN w' B d lb fb ∧ Fr lb lb fb w w' := by
  obtain ⟨kind, at_, long, ab, nb, cb, bs, ak, nk, ck, ks⟩ := o
  obtain ⟨hk, ha, hl, hb, hkk⟩ := ho
  simp only at hk ha hl hb hkk
  unfold OpV.val
  obtain ⟨ob, hob⟩ : ∃ ob : Obj, ob = .cells #[.int .i64 kind, .int .i64 at_, .int .i64 long, .slice ab nb cb, .slice ak nk ck] 54 := ⟨_, rfl⟩
  have HD1 := hid (h.on (B1 w ob))
  have HR := hid (hb.on (B1 w ob)); have HK := hid (hkk.on (B1 w ob)); have HA := hid ha; have HLg := hid hl
  have HFR : Hid (Fr lb lb fb w (w.alloc ob)) := (Fr.refl lb lb fb w).alloc ob
  rw [hob] at HD1 HR HK HFR
  clear h hb hkk ha hl hk hob
  by_cases k0 : kind = 0
  · subst k0
    go_enter Tryz.func23, Tryz.ntmps23
    go_wp2_with fail
    refine (writeN HD1.out at_ HA.out HR.out).mono ?_
    rintro e w1 ⟨er, rfl, rfl⟩
    go_wp2_with fail
    go_end0
    exact ⟨rfl, HD1.out, HFR.out⟩
  by_cases k2 : kind = 2
  · subst k2
    go_enter Tryz.func23, Tryz.ntmps23
    go_wp2_with fail
    refine (flushN HD1.out at_ long HA.out HLg.out).mono ?_
    rintro e w1 ⟨er, rfl, rfl⟩
    go_wp2_with fail
    go_end0
    exact ⟨rfl, HD1.out, HFR.out⟩
  by_cases k3 : kind = 3
  · subst k3
    go_enter Tryz.func23, Tryz.ntmps23
    go_wp2_with fail
    refine (fenceN HD1.out).mono ?_
    rintro e w1 ⟨rfl, hd1, hf1⟩
    have HD2 := hid hd1; have HF := hid hf1; clear hd1 hf1
    go_wp2_with fail
    go_end0
    exact ⟨rfl, HD2.out, HFR.out.trans HF.out⟩
  by_cases k4 : kind = 4
  · subst k4
    go_enter Tryz.func23, Tryz.ntmps23
    go_wp2_with fail
    refine (crashN HD1.out HK.out).mono ?_
    rintro e w1 ⟨rfl, hd1, hf1⟩
    have HD2 := hid hd1; have HF := hid hf1; clear hd1 hf1
    go_wp2_with fail
    go_end0
    exact ⟨rfl, HD2.out, HFR.out.trans HF.out⟩
  have e0 : (kind == 0) = false := by simpa using k0
  have e2 : (kind == 2) = false := by simpa using k2
  have e3 : (kind == 3) = false := by simpa using k3
  have e4 : (kind == 4) = false := by simpa using k4
  go_enter Tryz.func23, Tryz.ntmps23
  go_wp2_with fail
  go_end0
  exact ⟨rfl, HD1.out, HFR.out⟩
set_option maxRecDepth 20000 in
set_option maxHeartbeats 4000000 in
theorem sameN {A : Option Addr} {c : Nat} (h : DevN w B d lb fb) (ho : RdW w w.heap.size A 0 c []) :
    Calls Tryz.prog 17 #[.pointer (some ⟨d, 0, none⟩), .slice A 0 c] w fun e w' => e = .returned (.bool true) ∧ Below w.heap.size w w' := by
  have HDW : Hid (DevN w B d lb fb ∧ RdW w w.heap.size A 0 c []) := ⟨h, ho⟩
  have hcvn : ∀ W, (convert 22 9 (.slice none 0 0)).run Tryz.prog W = .ok (.string ⟨#[]⟩) W := fun W => (Rd.nil W 0).conv
  clear h ho
  go_enter Tryz.func17, Tryz.ntmps17
  go_wp2_with fail
  refine reg_begin (by kernel_rfl) (fun w0 hx0 hHeld => ?_)
  have HDW0 : Hid (DevN w0 B d lb fb ∧ RdW w0 w0.heap.size A 0 c []) := ⟨HDW.out.1.on hx0, HDW.out.2.on hx0⟩
  have hfin := hx0
  refine reg_take 0 (v := ?vz1_0) at0 (by kernel_rfl) (by kernel_rfl) (by kernel_rfl) (by rfl) ?hyz1_0 hHeld ?restz1_0
  case hyz1_0 => (intro w' hSw; go_simp; try with_reducible rfl)
  try simp only [Act.put, List.setIfInBounds_toArray, List.set_cons_zero, List.set_cons_succ]
  refine reg_take 3 (v := ?vz2_3) (atS (atS (atS at0))) (by kernel_rfl) (by kernel_rfl) (by kernel_rfl) (by rfl) ?hyz2_3 hHeld ?restz2_3
  case hyz2_3 => (intro w' hSw; go_simp; try with_reducible rfl)
  try simp only [Act.put, List.setIfInBounds_toArray, List.set_cons_zero, List.set_cons_succ]
  refine wpAnyH_ready (rs := [1]) (by kernel_rfl) (by simp) ?_
  refine AllReadyH.cons (atS at0) (fun K hK => ?_) AllReadyH.nil
  go_simp
  refine (bytesN HDW0.out.1).mono ?_
  rintro e w2 ⟨rfl, rfl⟩
  go_wp2_with fail
  refine hK.out _ _ (Ext.refl _) (fun hHeld => ?_)
  clear hK K
  try simp only [Act.put, List.setIfInBounds_toArray, List.set_cons_zero, List.set_cons_succ]
  refine reg_take 2 (v := ?vz3_2) (atS (atS at0)) (by kernel_rfl) (by kernel_rfl) (by kernel_rfl) (by rfl) ?hyz3_2 hHeld ?restz3_2
  case hyz3_2 => (intro w' hSw; go_simp; try with_reducible rfl)
  try simp only [Act.put, List.setIfInBounds_toArray, List.set_cons_zero, List.set_cons_succ]
  refine wpAnyH_ready (rs := [4]) (by kernel_rfl) (by simp) ?_
  refine AllReadyH.cons (atS (atS (atS (atS at0)))) (fun K hK => ?_) AllReadyH.nil
  go_simp
  refine (rbytes_any HDW0.out.2 (fun x hx => by cases hx) (by omega)).mono ?_
  rintro e w3 ⟨rfl, hb3⟩
  rw [show seenL [] = [] from rfl]
  go_wp2_with fail
  refine hK.out _ _ hb3 (fun hHeld => ?_)
  clear hK K
  try simp only [Act.put, List.setIfInBounds_toArray, List.set_cons_zero, List.set_cons_succ]
  refine reg_on hb3 (fun hHeld => ?_)
  have HDW3 : Hid (DevN w3 B d lb fb ∧ RdW w3 w3.heap.size A 0 c []) := ⟨HDW0.out.1.on hb3, HDW0.out.2.on hb3⟩
  have hfin := Bt hfin hb3
  refine reg_take 5 (v := ?vz4_5) (atS5 at0) (by kernel_rfl) (by kernel_rfl) (by kernel_rfl) (by rfl) ?hyz4_5 hHeld ?restz4_5
  case hyz4_5 => (intro w' hSw; go_simp; try with_reducible rfl)
  try simp only [Act.put, List.setIfInBounds_toArray, List.set_cons_zero, List.set_cons_succ]
  refine reg_take 6 (v := ?vz5_6) (atS5 (atS at0)) (by kernel_rfl) (by kernel_rfl) (by kernel_rfl) (by rfl) ?hyz5_6 hHeld ?restz5_6
  case hyz5_6 => (intro w' hSw; go_simp; try with_reducible rfl)
  try simp only [Act.put, List.setIfInBounds_toArray, List.set_cons_zero, List.set_cons_succ]
  refine reg_take 7 (v := ?vz6_7) (atS5 (atS (atS at0))) (by kernel_rfl) (by kernel_rfl) (by kernel_rfl) (by rfl) ?hyz6_7 hHeld ?restz6_7
  case hyz6_7 => (intro w' hSw; go_simp; try with_reducible rfl)
  try simp only [Act.put, List.setIfInBounds_toArray, List.set_cons_zero, List.set_cons_succ]
  refine reg_take 9 (v := ?vz7_9) (atS5 (atS (atS (atS (atS at0))))) (by kernel_rfl) (by kernel_rfl) (by kernel_rfl) (by rfl) ?hyz7_9 hHeld ?restz7_9
  case hyz7_9 => (intro w' hSw; go_simp; try with_reducible rfl)
  try simp only [Act.put, List.setIfInBounds_toArray, List.set_cons_zero, List.set_cons_succ]
  refine wpAnyH_ready (rs := [8]) (by kernel_rfl) (by simp) ?_
  refine AllReadyH.cons (atS5 (atS (atS (atS at0)))) (fun K hK => ?_) AllReadyH.nil
  go_simp
  refine (looseN HDW3.out.1).mono ?_
  rintro e w4 ⟨v4, rfl, hr4, hb4⟩
  obtain ⟨A4, c4, hv4, hi4⟩ := rdI_of_row hr4 (looseL_64 (n := 0) (by omega))
  subst hv4
  clear hr4
  go_wp2_with fail
  refine hK.out _ _ hb4 (fun hHeld => ?_)
  clear hK K
  try simp only [Act.put, List.setIfInBounds_toArray, List.set_cons_zero, List.set_cons_succ]
  refine reg_on hb4 (fun hHeld => ?_)
  have HDW4 : Hid (DevN w4 B d lb fb ∧ RdW w4 w4.heap.size A 0 c []) := ⟨HDW3.out.1.on hb4, HDW3.out.2.on hb4⟩
  have hfin := Bt hfin hb4
  refine wpAnyH_ready (rs := [10]) (by kernel_rfl) (by simp) ?_
  refine AllReadyH.cons (atS5 (atS5 at0)) (fun K hK => ?_) AllReadyH.nil
  go_simp
  refine (rloose_any HDW4.out.2 (by omega)).mono ?_
  rintro e w5 ⟨v5, rfl, hr5, hb5⟩
  rw [show looseW [] = looseL 0 (fun _ => none) from rfl] at hr5
  obtain ⟨A5, c5, hv5, hi5⟩ := rdI_of_row hr5 (looseL_64 (n := 0) (by omega))
  subst hv5
  clear hr5
  go_wp2_with fail
  refine hK.out _ _ hb5 (fun hHeld => ?_)
  clear hK K
  try simp only [Act.put, List.setIfInBounds_toArray, List.set_cons_zero, List.set_cons_succ]
  refine reg_on hb5 (fun hHeld => ?_)
  have HDW5 : Hid (DevN w5 B d lb fb ∧ RdW w5 w5.heap.size A 0 c []) := ⟨HDW4.out.1.on hb5, HDW4.out.2.on hb5⟩
  have hfin := Bt hfin hb5
  refine wpAnyH_ready (rs := [11]) (by kernel_rfl) (by simp) ?_
  refine AllReadyH.cons (atS5 (atS5 (atS at0))) (fun K hK => ?_) AllReadyH.nil
  go_simp
  refine (same_any (by first | exact hi4 | exact hi4.on hb5) (by first | exact hi5 | exact hi5.on hb4) rfl).mono ?_
  rintro e w6 ⟨rfl, hb6⟩
  go_wp2_with fail
  refine hK.out _ _ hb6 (fun hHeld => ?_)
  clear hK K
  try simp only [Act.put, List.setIfInBounds_toArray, List.set_cons_zero, List.set_cons_succ]
  refine reg_on hb6 (fun hHeld => ?_)
  have hfin := Bt hfin hb6
  refine reg_take 12 (v := ?vz8_12) (atS5 (atS5 (atS (atS at0)))) (by kernel_rfl) (by kernel_rfl) (by kernel_rfl) (by rfl) ?hyz8_12 hHeld ?restz8_12
  case hyz8_12 => (intro w' hSw; go_simp; try with_reducible rfl)
  try simp only [Act.put, List.setIfInBounds_toArray, List.set_cons_zero, List.set_cons_succ]
  refine reg_take 13 (v := ?vz9_13) (atS5 (atS5 (atS (atS (atS at0))))) (by kernel_rfl) (by kernel_rfl) (by kernel_rfl) (by rfl) ?hyz9_13 hHeld ?restz9_13
  case hyz9_13 => (intro w' hSw; go_simp; try with_reducible rfl)
  try simp only [Act.put, List.setIfInBounds_toArray, List.set_cons_zero, List.set_cons_succ]
  refine wpAnyH_done (by kernel_rfl) ?_ _
  refine NoPanic.normal ?_
  go_wp2_with fail
  go_ret
  exact ⟨rfl, hfin⟩
end
end Go.Proofs.YtoacdnicnfpceaaGreat
