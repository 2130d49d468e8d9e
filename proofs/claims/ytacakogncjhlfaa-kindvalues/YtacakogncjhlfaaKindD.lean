/-
  Contract of the document's Decode (written by tools/kindd.py).
-/
import Derived.Test.YtacakogncjhlfaaKindB
namespace Go.Proofs.Ytacakogncjhlfaa
open Go.RowKit
set_option linter.unusedVariables false
set_option linter.unusedSimpArgs false

/-- What bytes say, by a field's kind. -/
def decN (k : Int) (l : List UInt8) : Int := if k = 12 then 0 else if 4 < k ∧ k < 9 then sgn (getN l 0 l.length) l.length else getN l 0 l.length
def decT (k : Int) (l : List UInt8) : ByteArray := if k = 12 then ⟨l.toArray⟩ else ⟨#[]⟩
def decB (l : List UInt8) (k g : Int) : Bool := rightF k (decN k l) (decT k l).size k g && decide ((encT k (decN k l) (decT k l) k g).toList = l)
def decR (l : List UInt8) (k g : Int) : Value := if decB l k g then .tuple #[.agg #[.int .i64 k, .int .u64 (decN k l), .string (decT k l)], .int .i64 0] else .tuple #[.agg #[.int .i64 0, .int .u64 0, .string ⟨#[]⟩], .int .i64 50]
theorem decR_ok {l : List UInt8} {k g : Int} (h : decB l k g = true) : decR l k g = .tuple #[.agg #[.int .i64 k, .int .u64 (decN k l), .string (decT k l)], .int .i64 0] := by simp [decR, h]
theorem decR_no {l : List UInt8} {k g : Int} (h : decB l k g = false) : decR l k g = .tuple #[.agg #[.int .i64 0, .int .u64 0, .string ⟨#[]⟩], .int .i64 50] := by simp [decR, h]
theorem getN_U64 (l : List UInt8) (a x : Int) : U64 (getN l a x) := by
  unfold getN; split
  · rename_i h
    have hw0 : isW x = true := by
      unfold holdsB at h
      rw [Bool.and_eq_true, Bool.and_eq_true] at h
      exact h.1.1
    have hw := isW_cases hw0
    have hb := num_bounds ((l.drop a.toNat).take x.toNat)
    have hle : ((l.drop a.toNat).take x.toNat).length ≤ 8 := by rw [List.length_take]; omega
    refine ⟨hb.1, Int.lt_of_lt_of_le hb.2 ?_⟩
    rw [pw8]
    have h8 : ∀ m : Nat, m ≤ 8 → pw (m : Int) ≤ 18446744073709551616 := by
      intro m hm
      have : m = 0 ∨ m = 1 ∨ m = 2 ∨ m = 3 ∨ m = 4 ∨ m = 5 ∨ m = 6 ∨ m = 7 ∨ m = 8 := by omega
      rcases this with rfl | rfl | rfl | rfl | rfl | rfl | rfl | rfl | rfl <;> decide
    exact h8 _ hle
  · exact ⟨by decide, by rw [pw8]; decide⟩
theorem decN_U64 (k : Int) (l : List UInt8) : U64 (decN k l) := by
  unfold decN; split
  · exact ⟨by decide, by rw [pw8]; decide⟩
  · split
    · exact sgn_U64 _ _ (getN_U64 _ _ _)
    · exact getN_U64 _ _ _
theorem vb_new2 (w : World) (o : Obj) (k n : Int) (t : ByteArray) : VB ((w.alloc o).alloc (.cells #[.int .i64 k, .int .u64 n, .string t] 24)) (w.heap.size + 1) k n t := by
  have h := vb_new (w.alloc o) k n t
  rwa [World.size_alloc] at h
theorem vb_new3 (w : World) (o o' : Obj) (k n : Int) (t : ByteArray) : VB (((w.alloc o).alloc o').alloc (.cells #[.int .i64 k, .int .u64 n, .string t] 24)) (w.heap.size + 1 + 1) k n t := by
  have h := vb_new2 (w.alloc o) o' k n t
  rwa [World.size_alloc] at h
set_option maxHeartbeats 2000000 in
theorem rdecode_12 (nm : ByteArray) (l : List UInt8) (k g : Int) (w : World) (hl : l.length ≤ 1000) (hk : k = 12) :
    Calls Try.prog 15 #[.string ⟨l.toArray⟩, .agg #[.string nm, .int .i64 k, .int .i64 g]] w fun e w' => e = .returned (decR l k g) ∧ Below w.heap.size w w' := by
  subst hk
  have hn := decN_U64 12 l
  have hli : (l.length : Int) ≤ 1000 := by omega
  have hlm : l.length ≤ 9223372036854775807 := by omega
  have hN : decN 12 l = 0 := by simp [decN]
  have hT : decT 12 l = ⟨l.toArray⟩ := by simp [decT]
  rw [hN] at hn
  go_enter Try.func15, Try.ntmps15
  go_wp2_with fail
  go_at_call 13
  refine (rencode_any _ _ _ _ _ _ _ hn).mono ?_
  rintro e w1 ⟨rfl, hb1⟩
  have hV := (vb_new3 w (.cells #[.string nm, .int .i64 12, .int .i64 g] 26) (.cells #[.int .i64 0, .int .u64 0, .string ⟨#[]⟩] 24) 12 (0) (⟨l.toArray⟩)).on hb1
  have hR := ((vb_new2 w (.cells #[.string nm, .int .i64 12, .int .i64 g] 26) 0 0 ⟨#[]⟩).alloc (.cells #[.int .i64 12, .int .u64 (0), .string (⟨l.toArray⟩)] 24)).on hb1
  have hbw : Below w.heap.size w w1 := Bt (Ba (Ba (B1 _ _) _) _) hb1
  have HX := hid hV; have HR := hid hR
  obtain ⟨r0, r1, r2⟩ := hR.cells
  obtain ⟨v0, v1, v2⟩ := hV.cells
  have g0 := hR.frozen 0
  have g1 := hR.frozen 1
  have g2 := hR.frozen 2
  clear hV hR hb1
  have hsw : ∀ (kk nn : Int) (tt : ByteArray), Below w.heap.size w (((w1.setCell ⟨w.heap.size + 1, 0, none⟩ (.int .i64 kk)).setCell ⟨w.heap.size + 1, 1, none⟩ (.int .u64 nn)).setCell ⟨w.heap.size + 1, 2, none⟩ (.string tt)) := fun _ _ _ => ((hbw.setCell (by simp) _).setCell (by simp) _).setCell (by simp) _
  have HS := hid hsw
  clear hsw hbw
  by_cases hr : rightF 12 (0) (ByteArray.size (⟨l.toArray⟩)) 12 g = true
  · have he : encE 12 (0) (⟨l.toArray⟩) 12 g = 0 := by simp [encE, hr]
    rw [he]
    by_cases hq : ((encT 12 (0) (⟨l.toArray⟩) 12 g).toList == l) = true
    · have hd : decB l 12 g = true := by rw [decB, hN, hT, hr]; simpa using hq
      go_wp2_with fail
      refine ret_VBe (by rfl) (by rfl) (((HR.out.setKind 12).setBits (0)).setText (⟨l.toArray⟩)) (by rfl) (by rfl) ⟨by rw [decR_ok hd, hN, hT]; rfl, HS.out _ _ _⟩
    · have hq : ((encT 12 (0) (⟨l.toArray⟩) 12 g).toList == l) = false := by simpa using hq
      have hd : decB l 12 g = false := by rw [decB, hN, hT, hr]; simpa using hq
      go_wp2_with fail
      refine ret_VBe (by rfl) (by rfl) (((HR.out.setKind 0).setBits 0).setText ⟨#[]⟩) (by rfl) (by rfl) ⟨by rw [decR_no hd]; rfl, HS.out _ _ _⟩
  · have hr : rightF 12 (0) (ByteArray.size (⟨l.toArray⟩)) 12 g = false := by simpa using hr
    have he : encE 12 (0) (⟨l.toArray⟩) 12 g = 50 := by simp [encE, hr]
    have hd : decB l 12 g = false := by rw [decB, hN, hT, hr]; rfl
    rw [he]
    go_wp2_with fail
    refine ret_VBe (by rfl) (by rfl) (((HR.out.setKind 0).setBits 0).setText ⟨#[]⟩) (by rfl) (by rfl) ⟨by rw [decR_no hd]; rfl, HS.out _ _ _⟩

set_option maxHeartbeats 2000000 in
theorem rdecode_s (nm : ByteArray) (l : List UInt8) (k g : Int) (w : World) (hl : l.length ≤ 1000) (h4 : 4 < k) (h9 : k < 9) :
    Calls Try.prog 15 #[.string ⟨l.toArray⟩, .agg #[.string nm, .int .i64 k, .int .i64 g]] w fun e w' => e = .returned (decR l k g) ∧ Below w.heap.size w w' := by
  have hn := decN_U64 k l
  have hli : (l.length : Int) ≤ 1000 := by omega
  have hlm : l.length ≤ 9223372036854775807 := by omega
  have b12 : (k == 12) = false := by simp; omega
  have b4 : decide (4 < k) = true := by simpa using h4
  have b9 : decide (k < 9) = true := by simpa using h9
  have hg0 := getN_U64 l 0 l.length
  have hN : decN k l = sgn (getN l 0 l.length) l.length := by rw [decN, if_neg (by omega), if_pos ⟨h4, h9⟩]
  have hT : decT k l = ⟨#[]⟩ := by rw [decT, if_neg (by omega)]
  rw [hN] at hn
  go_enter Try.func15, Try.ntmps15
  go_wp2_with fail
  go_at_call 34
  refine (rget_any l _ _ _ hlm).mono ?_
  rintro e w' ⟨rfl, rfl⟩
  go_wp2_with fail
  go_at_call 35
  refine (rsign_any _ _ _ hg0).mono ?_
  rintro e w' ⟨rfl, rfl⟩
  go_wp2_with fail
  go_at_call 13
  refine (rencode_any _ _ _ _ _ _ _ hn).mono ?_
  rintro e w1 ⟨rfl, hb1⟩
  have hV := (vb_new3 w (.cells #[.string nm, .int .i64 k, .int .i64 g] 26) (.cells #[.int .i64 0, .int .u64 0, .string ⟨#[]⟩] 24) k (sgn (getN l 0 l.length) l.length) (⟨#[]⟩)).on hb1
  have hR := ((vb_new2 w (.cells #[.string nm, .int .i64 k, .int .i64 g] 26) 0 0 ⟨#[]⟩).alloc (.cells #[.int .i64 k, .int .u64 (sgn (getN l 0 l.length) l.length), .string (⟨#[]⟩)] 24)).on hb1
  have hbw : Below w.heap.size w w1 := Bt (Ba (Ba (B1 _ _) _) _) hb1
  have HX := hid hV; have HR := hid hR
  obtain ⟨r0, r1, r2⟩ := hR.cells
  obtain ⟨v0, v1, v2⟩ := hV.cells
  have g0 := hR.frozen 0
  have g1 := hR.frozen 1
  have g2 := hR.frozen 2
  clear hV hR hb1
  have hsw : ∀ (kk nn : Int) (tt : ByteArray), Below w.heap.size w (((w1.setCell ⟨w.heap.size + 1, 0, none⟩ (.int .i64 kk)).setCell ⟨w.heap.size + 1, 1, none⟩ (.int .u64 nn)).setCell ⟨w.heap.size + 1, 2, none⟩ (.string tt)) := fun _ _ _ => ((hbw.setCell (by simp) _).setCell (by simp) _).setCell (by simp) _
  have HS := hid hsw
  clear hsw hbw
  by_cases hr : rightF k (sgn (getN l 0 l.length) l.length) (ByteArray.size (⟨#[]⟩)) k g = true
  · have he : encE k (sgn (getN l 0 l.length) l.length) (⟨#[]⟩) k g = 0 := by simp [encE, hr]
    rw [he]
    by_cases hq : ((encT k (sgn (getN l 0 l.length) l.length) (⟨#[]⟩) k g).toList == l) = true
    · have hd : decB l k g = true := by rw [decB, hN, hT, hr]; simpa using hq
      go_wp2_with fail
      refine ret_VBe (by rfl) (by rfl) (((HR.out.setKind k).setBits (sgn (getN l 0 l.length) l.length)).setText (⟨#[]⟩)) (by rfl) (by rfl) ⟨by rw [decR_ok hd, hN, hT]; rfl, HS.out _ _ _⟩
    · have hq : ((encT k (sgn (getN l 0 l.length) l.length) (⟨#[]⟩) k g).toList == l) = false := by simpa using hq
      have hd : decB l k g = false := by rw [decB, hN, hT, hr]; simpa using hq
      go_wp2_with fail
      refine ret_VBe (by rfl) (by rfl) (((HR.out.setKind 0).setBits 0).setText ⟨#[]⟩) (by rfl) (by rfl) ⟨by rw [decR_no hd]; rfl, HS.out _ _ _⟩
  · have hr : rightF k (sgn (getN l 0 l.length) l.length) (ByteArray.size (⟨#[]⟩)) k g = false := by simpa using hr
    have he : encE k (sgn (getN l 0 l.length) l.length) (⟨#[]⟩) k g = 50 := by simp [encE, hr]
    have hd : decB l k g = false := by rw [decB, hN, hT, hr]; rfl
    rw [he]
    go_wp2_with fail
    refine ret_VBe (by rfl) (by rfl) (((HR.out.setKind 0).setBits 0).setText ⟨#[]⟩) (by rfl) (by rfl) ⟨by rw [decR_no hd]; rfl, HS.out _ _ _⟩

set_option maxHeartbeats 2000000 in
theorem rdecode_l (nm : ByteArray) (l : List UInt8) (k g : Int) (w : World) (hl : l.length ≤ 1000) (h4 : k ≤ 4) :
    Calls Try.prog 15 #[.string ⟨l.toArray⟩, .agg #[.string nm, .int .i64 k, .int .i64 g]] w fun e w' => e = .returned (decR l k g) ∧ Below w.heap.size w w' := by
  have hn := decN_U64 k l
  have hli : (l.length : Int) ≤ 1000 := by omega
  have hlm : l.length ≤ 9223372036854775807 := by omega
  have b12 : (k == 12) = false := by simp; omega
  have b4 : decide (4 < k) = false := by simp; omega
  have hN : decN k l = getN l 0 l.length := by rw [decN, if_neg (by omega), if_neg (by omega)]
  have hT : decT k l = ⟨#[]⟩ := by rw [decT, if_neg (by omega)]
  rw [hN] at hn
  go_enter Try.func15, Try.ntmps15
  go_wp2_with fail
  go_at_call 34
  refine (rget_any l _ _ _ hlm).mono ?_
  rintro e w' ⟨rfl, rfl⟩
  go_wp2_with fail
  go_at_call 13
  refine (rencode_any _ _ _ _ _ _ _ hn).mono ?_
  rintro e w1 ⟨rfl, hb1⟩
  have hV := (vb_new3 w (.cells #[.string nm, .int .i64 k, .int .i64 g] 26) (.cells #[.int .i64 0, .int .u64 0, .string ⟨#[]⟩] 24) k (getN l 0 l.length) (⟨#[]⟩)).on hb1
  have hR := ((vb_new2 w (.cells #[.string nm, .int .i64 k, .int .i64 g] 26) 0 0 ⟨#[]⟩).alloc (.cells #[.int .i64 k, .int .u64 (getN l 0 l.length), .string (⟨#[]⟩)] 24)).on hb1
  have hbw : Below w.heap.size w w1 := Bt (Ba (Ba (B1 _ _) _) _) hb1
  have HX := hid hV; have HR := hid hR
  obtain ⟨r0, r1, r2⟩ := hR.cells
  obtain ⟨v0, v1, v2⟩ := hV.cells
  have g0 := hR.frozen 0
  have g1 := hR.frozen 1
  have g2 := hR.frozen 2
  clear hV hR hb1
  have hsw : ∀ (kk nn : Int) (tt : ByteArray), Below w.heap.size w (((w1.setCell ⟨w.heap.size + 1, 0, none⟩ (.int .i64 kk)).setCell ⟨w.heap.size + 1, 1, none⟩ (.int .u64 nn)).setCell ⟨w.heap.size + 1, 2, none⟩ (.string tt)) := fun _ _ _ => ((hbw.setCell (by simp) _).setCell (by simp) _).setCell (by simp) _
  have HS := hid hsw
  clear hsw hbw
  by_cases hr : rightF k (getN l 0 l.length) (ByteArray.size (⟨#[]⟩)) k g = true
  · have he : encE k (getN l 0 l.length) (⟨#[]⟩) k g = 0 := by simp [encE, hr]
    rw [he]
    by_cases hq : ((encT k (getN l 0 l.length) (⟨#[]⟩) k g).toList == l) = true
    · have hd : decB l k g = true := by rw [decB, hN, hT, hr]; simpa using hq
      go_wp2_with fail
      refine ret_VBe (by rfl) (by rfl) (((HR.out.setKind k).setBits (getN l 0 l.length)).setText (⟨#[]⟩)) (by rfl) (by rfl) ⟨by rw [decR_ok hd, hN, hT]; rfl, HS.out _ _ _⟩
    · have hq : ((encT k (getN l 0 l.length) (⟨#[]⟩) k g).toList == l) = false := by simpa using hq
      have hd : decB l k g = false := by rw [decB, hN, hT, hr]; simpa using hq
      go_wp2_with fail
      refine ret_VBe (by rfl) (by rfl) (((HR.out.setKind 0).setBits 0).setText ⟨#[]⟩) (by rfl) (by rfl) ⟨by rw [decR_no hd]; rfl, HS.out _ _ _⟩
  · have hr : rightF k (getN l 0 l.length) (ByteArray.size (⟨#[]⟩)) k g = false := by simpa using hr
    have he : encE k (getN l 0 l.length) (⟨#[]⟩) k g = 50 := by simp [encE, hr]
    have hd : decB l k g = false := by rw [decB, hN, hT, hr]; rfl
    rw [he]
    go_wp2_with fail
    refine ret_VBe (by rfl) (by rfl) (((HR.out.setKind 0).setBits 0).setText ⟨#[]⟩) (by rfl) (by rfl) ⟨by rw [decR_no hd]; rfl, HS.out _ _ _⟩

set_option maxHeartbeats 2000000 in
theorem rdecode_h (nm : ByteArray) (l : List UInt8) (k g : Int) (w : World) (hl : l.length ≤ 1000) (h12 : k ≠ 12) (h9 : 9 ≤ k) :
    Calls Try.prog 15 #[.string ⟨l.toArray⟩, .agg #[.string nm, .int .i64 k, .int .i64 g]] w fun e w' => e = .returned (decR l k g) ∧ Below w.heap.size w w' := by
  have hn := decN_U64 k l
  have hli : (l.length : Int) ≤ 1000 := by omega
  have hlm : l.length ≤ 9223372036854775807 := by omega
  have b12 : (k == 12) = false := by simp; omega
  have b4 : decide (4 < k) = true := by simp; omega
  have b9 : decide (k < 9) = false := by simp; omega
  have hN : decN k l = getN l 0 l.length := by rw [decN, if_neg (by omega), if_neg (by omega)]
  have hT : decT k l = ⟨#[]⟩ := by rw [decT, if_neg (by omega)]
  rw [hN] at hn
  go_enter Try.func15, Try.ntmps15
  go_wp2_with fail
  go_at_call 34
  refine (rget_any l _ _ _ hlm).mono ?_
  rintro e w' ⟨rfl, rfl⟩
  go_wp2_with fail
  go_at_call 13
  refine (rencode_any _ _ _ _ _ _ _ hn).mono ?_
  rintro e w1 ⟨rfl, hb1⟩
  have hV := (vb_new3 w (.cells #[.string nm, .int .i64 k, .int .i64 g] 26) (.cells #[.int .i64 0, .int .u64 0, .string ⟨#[]⟩] 24) k (getN l 0 l.length) (⟨#[]⟩)).on hb1
  have hR := ((vb_new2 w (.cells #[.string nm, .int .i64 k, .int .i64 g] 26) 0 0 ⟨#[]⟩).alloc (.cells #[.int .i64 k, .int .u64 (getN l 0 l.length), .string (⟨#[]⟩)] 24)).on hb1
  have hbw : Below w.heap.size w w1 := Bt (Ba (Ba (B1 _ _) _) _) hb1
  have HX := hid hV; have HR := hid hR
  obtain ⟨r0, r1, r2⟩ := hR.cells
  obtain ⟨v0, v1, v2⟩ := hV.cells
  have g0 := hR.frozen 0
  have g1 := hR.frozen 1
  have g2 := hR.frozen 2
  clear hV hR hb1
  have hsw : ∀ (kk nn : Int) (tt : ByteArray), Below w.heap.size w (((w1.setCell ⟨w.heap.size + 1, 0, none⟩ (.int .i64 kk)).setCell ⟨w.heap.size + 1, 1, none⟩ (.int .u64 nn)).setCell ⟨w.heap.size + 1, 2, none⟩ (.string tt)) := fun _ _ _ => ((hbw.setCell (by simp) _).setCell (by simp) _).setCell (by simp) _
  have HS := hid hsw
  clear hsw hbw
  by_cases hr : rightF k (getN l 0 l.length) (ByteArray.size (⟨#[]⟩)) k g = true
  · have he : encE k (getN l 0 l.length) (⟨#[]⟩) k g = 0 := by simp [encE, hr]
    rw [he]
    by_cases hq : ((encT k (getN l 0 l.length) (⟨#[]⟩) k g).toList == l) = true
    · have hd : decB l k g = true := by rw [decB, hN, hT, hr]; simpa using hq
      go_wp2_with fail
      refine ret_VBe (by rfl) (by rfl) (((HR.out.setKind k).setBits (getN l 0 l.length)).setText (⟨#[]⟩)) (by rfl) (by rfl) ⟨by rw [decR_ok hd, hN, hT]; rfl, HS.out _ _ _⟩
    · have hq : ((encT k (getN l 0 l.length) (⟨#[]⟩) k g).toList == l) = false := by simpa using hq
      have hd : decB l k g = false := by rw [decB, hN, hT, hr]; simpa using hq
      go_wp2_with fail
      refine ret_VBe (by rfl) (by rfl) (((HR.out.setKind 0).setBits 0).setText ⟨#[]⟩) (by rfl) (by rfl) ⟨by rw [decR_no hd]; rfl, HS.out _ _ _⟩
  · have hr : rightF k (getN l 0 l.length) (ByteArray.size (⟨#[]⟩)) k g = false := by simpa using hr
    have he : encE k (getN l 0 l.length) (⟨#[]⟩) k g = 50 := by simp [encE, hr]
    have hd : decB l k g = false := by rw [decB, hN, hT, hr]; rfl
    rw [he]
    go_wp2_with fail
    refine ret_VBe (by rfl) (by rfl) (((HR.out.setKind 0).setBits 0).setText ⟨#[]⟩) (by rfl) (by rfl) ⟨by rw [decR_no hd]; rfl, HS.out _ _ _⟩

set_option maxHeartbeats 2000000 in
theorem rdecode_any (nm : ByteArray) (l : List UInt8) (k g : Int) (w : World) (hl : l.length ≤ 1000) :
    Calls Try.prog 15 #[.string ⟨l.toArray⟩, .agg #[.string nm, .int .i64 k, .int .i64 g]] w fun e w' => e = .returned (decR l k g) ∧ Below w.heap.size w w' := by
  by_cases h12 : k = 12
  · exact rdecode_12 nm l k g w hl h12
  by_cases h4 : k ≤ 4
  · exact rdecode_l nm l k g w hl h4
  by_cases h9 : k < 9
  · exact rdecode_s nm l k g w hl (by omega) h9
  · exact rdecode_h nm l k g w hl h12 (by omega)
end Go.Proofs.Ytacakogncjhlfaa
