/-
  Contracts of kind: cut, float, Zero, Encode.
-/
import Derived.Test.YtaegencmnmjgbaaGreatM5
import Derived.Test.YtaegencmnmjgbaaGreatM11
import Derived.Test.YtaegencmnmjgbaaGreatM2
import Derived.Laws.CopyRow
import Derived.Lib.ConvBytes

namespace Go.Proofs.YtaegencmnmjgbaaGreat
open Go.RowKit
set_option linter.unusedVariables false
set_option linter.unusedSimpArgs false
def cutL (l : List UInt8) (m : Nat) : List UInt8 := (l ++ List.replicate m 0).take m
def cutT (t : ByteArray) (m : Nat) : ByteArray := ⟨(cutL t.data.toList m).toArray⟩
theorem cutL_length (l : List UInt8) (m : Nat) : (cutL l m).length = m := by simp [cutL]
theorem cutT_zero (t : ByteArray) : cutT t 0 = ⟨#[]⟩ := by simp [cutT, cutL]
theorem cutL_splice (l : List UInt8) (m : Nat) : (l.take (min l.length m)) ++ List.replicate (m - min l.length m) 0 = cutL l m := by
  unfold cutL
  by_cases h : l.length ≤ m
  · rw [Nat.min_eq_left h, List.take_length, List.take_append, List.take_of_length_le h]
    simp
  · rw [Nat.min_eq_right (by omega), List.take_append, show m - l.length = 0 by omega]
    simp
theorem run_copy_str (w : World) (m : Nat) (t : ByteArray) (ty : TypeId) :
    (Builtin.copy_ #[35, 9] ty #[.slice (some ⟨w.heap.size, 0, none⟩) m m, .string t]).run Tryz.prog (w.alloc (.cells (zrow m).toArray 5)) =
      .ok (goInt ((min t.size m : Nat) : Int)) (w.alloc (.cells ((cutL t.data.toList m).map bv).toArray 5)) := by
  obtain ⟨k, hk⟩ : ∃ k, k = min t.size m := ⟨_, rfl⟩
  have hts : t.size = t.data.toList.length := by rw [Array.length_toList]; rfl
  have hlen : ((t.data.toList.take k).map bv).length = k := by rw [List.length_map, List.length_take]; omega
  have hst := run_storeCells_at Tryz.prog w.heap.size 0 5 ((t.data.toList.take k).map bv) 0 (zrow m).toArray (w.alloc (.cells (zrow m).toArray 5)) (heap_alloc_new w _) (by rw [hlen]; simp [zrow]; omega) bv_mem
  have htk : List.take k (List.map (fun b : UInt8 => Value.int IntKind.u8 (b.toNat : Int)) t.data.toList) = (t.data.toList.take k).map bv := by
    rw [← List.map_take]; rfl
  have hmin : Nat.min t.size m = k := hk.symm
  have hs := size8
  cases hq : Tryz.prog.info? 5 with
  | none => simp [hq] at hs
  | some i =>
    simp [Builtin.copy_, run_underlying Tryz.underlying35, Builtin.lenOf, Builtin.firstCells, sizeOf, typeInfo, hq, hmin]
    rw [htk, hst]
    rw [setRow_new]
    rw [hlen]
    have e : (List.take (0 + 0) (zrow m).toArray.toList ++ List.map bv (List.take k t.data.toList) ++ List.drop (0 + 0 + k) (zrow m).toArray.toList) = (cutL t.data.toList m).map bv := by
      rw [← cutL_splice, ← hts, ← hk]
      simp [zrow]
    rw [e]
    rfl
theorem rd_row (W : World) (l : List UInt8) {m : Nat} (hl : l.length = m) (h : m ≤ 65536) : Rd (W.alloc (.cells (l.map bv).toArray 5)) (W.alloc (.cells (l.map bv).toArray 5)).heap.size (some ⟨W.heap.size, 0, none⟩) m m l := by
  refine ⟨hl, Nat.le_refl _, by unfold maxLen; omega, (fun h => by cases h), fun _ => ⟨_, 0, rfl, by rw [World.size_alloc]; omega, fun i hi => ?_⟩⟩
  rw [row_cell (heap_alloc_new W _)]
  simp [hi]
set_option maxHeartbeats 1000000 in
theorem cut_any (t : ByteArray) (m : Nat) (w : World) (hm : m ≤ 64) :
    Calls Tryz.prog 165 #[.string t, .int .i64 m] w fun e w' => e = .returned (.string (cutT t m)) ∧ Below w.heap.size w w' := by
  have hmk := run_make8 m m rfl (by omega) w
  have hcp := run_copy_str w m t 3
  have hcv := (rd_row w (cutL t.data.toList m) (cutL_length _ _) (by omega)).conv
  rw [show (⟨(cutL t.data.toList m).toArray⟩ : ByteArray) = cutT t m from rfl] at hcv
  go_enter Tryz.func165, Tryz.ntmps165
  go_wp2_with fail
  go_ret
  exact ⟨rfl, B1 _ _⟩
theorem run_fbits (b : Nat) (w : World) : (callFunc 166 #[.float .f64 b]).run Tryz.prog w = .ok (.value (.int .u64 (b : Int))) w := by
  rw [run_callFunc_extern Tryz.func166 (e := Extern.MathFloatBits.float64bits) (by kernel_rfl) (by kernel_rfl) (by kernel_rfl) (by kernel_rfl)]
  rfl
theorem run_i64float {n : Int} (h1 : -18446744073709551616 < n) (h2 : n < 18446744073709551616) (w : World) : (convert 2 238 (.int .i64 n)).run Tryz.prog w = .ok (.float .f64 (floatW n.natAbs (decide (n < 0)))) w := by
  rw [← f64_near h1 h2]
  simp [convert, run_underlying Tryz.underlying2, run_underlying Tryz.underlying238, go_sem, Conv.intToFloat]
theorem run_u64float {n : Int} (h1 : -18446744073709551616 < n) (h2 : n < 18446744073709551616) (w : World) : (convert 69 238 (.int .u64 n)).run Tryz.prog w = .ok (.float .f64 (floatW n.natAbs (decide (n < 0)))) w := by
  rw [← f64_near h1 h2]
  simp [convert, run_underlying Tryz.underlying69, run_underlying Tryz.underlying238, go_sem, Conv.intToFloat]
def flB (n k : Int) : Nat := if amB 5 8 k then floatW (wrap64 n).natAbs (decide (wrap64 n < 0)) else floatW n.toNat false
set_option maxHeartbeats 1000000 in
theorem float_any (vk n : Int) (t : ByteArray) (w : World) (hn : U64 n) :
    Calls Tryz.prog 167 #[.agg #[.int .i64 vk, .int .u64 n, .string t]] w fun e w' => e = .returned (.float .f64 (flB n vk)) ∧ Below w.heap.size w w' := by
  have hn1 := hn.1
  have hn2 := hn.2
  rw [pw8] at hn2
  have hw : -9223372036854775808 ≤ wrap64 n ∧ wrap64 n ≤ 9223372036854775807 := by unfold wrap64; omega
  cases ha : amB 5 8 vk with
  | true =>
    have hc := run_i64float (n := wrap64 n) (by omega) (by omega)
    have e : flB n vk = floatW (wrap64 n).natAbs (decide (wrap64 n < 0)) := by simp [flB, ha]
    rw [← e] at hc
    have HA := hid ha
    clear e ha
    go_enter Tryz.func167, Tryz.ntmps167
    go_wp2_with fail
    go_at_call 162
    refine (among_new _ _ _).mono ?_
    rintro e w1 ⟨p, rfl, ham, hb1⟩
    obtain ⟨c0, c1, c2⟩ := ((vb_new w vk n t).on hb1).cells
    go_wp2_with fail
    go_at_call 188
    refine (among_ask _ ham).mono ?_
    rintro e w2 ⟨rfl, rfl⟩
    rw [HA.out]
    go_wp2_with fail
    go_ret
    exact ⟨rfl, Bt (B1 _ _) hb1⟩
  | false =>
    have hc := run_u64float (n := n) (by omega) (by omega)
    have e : flB n vk = floatW n.natAbs (decide (n < 0)) := by
      have e1 : decide (n < 0) = false := by simp; omega
      rw [e1, show n.natAbs = n.toNat by omega]; simp [flB, ha]
    rw [← e] at hc
    have HA := hid ha
    clear e ha
    go_enter Tryz.func167, Tryz.ntmps167
    go_wp2_with fail
    go_at_call 162
    refine (among_new _ _ _).mono ?_
    rintro e w1 ⟨p, rfl, ham, hb1⟩
    obtain ⟨c0, c1, c2⟩ := ((vb_new w vk n t).on hb1).cells
    go_wp2_with fail
    go_at_call 188
    refine (among_ask _ ham).mono ?_
    rintro e w2 ⟨rfl, rfl⟩
    rw [HA.out]
    go_wp2_with fail
    go_ret
    exact ⟨rfl, Bt (B1 _ _) hb1⟩
def EncOut (w w' : World) (e : Ending) (l : List UInt8) (c : Int) : Prop :=
  ∃ A m cap, e = .returned (.tuple #[.slice A m cap, .int .i64 c]) ∧ Rd w' w'.heap.size A m cap l ∧ Below w.heap.size w w'
theorem run_bytesT (w : World) (t : ByteArray) (hl : t.size ≤ 1000000) : ∃ c w', (convert 9 35 (.string t)).run Tryz.prog w = .ok (.slice (some ⟨w.heap.size, 0, none⟩) t.size c) w' ∧ Rd w' w'.heap.size (some ⟨w.heap.size, 0, none⟩) t.size c t.toList ∧ Below w.heap.size w w' := by
  refine ⟨_, _, Lib.run_convert_string_bytes (P := Tryz.prog) w 9 35 5 t Tryz.underlying9 Tryz.underlying35 Tryz.underlying5, ?_, ?_⟩
  · rw [ByteArray.toList_eq]
    refine ⟨rfl, grownCap_ge _ _ _ _, grownCap_le_maxLen _ _ _ _ (by show t.size ≤ maxLen; unfold maxLen; omega), (fun h => by cases h), fun _ => ⟨w.heap.size, 0, rfl, by rw [Lib.bytesWorld_size]; omega, fun i hi => ?_⟩⟩
    rw [Nat.zero_add, Lib.bytesWorld_cell w 5 t i hi]
    simp [List.getD, List.getElem?_eq_getElem hi]; rfl
  · exact ⟨rfl, rfl, rfl, by rw [Lib.bytesWorld_size]; omega, fun i hi => Lib.bytesWorld_at_old w 5 t i hi⟩
set_option maxHeartbeats 2000000 in
theorem kencode_any (vk n : Int) (t nm : ByteArray) (k g : Int) (w : World) (hn : U64 n) :
    Calls Tryz.prog 84 #[.agg #[.int .i64 vk, .int .u64 n, .string t], .agg #[.string nm, .int .i64 k, .int .i64 g]] w fun e w' => EncOut w w' e (encT vk n t k g).toList (encE vk n t k g) := by
  by_cases hr : rightF vk n t.size k g = true
  · rw [show encE vk n t k g = 0 by simp [encE, hr], show encT vk n t k g = encL n t k g by simp [encT, hr]]
    by_cases h12 : k = 12
    · subst h12
      have ht : t.size ≤ 1000000 := by
        have h1 := hr
        unfold rightF at h1
        simp at h1
        have := may12 h1.1.1; omega
      rw [show encL n t 12 g = t by simp [encL]]
      go_enter Tryz.func84, Tryz.ntmps84
      go_wp2_with fail
      go_at_call 122
      refine (kright_any _ _ _ _ _ _ _ hn).mono ?_
      rintro e w1 ⟨rfl, hb1⟩
      rw [hr]
      obtain ⟨c0, c1, c2⟩ := ((fb_new2 w _ nm 12 g).on hb1).cells
      obtain ⟨d0, d1, d2⟩ := (((vb_new w vk n t).alloc _).on hb1).cells
      obtain ⟨c, w2, hrun, hrd, hb2⟩ := run_bytesT w1 t ht
      have HRD := hid hrd
      clear hrd hr ht
      go_wp2_with fail
      go_ret2
      exact ⟨_, _, _, rfl, HRD.out, Bt (Bt (Ba (B1 _ _) _) hb1) hb2⟩
    · have b12 : (k == 12) = false := by simpa using h12
      rw [show encL n t k g = ⟨((le n 8).take (longF k g).toNat).toArray⟩ by simp [encL, h12]]
      obtain ⟨m, hm⟩ := Int.eq_ofNat_of_zero_le (longF_nonneg k g)
      have hm8 : m ≤ 8 := by
        have := longF_le8 g h12
        omega
      have hf8 : fits n 8 false = true := by have h1 := hn.1; have h2 := hn.2; simp [fits, isW]; exact h2
      rw [hm, Int.toNat_natCast, ByteArray.toList_eq]
      have HM := hid hm
      have hlen : (le n 8).length = 8 := le_length _ _
      go_enter Tryz.func84, Tryz.ntmps84
      go_wp2_with fail
      go_at_call 122
      refine (kright_any _ _ _ _ _ _ _ hn).mono ?_
      rintro e w1 ⟨rfl, hb1⟩
      rw [hr]
      have hF := (fb_new2 w (.cells #[.int .i64 vk, .int .u64 n, .string t] 71) nm k g).on hb1
      have hV := ((vb_new w vk n t).alloc (.cells #[.string nm, .int .i64 k, .int .i64 g] 68)).on hb1
      obtain ⟨c0, c1, c2⟩ := hF.cells
      obtain ⟨d0, d1, d2⟩ := hV.cells
      clear hm hr
      go_wp2_with fail
      go_at_call 82
      refine (put_true none 0 0 [] 8 n _ (Rd.nil _ _) (by omega) hn hf8 (by omega)).mono ?_
      rintro e w2 ⟨v, rfl, hown, hb2⟩
      obtain ⟨A, cap, rfl, hrd⟩ := hown.rd
      rw [List.nil_append] at hrd
      rw [List.nil_append, hlen]
      rw [hlen] at hrd
      have HRD := hid hrd
      have hcap := hrd.2.1
      have hcm := hrd.2.2.1
      have hA : ∃ ad, A = some ad := by
        obtain ⟨b, off, e, _⟩ := hrd.2.2.2.2 (by omega)
        exact ⟨_, e⟩
      obtain ⟨ad, rfl⟩ := hA
      clear hown hrd c0 c1 c2 d0 d1 d2
      obtain ⟨c0, c1, c2⟩ := (hF.on hb2).cells
      go_wp2_with fail
      go_at_call 101
      refine (klong_any _ _ _ _).mono ?_
      rintro e w3 ⟨rfl, hb3⟩
      rw [HM.out]
      go_wp2_with fail
      go_ret2
      refine ⟨_, _, _, rfl, ?_, Bt (Bt (Bt (Ba (B1 _ _) _) hb1) hb2) hb3⟩
      exact (HRD.out.on hb3).take (by omega)
  · have hr : rightF vk n t.size k g = false := by simpa using hr
    rw [show encE vk n t k g = 50 by simp [encE, hr], show encT vk n t k g = ⟨#[]⟩ by simp [encT, hr]]
    go_enter Tryz.func84, Tryz.ntmps84
    go_wp2_with fail
    go_at_call 122
    refine (kright_any _ _ _ _ _ _ _ hn).mono ?_
    rintro e w1 ⟨rfl, hb1⟩
    rw [hr]
    go_wp2_with fail
    go_ret2
    exact ⟨_, _, _, rfl, by rw [ByteArray.toList_eq]; exact Rd.nil _ _, Bt (Ba (B1 _ _) _) hb1⟩
end Go.Proofs.YtaegencmnmjgbaaGreat
