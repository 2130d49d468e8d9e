/-
  The program's Name: a range over a text.
  The program's Find, Right, step, up of layer 6.
-/
import Derived.Test.YtaegencmnmjgbaaGreatM10
import Derived.Laws.RangeAny
import Derived.LoopTactic
import Derived.Test.YtaegencmnmjgbaaGreatM5

namespace Go.Proofs.YtaegencmnmjgbaaGreat
open Go.RowKit
set_option linter.unusedVariables false
theorem text_at {s : List UInt8} {j : Nat} (hj : j < s.length) : ∃ (r d : Nat), Utf8.decode (bs s) j = (r, d) ∧ 1 ≤ d ∧ r ≤ 2147483647 ∧ ((r < 128 ∧ r = s[j].toNat ∧ d = 1) ∨ (128 ≤ r ∧ 128 ≤ s[j].toNat)) := by
  have h2 : j < (bs s).size := by simpa [ByteArray.size] using hj
  have hb := bs_at hj h2
  refine ⟨(Utf8.decode (bs s) j).1, (Utf8.decode (bs s) j).2, rfl, ?_⟩
  by_cases ha : ((bs s)[j]'h2).toNat < 128
  · rw [decode_ascii (bs s) j h2 ha]
    rw [hb] at ha ⊢
    exact ⟨Nat.le_refl _, by omega, .inl ⟨ha, rfl, rfl⟩⟩
  · have h3 := decode_high (bs s) j h2 (by omega)
    rw [hb] at ha
    exact ⟨h3.2, decode_le _ _, .inr ⟨h3.1, by omega⟩⟩
theorem chB_hi {c : UInt8} (h : 128 ≤ c.toNat) : chB c = false := by
  simp [chB, ltB]; omega
theorem text_ch {s : List UInt8} {j r d : Nat} (hj : j < s.length) (h : (r < 128 ∧ r = s[j].toNat ∧ d = 1) ∨ (128 ≤ r ∧ 128 ≤ s[j].toNat)) :
    ltB s[j] = (decide (97 ≤ r) && decide (r ≤ 122)) ∧ chB s[j] = (decide (97 ≤ r) && decide (r ≤ 122) || (decide (48 ≤ r) && decide (r ≤ 57)) || decide (r = 95)) ∧ (chB s[j] = true → d = 1) := by
  rcases h with ⟨h1, h2, h3⟩ | ⟨h1, h2⟩
  · subst h2
    exact ⟨rfl, rfl, fun _ => h3⟩
  · refine ⟨?_, ?_, fun h => by rw [chB_hi h2] at h; cases h⟩
    · rw [Bool.eq_iff_iff]; simp [ltB]; omega
    · rw [chB_hi h2, Bool.eq_iff_iff]; simp; omega
theorem name_head {s : List UInt8} {c : UInt8} (h : 0 < s.length) (hc : c = s[0]) (hl : ltB c = true) : s.head?.any ltB = true := by
  cases s with
  | nil => simp at h
  | cons x s => subst hc; simpa using hl
set_option maxRecDepth 1000000 in
set_option maxHeartbeats 2000000 in
theorem p6name_any {w : World} (s : List UInt8) (hs : s.length ≤ 140737488351232) :
    Calls Tryz.prog 38 #[.string (bs s)] w fun e w' => e = .returned (.bool (nameB s)) ∧ Below w.heap.size w w' := by
  have hsz : ((bs s).size : Int) = s.length := rfl
  by_cases h0 : s = []
  · subst h0
    go_enter Tryz.func38, Tryz.ntmps38
    go_wp2_with fail
    go_ret
    exact ⟨rfl, B0 _⟩
  have e0 : s.isEmpty = false := by simpa using h0
  by_cases h15 : 15 < s.length
  · have e1 : decide ((15 : Int) < (s.length : Int)) = true := decide_eq_true (by omega)
    have HE : Hid (nameB s = false) := by
      show _ = _
      unfold nameB
      rw [show decide (s.length ≤ 15) = false from decide_eq_false (by omega)]; simp
    clear h0
    go_enter Tryz.func38, Tryz.ntmps38
    go_wp2_with fail
    go_ret
    exact ⟨by rw [HE.out]; rfl, B0 _⟩
  have e1 : decide ((15 : Int) < (s.length : Int)) = false := decide_eq_false (by omega)
  have H15 := hid h15; have HNE := hid h0
  clear h0 h15
  go_enter Tryz.func38, Tryz.ntmps38
  go_wp2_with fail
  go_loopw [] (fun wr => ∃ pos : Nat, pos ≤ s.length ∧ wr = w.iter (bs s) pos ∧ Hid ((s.take pos).all chB = true) ∧ Hid (0 < pos → s.head?.any ltB = true)) (fun wr => s.length - wr.iterPos w.heap.size)
  case atStart => exact ⟨0, by omega, rfl, hid (by simp), hid (fun h => absurd h (by omega))⟩
  case round =>
    obtain ⟨pos, hpos, rfl, HA, HH⟩ := hrel
    have HB : Hid (Below w.heap.size w (w.iter (bs s) pos)) := B1 w _
    by_cases hlt : pos < s.length
    · obtain ⟨r, d, hdec, hd1, hr31, hrc⟩ := text_at hlt
      obtain ⟨c, hc0⟩ : ∃ c, c = s[pos] := ⟨_, rfl⟩
      obtain ⟨tl, tc, td⟩ := text_ch hlt hrc
      rw [← hc0] at tl tc td hrc
      have HCC := hid hc0
      have hlt2 : pos < (bs s).size := hlt
      have hnx : ∀ ty, (Instr.next (.pointer (some ⟨w.heap.size, 0, none⟩)) true ty).run Tryz.prog (w.iter (bs s) pos) = .ok (.tuple #[.bool true, .int .i64 pos, .int .i32 (r : Int)]) (w.iter (bs s) (pos + d)) := fun ty => by
        have := run_next_any (P := Tryz.prog) w (bs s) pos ty hlt2
        rw [hdec] at this; exact this
      have HB2 : Hid (Below w.heap.size w (w.iter (bs s) (pos + d))) := B1 w _
      have HNX := hid hnx
      obtain ⟨x, hx⟩ : ∃ x : Int, x = r := ⟨_, rfl⟩
      rw [← hx] at hnx
      have HX := hid hx
      have HLT := hid hlt
      have TL := hid tl; have TC := hid tc; have TD := hid td
      have hx0 : 0 ≤ x := by omega
      clear HNX hdec hrc tl tc td hx hlt2 hr31 hc0
      rcases (by omega : (x < 48) ∨ (48 ≤ x ∧ x ≤ 57) ∨ (57 < x ∧ x < 95) ∨ (x = 95) ∨ (x = 96) ∨ (97 ≤ x ∧ x ≤ 122) ∨ (122 < x)) with hc | hc | hc | hc | hc | hc | hc
      · skip
        have f1 : decide ((97 : Int) ≤ x) = false := decide_eq_false (by omega)
        have f2 : decide (x ≤ 122) = true := decide_eq_true (by omega)
        have f3 : decide ((48 : Int) ≤ x) = false := decide_eq_false (by omega)
        have f4 : decide (x ≤ 57) = true := decide_eq_true (by omega)
        have f5 : (x == 95) = false := by rw [beq_eq_false_iff_ne]; omega
        have HL : Hid (ltB c = false) := by show _ = _; rw [TL.out, Bool.eq_iff_iff]; have := HX.out; simp; try omega
        have HC : Hid (chB c = false) := by show _ = _; rw [TC.out, Bool.eq_iff_iff]; have := HX.out; simp; try omega
        by_cases hz : pos = 0
        · subst hz
          have HE : Hid (nameB s = false) := name_no HLT.out HCC.out HC.out
          clear hc
          go_wp2_with fail
          go_ret
          exact ⟨by rw [HE.out]; rfl, B1 w _⟩
        · have hz1 : ((pos : Int) == 0) = false := by rw [beq_eq_false_iff_ne]; omega
          have HE : Hid (nameB s = false) := name_no HLT.out HCC.out HC.out
          clear hc
          go_wp2_with fail
          go_ret
          exact ⟨by rw [HE.out]; rfl, B1 w _⟩
      · skip
        have f1 : decide ((97 : Int) ≤ x) = false := decide_eq_false (by omega)
        have f2 : decide (x ≤ 122) = true := decide_eq_true (by omega)
        have f3 : decide ((48 : Int) ≤ x) = true := decide_eq_true (by omega)
        have f4 : decide (x ≤ 57) = true := decide_eq_true (by omega)
        have f5 : (x == 95) = false := by rw [beq_eq_false_iff_ne]; omega
        have HL : Hid (ltB c = false) := by show _ = _; rw [TL.out, Bool.eq_iff_iff]; have := HX.out; simp; try omega
        have HC : Hid (chB c = true) := by show _ = _; rw [TC.out, Bool.eq_iff_iff]; have := HX.out; simp; try omega
        by_cases hz : pos = 0
        · subst hz
          have HE : Hid (nameB s = false) := name_no0 HLT.out HCC.out HL.out
          clear hc
          go_wp2_with fail
          go_ret
          exact ⟨by rw [HE.out]; rfl, B1 w _⟩
        · have hz1 : ((pos : Int) == 0) = false := by rw [beq_eq_false_iff_ne]; omega
          have HD := TD.out HC.out
          clear hc
          go_wp2_with fail
          go_roundw
          case rel => exact ⟨pos + 1, HLT.out, rfl, hid (name_take HLT.out HCC.out HA.out HC.out), hid (fun _ => HH.out (by omega))⟩
          case measure => simp; omega
      · skip
        have f1 : decide ((97 : Int) ≤ x) = false := decide_eq_false (by omega)
        have f2 : decide (x ≤ 122) = true := decide_eq_true (by omega)
        have f3 : decide ((48 : Int) ≤ x) = true := decide_eq_true (by omega)
        have f4 : decide (x ≤ 57) = false := decide_eq_false (by omega)
        have f5 : (x == 95) = false := by rw [beq_eq_false_iff_ne]; omega
        have HL : Hid (ltB c = false) := by show _ = _; rw [TL.out, Bool.eq_iff_iff]; have := HX.out; simp; try omega
        have HC : Hid (chB c = false) := by show _ = _; rw [TC.out, Bool.eq_iff_iff]; have := HX.out; simp; try omega
        by_cases hz : pos = 0
        · subst hz
          have HE : Hid (nameB s = false) := name_no HLT.out HCC.out HC.out
          clear hc
          go_wp2_with fail
          go_ret
          exact ⟨by rw [HE.out]; rfl, B1 w _⟩
        · have hz1 : ((pos : Int) == 0) = false := by rw [beq_eq_false_iff_ne]; omega
          have HE : Hid (nameB s = false) := name_no HLT.out HCC.out HC.out
          clear hc
          go_wp2_with fail
          go_ret
          exact ⟨by rw [HE.out]; rfl, B1 w _⟩
      · skip
        have f1 : decide ((97 : Int) ≤ x) = false := decide_eq_false (by omega)
        have f2 : decide (x ≤ 122) = true := decide_eq_true (by omega)
        have f3 : decide ((48 : Int) ≤ x) = true := decide_eq_true (by omega)
        have f4 : decide (x ≤ 57) = false := decide_eq_false (by omega)
        have f5 : (x == 95) = true := by rw [beq_iff_eq]; omega
        have HL : Hid (ltB c = false) := by show _ = _; rw [TL.out, Bool.eq_iff_iff]; have := HX.out; simp; try omega
        have HC : Hid (chB c = true) := by show _ = _; rw [TC.out, Bool.eq_iff_iff]; have := HX.out; simp; try omega
        by_cases hz : pos = 0
        · subst hz
          have HE : Hid (nameB s = false) := name_no0 HLT.out HCC.out HL.out
          clear hc
          go_wp2_with fail
          go_ret
          exact ⟨by rw [HE.out]; rfl, B1 w _⟩
        · have hz1 : ((pos : Int) == 0) = false := by rw [beq_eq_false_iff_ne]; omega
          have HD := TD.out HC.out
          clear hc
          go_wp2_with fail
          go_roundw
          case rel => exact ⟨pos + 1, HLT.out, rfl, hid (name_take HLT.out HCC.out HA.out HC.out), hid (fun _ => HH.out (by omega))⟩
          case measure => simp; omega
      · skip
        have f1 : decide ((97 : Int) ≤ x) = false := decide_eq_false (by omega)
        have f2 : decide (x ≤ 122) = true := decide_eq_true (by omega)
        have f3 : decide ((48 : Int) ≤ x) = true := decide_eq_true (by omega)
        have f4 : decide (x ≤ 57) = false := decide_eq_false (by omega)
        have f5 : (x == 95) = false := by rw [beq_eq_false_iff_ne]; omega
        have HL : Hid (ltB c = false) := by show _ = _; rw [TL.out, Bool.eq_iff_iff]; have := HX.out; simp; try omega
        have HC : Hid (chB c = false) := by show _ = _; rw [TC.out, Bool.eq_iff_iff]; have := HX.out; simp; try omega
        by_cases hz : pos = 0
        · subst hz
          have HE : Hid (nameB s = false) := name_no HLT.out HCC.out HC.out
          clear hc
          go_wp2_with fail
          go_ret
          exact ⟨by rw [HE.out]; rfl, B1 w _⟩
        · have hz1 : ((pos : Int) == 0) = false := by rw [beq_eq_false_iff_ne]; omega
          have HE : Hid (nameB s = false) := name_no HLT.out HCC.out HC.out
          clear hc
          go_wp2_with fail
          go_ret
          exact ⟨by rw [HE.out]; rfl, B1 w _⟩
      · skip
        have f1 : decide ((97 : Int) ≤ x) = true := decide_eq_true (by omega)
        have f2 : decide (x ≤ 122) = true := decide_eq_true (by omega)
        have f3 : decide ((48 : Int) ≤ x) = true := decide_eq_true (by omega)
        have f4 : decide (x ≤ 57) = false := decide_eq_false (by omega)
        have f5 : (x == 95) = false := by rw [beq_eq_false_iff_ne]; omega
        have HL : Hid (ltB c = true) := by show _ = _; rw [TL.out, Bool.eq_iff_iff]; have := HX.out; simp; try omega
        have HC : Hid (chB c = true) := by show _ = _; rw [TC.out, Bool.eq_iff_iff]; have := HX.out; simp; try omega
        by_cases hz : pos = 0
        · subst hz
          have HD := TD.out HC.out
          clear hc
          go_wp2_with fail
          go_roundw
          case rel => exact ⟨0 + 1, HLT.out, rfl, hid (name_take HLT.out HCC.out HA.out HC.out), hid (fun _ => name_head HLT.out HCC.out HL.out)⟩
          case measure => simp; omega
        · skip
          have HD := TD.out HC.out
          clear hc
          go_wp2_with fail
          go_roundw
          case rel => exact ⟨pos + 1, HLT.out, rfl, hid (name_take HLT.out HCC.out HA.out HC.out), hid (fun _ => HH.out (by omega))⟩
          case measure => simp; omega
      · skip
        have f1 : decide ((97 : Int) ≤ x) = true := decide_eq_true (by omega)
        have f2 : decide (x ≤ 122) = false := decide_eq_false (by omega)
        have f3 : decide ((48 : Int) ≤ x) = true := decide_eq_true (by omega)
        have f4 : decide (x ≤ 57) = false := decide_eq_false (by omega)
        have f5 : (x == 95) = false := by rw [beq_eq_false_iff_ne]; omega
        have HL : Hid (ltB c = false) := by show _ = _; rw [TL.out, Bool.eq_iff_iff]; have := HX.out; simp; try omega
        have HC : Hid (chB c = false) := by show _ = _; rw [TC.out, Bool.eq_iff_iff]; have := HX.out; simp; try omega
        by_cases hz : pos = 0
        · subst hz
          have HE : Hid (nameB s = false) := name_no HLT.out HCC.out HC.out
          clear hc
          go_wp2_with fail
          go_ret
          exact ⟨by rw [HE.out]; rfl, B1 w _⟩
        · have hz1 : ((pos : Int) == 0) = false := by rw [beq_eq_false_iff_ne]; omega
          have HE : Hid (nameB s = false) := name_no HLT.out HCC.out HC.out
          clear hc
          go_wp2_with fail
          go_ret
          exact ⟨by rw [HE.out]; rfl, B1 w _⟩
    · obtain rfl : pos = s.length := by omega
      have hnlt : ¬ s.length < (bs s).size := by show ¬ s.length < s.length; omega
      have hnx : ∀ ty, (Instr.next (.pointer (some ⟨w.heap.size, 0, none⟩)) true ty).run Tryz.prog (w.iter (bs s) s.length) = .ok (.tuple #[.bool false]) (w.iter (bs s) s.length) := fun ty => run_next_end (P := Tryz.prog) w (bs s) s.length ty hnlt
      have HE : Hid (nameB s = true) := by
        show _ = _
        have h1 := HA.out; have h2 := H15.out; have h3 := HNE.out
        rw [List.take_length] at h1
        have h4 : 0 < s.length := by
          cases s with
          | nil => exact absurd rfl h3
          | cons x s => simp
        unfold nameB
        rw [h1, HH.out h4, show decide (1 ≤ s.length) = true from decide_eq_true h4, show decide (s.length ≤ 15) = true from decide_eq_true (by omega)]
        rfl
      clear hnlt hlt
      go_wp2_with fail
      go_ret
      exact ⟨by rw [HE.out]; rfl, HB.out⟩
end Go.Proofs.YtaegencmnmjgbaaGreat

namespace Go.Proofs.YtaegencmnmjgbaaGreat
open Go.RowKit
set_option linter.unusedVariables false
set_option maxHeartbeats 2000000 in
theorem p6find_any {w : World} {A : Option Addr} {n c : Nat} {l : List Fd} (h : RdF w w.heap.size A n c l) (nm : List UInt8) :
    Calls Tryz.prog 102 #[.slice A n c, .string (bs nm)] w fun e w' => e = .returned (.int .i64 (findI l nm)) ∧ Below w.heap.size w w' := by
  have HL := hid h.1
  have hnm : (n : Int) ≤ 9223372036854775807 := by have := Nat.le_trans h.2.1 h.2.2.1; unfold maxLen at this; omega
  have H := hid h; clear h
  go_enter Tryz.func102, Tryz.ntmps102
  go_wp2_with fail
  go_loopw [9] (fun i wr => ∃ j : Nat, j ≤ n ∧ i = .int .i64 j ∧ Hid (∀ m, m < j → ∀ f, l[m]? = some f → f.nm ≠ nm) ∧ Hid (Below w.heap.size w wr)) (fun i _ => n - (intOf i).toNat)
  case atStart => exact ⟨0, by omega, rfl, hid (fun m hm => absurd hm (by omega)), B0 w⟩
  case round =>
    obtain ⟨j, hj, rfl, HN, HB⟩ := hrel
    by_cases hlt : j < n
    · have hjl : j < l.length := by have := HL.out; omega
      obtain ⟨f, hf⟩ : ∃ f, l[j]? = some f := ⟨_, List.getElem?_eq_getElem hjl⟩
      obtain ⟨_, hk64, hg64, hnl, b, off, rfl, hc⟩ := H.out.at hf
      obtain ⟨c0, cc1, cc2⟩ := hc wr HB.out
      have HF := hid hf
      have HB2 : Hid (∀ o : Obj, Below w.heap.size w (wr.alloc o)) := fun o => Ba HB.out o
      have hji : (j : Int) < n := by omega
      have hj0 : (0 : Int) ≤ j := by omega
      clear hc hjl hf hk64 hg64 hnl
      by_cases he : f.nm = nm
      · have t1 : (f.nm == nm) = true := by simpa using he
        have t2 : decide (f.nm = nm) = true := by simpa using he
        have HE : Hid (findI l nm = (j : Int)) := findI_some (findN_some HF.out he HN.out)
        clear he
        go_wp2_with fail
        go_ret
        exact ⟨by rw [HE.out]; rfl, HB2.out _⟩
      · have t1 : (f.nm == nm) = false := by rw [beq_eq_false_iff_ne]; exact he
        have t2 : decide (f.nm = nm) = false := by simpa using he
        have HE := hid he
        clear he
        go_wp2_with fail
        go_roundw
        case rel => exact ⟨j + 1, by omega, by simp, hid (fun m hm f' hf' => by
          by_cases e : m = j
          · subst e; rw [HF.out] at hf'; cases hf'; exact HE.out
          · exact HN.out m (by omega) f' hf'), HB2.out _⟩
        case measure => simp [intOf]; omega
    · obtain rfl : j = n := by omega
      have HE : Hid (findI l nm = -1) := findI_none (findN_no fun f hf => by
        obtain ⟨i, hi⟩ := List.mem_iff_getElem?.1 hf
        refine HN.out i ?_ f hi
        have := HL.out
        by_cases c : i < l.length
        · omega
        · rw [List.getElem?_eq_none (by omega)] at hi; cases hi)
      go_wp2_with fail
      go_ret
      exact ⟨by rw [HE.out]; rfl, HB.out⟩
def upI (n s : Int) : Int := (n + s - 1) / s * s
theorem up_any (n s : Int) (w : World) (h0 : 0 ≤ n) (h1 : n ≤ 100000) (h2 : 1 ≤ s) (h3 : s ≤ 64) :
    Calls Tryz.prog 127 #[.int .i64 n, .int .i64 s] w fun e w' => e = .returned (.int .i64 (upI n s)) ∧ w = w' := by
  have q1 : IntKind.i64.wrap (n + s) = n + s := by rw [IntKind.wrap_i64]; omega
  have q2 : IntKind.i64.wrap (n + s - 1) = n + s - 1 := by rw [IntKind.wrap_i64]; omega
  have q3 : (n + s - 1).tdiv s = (n + s - 1) / s := Int.tdiv_eq_ediv_of_nonneg (by omega)
  obtain ⟨d, hd⟩ : ∃ d, d = (n + s - 1) / s := ⟨_, rfl⟩
  have hd0 : 0 ≤ d := by rw [hd]; exact Int.ediv_nonneg (by omega) (by omega)
  have hd1 : d ≤ 100064 := by rw [hd]; exact Int.le_trans (Int.ediv_le_self _ (by omega)) (by omega)
  have hm : d * s ≤ n + s - 1 := by rw [hd]; exact Int.ediv_mul_le _ (by omega)
  have hm0 : 0 ≤ d * s := Int.mul_nonneg hd0 (by omega)
  rw [← hd] at q3
  have q4 : IntKind.i64.wrap d = d := by rw [IntKind.wrap_i64]; omega
  have q5 : IntKind.i64.wrap (d * s) = d * s := by rw [IntKind.wrap_i64]; omega
  have s0 : (s == 0) = false := by rw [beq_eq_false_iff_ne]; omega
  have s1 : s ≠ 0 := by omega
  have HE : Hid (upI n s = d * s) := by show _ = _; unfold upI; rw [← hd]
  clear hd hm hm0
  go_enter Tryz.func127, Tryz.ntmps127
  go_wp2_with fail
  go_ret
  exact ⟨by rw [HE.out]; rfl, rfl⟩
def stepF (f : Fd) : Int := if f.k = 12 then 1 else f.long
theorem step_any (f : Fd) (w : World) :
    Calls Tryz.prog 161 #[.agg #[.string (bs f.nm), .int .i64 f.k, .int .i64 f.g]] w fun e w' => e = .returned (.int .i64 (stepF f)) ∧ Below w.heap.size w w' := by
  by_cases h12 : f.k = 12
  · have t1 : (f.k == 12) = true := by rw [h12]; rfl
    have HE : Hid (stepF f = 1) := by show _ = _; unfold stepF; rw [if_pos h12]
    clear h12
    go_enter Tryz.func161, Tryz.ntmps161
    go_wp2_with fail
    go_ret
    exact ⟨by rw [HE.out]; rfl, B1 _ _⟩
  · have t1 : (f.k == 12) = false := by simpa using h12
    have HE : Hid (stepF f = longF f.k f.g) := by show _ = _; unfold stepF; rw [if_neg h12]; rfl
    clear h12
    go_enter Tryz.func161, Tryz.ntmps161
    go_wp2_with fail
    refine (klong_any (bs f.nm) f.k f.g _).mono ?_
    rintro e w1 ⟨rfl, hb1⟩
    go_wp2_with fail
    go_ret
    exact ⟨by rw [HE.out]; rfl, Bt (B1 _ _) hb1⟩
theorem step_bd {f : Fd} (h : f.may = true) : 1 ≤ stepF f ∧ stepF f ≤ 64 := by
  unfold stepF
  by_cases c : f.k = 12
  · rw [if_pos c]; omega
  · rw [if_neg c]; exact long_pos h
theorem up_place (a : Int) (f : Fd) : upI a (stepF f) = placeF a f := by
  unfold upI stepF placeF
  by_cases c : f.k = 12
  · rw [if_pos c, if_pos c]; omega
  · rw [if_neg c, if_neg c]
theorem up_up8 (n : Int) : upI n 8 = up8 n := by unfold upI up8; congr 2; omega
set_option maxHeartbeats 4000000 in
theorem p6right_any {w : World} {A : Option Addr} {n c : Nat} {l : List Fd} (h : RdF w w.heap.size A n c l) (hs : short l) :
    Calls Tryz.prog 65 #[.slice A n c] w fun e w' => e = .returned (.bool (rightL l)) ∧ Below w.heap.size w w' := by
  have HL := hid h.1
  have H := hid h; have HS := hid hs; clear h hs
  by_cases h16 : 16 < n
  · have d0 : decide ((16 : Int) < (n : Int)) = true := decide_eq_true (by omega)
    have HE : Hid (rightL l = false) := by
      show _ = _
      cases hr : rightL l with
      | false => rfl
      | true => have := right_len hr; have := HL.out; omega
    clear h16
    go_enter Tryz.func65, Tryz.ntmps65
    go_wp2_with fail
    go_ret
    exact ⟨by rw [HE.out]; rfl, B0 _⟩
  have d0 : decide ((16 : Int) < (n : Int)) = false := decide_eq_false (by omega)
  have hn16 : n ≤ 16 := by omega
  clear h16
  go_enter Tryz.func65, Tryz.ntmps65
  go_wp2_with fail
  go_loopw [10] (fun i wr => ∃ j : Nat, j ≤ n ∧ i = .int .i64 j ∧ Hid (∀ m, m < j → ∀ f, l[m]? = some f → nameB f.nm = true ∧ f.may = true ∧ findN l f.nm = some m) ∧ Hid (Below w.heap.size w wr)) (fun i _ => n - (intOf i).toNat)
  case atStart => exact ⟨0, by omega, rfl, hid (fun m hm => absurd hm (by omega)), B0 w⟩
  case round =>
    obtain ⟨j, hj, rfl, HA, HB⟩ := hrel
    by_cases hlt : j < n
    · have hjl : j < l.length := by have := HL.out; omega
      obtain ⟨f, hf⟩ : ∃ f, l[j]? = some f := ⟨_, List.getElem?_eq_getElem hjl⟩
      obtain ⟨_, hk64, hg64, hnl, b, off, rfl, hc⟩ := H.out.at hf
      have HF := hid hf
      have hsf : f.nm.length ≤ 140737488351232 := HS.out f (List.mem_of_getElem? hf)
      have HSF := hid hsf
      obtain ⟨c0, c1, c2⟩ := hc wr HB.out
      have hji : (j : Int) < n := by omega
      have hj0 : (0 : Int) ≤ j := by omega
      obtain ⟨wv, hwv⟩ : ∃ wv, wv = wr.alloc (.cells #[.string (bs f.nm), .int .i64 f.k, .int .i64 f.g] 68) := ⟨_, rfl⟩
      obtain ⟨q, hq⟩ : ∃ q, q = wr.heap.size := ⟨_, rfl⟩
      have HWV := hid hwv; have HQ := hid hq
      have HFB : Hid (FB wv q (bs f.nm) f.k f.g) := by rw [hwv, hq]; exact fb_new wr _ _ _
      have HBV : Hid (Below w.heap.size w wv) := by rw [hwv]; exact Ba HB.out _
      obtain ⟨nb, hnb⟩ : ∃ nb, nb = nameB f.nm := ⟨_, rfl⟩
      have HNB := hid hnb
      clear hc hjl hf hsf hnb hk64 hg64 hnl hwv hq
      go_wp2_with fail
      rw [← HWV.out, ← HQ.out]
      refine (p6name_any f.nm HSF.out).mono ?_
      rintro e w1 ⟨rfl, hb1⟩
      rw [← HNB.out]
      have HB1 := hid (Bt HBV.out hb1)
      have HF1 := hid (HFB.out.on hb1)
      obtain ⟨v0, v1, v2⟩ := HF1.out.cells
      clear hb1 c0 c1 c2
      cases nb with
      | false =>
        have HE : Hid (rightL l = false) := right_no HF.out (by rw [← HNB.out]; simp)
        go_wp2_with fail
        go_ret
        exact ⟨by rw [HE.out]; rfl, HB1.out⟩
      | true =>
        go_wp2_with fail
        refine (klong_any (bs f.nm) f.k f.g w1).mono ?_
        rintro e w2 ⟨rfl, hb2⟩
        have HB2 := hid (Bt HB1.out hb2)
        have HF2 := hid (HF1.out.on hb2)
        obtain ⟨v0, v1, v2⟩ := HF2.out.cells
        clear hb2
        obtain ⟨L, hL⟩ : ∃ L, L = longF f.k f.g := ⟨_, rfl⟩
        rw [← hL]
        by_cases hm : f.may = true
        · have hl0 : L ≠ 0 := by rw [hL]; exact long_may hm
          have t0 : (L == 0) = false := by rw [beq_eq_false_iff_ne]; exact hl0
          obtain ⟨r, hr, hrj⟩ := findN_le HF.out
          have HR := hid hr; have HM := hid hm
          clear hr hm hl0 hL
          go_wp2_with fail
          refine (p6find_any (H.out.on HB2.out) f.nm).mono ?_
          rintro e w3 ⟨rfl, hb3⟩
          rw [findI_some HR.out]
          have HB3 := hid (Bt HB2.out hb3)
          clear hb3 v0 v1 v2
          by_cases hqq : r = j
          · subst hqq
            have t1 : ((r : Int) != (r : Int)) = false := by simp
            go_wp2_with fail
            go_roundw
            case rel => exact ⟨r + 1, by omega, by simp, hid (fun m hm f' hf' => by
              by_cases e : m = r
              · subst e; rw [HF.out] at hf'; cases hf'; exact ⟨HNB.out.symm, HM.out, HR.out⟩
              · exact HA.out m (by omega) f' hf'), HB3⟩
            case measure => simp [intOf]; omega
          · have t1 : ((r : Int) != (j : Int)) = true := by rw [bne_iff_ne]; omega
            have HE : Hid (rightL l = false) := right_no HF.out (by rw [HR.out]; intro h; have := h.2.2; cases this; exact hqq rfl)
            clear hqq
            go_wp2_with fail
            go_ret
            exact ⟨by rw [HE.out]; rfl, HB3.out⟩
        · have hl0 : L = 0 := by rw [hL]; exact long_zero (Bool.eq_false_iff.2 hm)
          have HE : Hid (rightL l = false) := right_no HF.out (by intro h; exact hm h.2.1)
          subst hl0
          clear hm hL
          go_wp2_with fail
          go_ret
          exact ⟨by rw [HE.out]; rfl, HB2.out⟩
    · obtain rfl : j = n := by omega
      have HE : Hid (rightL l = true) := by
        show _ = _
        rw [rightL_iff]
        refine ⟨by have := HL.out; omega, fun i f hi => ?_⟩
        refine HA.out i ?_ f hi
        have := HL.out
        by_cases cc : i < l.length
        · omega
        · rw [List.getElem?_eq_none (by omega)] at hi; cases hi
      go_wp2_with fail
      go_ret
      exact ⟨by rw [HE.out]; rfl, HB.out⟩
end Go.Proofs.YtaegencmnmjgbaaGreat
