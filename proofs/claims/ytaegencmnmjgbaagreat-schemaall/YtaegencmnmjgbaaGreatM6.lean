/-
  Fields in memory; the document's Find, Name, Right of layer 6.
  From what a law's arguments hold to what its walk is told: slices of fields, slices of values.
  Slices of structs in memory, whatever the struct: what is read, what a call makes of its own, append.
-/
import Derived.Test.YtaegencmnmjgbaaGreatM2
import Derived.Test.YtaegencmnmjgbaaGreatM5
import Derived.Deep.QuietTactic
import Derived.BigQuiet
import Derived.Test.YtaegencmnmjgbaaGreatM1
import Derived.Deep.Slices
import Derived.Deep.Fields
import Derived.ChangeSame
import Derived.SizedLaws

namespace Go.Proofs.YtaegencmnmjgbaaGreat
open Go.RowKit
set_option linter.unusedVariables false
abbrev bs (x : List UInt8) : ByteArray := ⟨x.toArray⟩
theorem bs_toList (x : List UInt8) : (bs x).toList = x := ByteArray.toList_mk x
def FdC (w : World) (b off : Nat) (f : Fd) : Prop := w.cell? ⟨b, off, none⟩ = some (.string (bs f.nm)) ∧ w.cell? ⟨b, off + 1, none⟩ = some (.int .i64 f.k) ∧ w.cell? ⟨b, off + 2, none⟩ = some (.int .i64 f.g)
def RdF (w : World) (B : Nat) (A : Option Addr) (n cap : Nat) (l : List Fd) : Prop :=
  l.length = n ∧ n ≤ cap ∧ cap ≤ maxLen ∧ (∀ f ∈ l, I64 f.k ∧ I64 f.g ∧ f.nm.length ≤ nmMax) ∧ (0 < n → ∃ b off, A = some ⟨b, off, none⟩ ∧ b < B ∧ ∀ i (h : i < l.length), FdC w b (off + i * 3) l[i])
section
variable {w w' : World} {B B' n cap : Nat} {A : Option Addr} {l : List Fd}
theorem FdC.below {b off : Nat} {f : Fd} (h : FdC w b off f) (hb : Below B w w') (hlt : b < B) : FdC w' b off f :=
  ⟨(hb.cell (p := ⟨b, off, none⟩) hlt).trans h.1, (hb.cell (p := ⟨b, off + 1, none⟩) hlt).trans h.2.1, (hb.cell (p := ⟨b, off + 2, none⟩) hlt).trans h.2.2⟩
theorem RdF.below (h : RdF w B A n cap l) (hb : Below B w w') : RdF w' B A n cap l :=
  ⟨h.1, h.2.1, h.2.2.1, h.2.2.2.1, fun hn => by
    obtain ⟨b, off, e, hlt, hc⟩ := h.2.2.2.2 hn
    exact ⟨b, off, e, hlt, fun i hi => (hc i hi).below hb hlt⟩⟩
theorem RdF.more (h : RdF w B A n cap l) (hB : B ≤ B') : RdF w B' A n cap l :=
  ⟨h.1, h.2.1, h.2.2.1, h.2.2.2.1, fun hn => by
    obtain ⟨b, off, e, hlt, hc⟩ := h.2.2.2.2 hn
    exact ⟨b, off, e, by omega, hc⟩⟩
theorem RdF.on (h : RdF w w.heap.size A n cap l) (hb : Below w.heap.size w w') : RdF w' w'.heap.size A n cap l := (h.below hb).more hb.size
theorem RdF.nil (w : World) (B : Nat) : RdF w B none 0 0 [] := ⟨rfl, by omega, by simp [maxLen], by simp, fun h => by omega⟩
theorem RdF.at (h : RdF w B A n cap l) {i : Nat} {f : Fd} (hi : l[i]? = some f) : i < n ∧ I64 f.k ∧ I64 f.g ∧ f.nm.length ≤ nmMax ∧ ∃ b off, A = some ⟨b, off, none⟩ ∧ ∀ w', Below B w w' → FdC w' b (off + i * 3) f := by
  have hl : i < l.length := by
    by_cases c : i < l.length
    · exact c
    · rw [List.getElem?_eq_none (by omega)] at hi; cases hi
  rw [List.getElem?_eq_getElem hl] at hi
  cases hi
  obtain ⟨b, off, e, hlt, hc⟩ := h.2.2.2.2 (by have := h.1; omega)
  obtain ⟨h1, h2, h3⟩ := h.2.2.2.1 _ (List.getElem_mem hl)
  exact ⟨by have := h.1; omega, h1, h2, h3, b, off, e, fun w' hb => (hc i hl).below hb hlt⟩
end
set_option maxHeartbeats 1000000 in
theorem r6find_any {w : World} {A : Option Addr} {n c : Nat} {l : List Fd} (h : RdF w w.heap.size A n c l) (nm : List UInt8) :
    Calls Tryz.prog 132 #[.slice A n c, .string (bs nm)] w fun e w' => e = .returned (.int .i64 (findI l nm)) ∧ Below w.heap.size w w' := by
  have HL := hid h.1
  have hnm : (n : Int) ≤ 9223372036854775807 := by have := Nat.le_trans h.2.1 h.2.2.1; unfold maxLen at this; omega
  have H := hid h; clear h
  go_enter Tryz.func132, Tryz.ntmps132
  go_wp2_with fail
  go_loopw [5] (fun i wr => ∃ j : Nat, j ≤ n ∧ i = .int .i64 j ∧ Hid (∀ m, m < j → ∀ f, l[m]? = some f → f.nm ≠ nm) ∧ Hid (Below w.heap.size w wr)) (fun i _ => n - (intOf i).toNat)
  case atStart => exact ⟨0, by omega, rfl, hid (fun m hm => absurd hm (by omega)), B0 w⟩
  case round =>
    obtain ⟨j, hj, rfl, HN, hb⟩ := hrel
    by_cases hlt : j < n
    · have hjl : j < l.length := by have := HL.out; omega
      obtain ⟨f, hf⟩ : ∃ f, l[j]? = some f := ⟨_, List.getElem?_eq_getElem hjl⟩
      obtain ⟨_, _, _, _, b, off, rfl, hc⟩ := H.out.at hf
      obtain ⟨c0, _, _⟩ := hc wr hb.out
      have HF := hid hf
      have hji : (j : Int) < n := by omega
      have hj0 : (0 : Int) ≤ j := by omega
      clear hc hjl hf
      by_cases he : f.nm = nm
      · have t1 : (f.nm == nm) = true := by simpa using he
        have t2 : decide (f.nm = nm) = true := by simpa using he
        have HE : Hid (findI l nm = (j : Int)) := findI_some (findN_some HF.out he HN.out)
        clear he
        go_wp2_with fail
        go_ret
        exact ⟨by rw [HE.out]; rfl, hb.out⟩
      · have t1 : (f.nm == nm) = false := by rw [beq_eq_false_iff_ne]; exact he
        have t2 : decide (f.nm = nm) = false := by simpa using he
        have HE := hid he
        clear he
        go_wp2_with fail
        exact ⟨⟨j + 1, by omega, by go_num, hid (fun m hm f' hf' => by
          by_cases e : m = j
          · subst e; rw [HF.out] at hf'; cases hf'; exact HE.out
          · exact HN.out m (by omega) f' hf'), hb⟩, by simp [intOf]; omega⟩
    · obtain rfl : j = n := by omega
      have HE : Hid (findI l nm = -1) := findI_none (findN_no fun f hf => by
        obtain ⟨i, hi⟩ := List.mem_iff_getElem?.1 hf
        refine HN.out i ?_ f hi
        have := HL.out
        by_cases c : i < l.length
        · omega
        · rw [List.getElem?_eq_none (by omega)] at hi; cases hi)
      go_wp2_with fail
      go_ret
      exact ⟨by rw [HE.out]; rfl, hb.out⟩
def sgL : List UInt8 := [97, 98, 99, 100, 101, 102, 103, 104, 105, 106, 107, 108, 109, 110, 111, 112, 113, 114, 115, 116, 117, 118, 119, 120, 121, 122, 48, 49, 50, 51, 52, 53, 54, 55, 56, 57, 95]
def posI (c : UInt8) : Nat → Int
  | 0 => -1
  | k + 1 => if sgL.getD k 0 = c then (k : Int) else posI c k
theorem pos_all : ∀ n : Fin 256, (decide (posI (UInt8.ofNat n.val) 37 < 0) = !chB (UInt8.ofNat n.val)) ∧ (chB (UInt8.ofNat n.val) = true → decide (25 < posI (UInt8.ofNat n.val) 37) = !ltB (UInt8.ofNat n.val)) := by decide +kernel
theorem pos_ch (c : UInt8) : (decide (posI c 37 < 0) = !chB c) ∧ (chB c = true → decide (25 < posI c 37) = !ltB c) := by
  have := pos_all ⟨c.toNat, c.toNat_lt⟩
  simpa using this
theorem posI_le (c : UInt8) : ∀ k, -1 ≤ posI c k ∧ posI c k < k := by
  intro k; induction k with
  | zero => exact ⟨by simp [posI], by simp [posI]⟩
  | succ k ih => unfold posI; split <;> omega
theorem sg_at {m : Nat} (hm : m < 37) (h : m < (⟨sgL.toArray⟩ : ByteArray).size) : (⟨sgL.toArray⟩ : ByteArray)[m] = sgL.getD m 0 := by
  show sgL.toArray[m]'(by simpa [ByteArray.size] using h) = _
  rw [List.getElem_toArray, List.getD_eq_getElem?_getD, List.getElem?_eq_getElem (by show m < 37; exact hm)]
  rfl
theorem bs_at {s : List UInt8} {j : Nat} (hj : j < s.length) (h : j < (bs s).size) : (bs s)[j] = s[j] := by
  show s.toArray[j]'(by simpa [ByteArray.size] using h) = _
  rw [List.getElem_toArray]
theorem pos_step {s : List UInt8} {m j : Nat} {c : UInt8} (hm : m < 37) (hj : j < s.length) (hc : c = s[j]) (h1 : m < (⟨sgL.toArray⟩ : ByteArray).size) (h2 : j < (bs s).size) {B : Bool} (h : (((⟨sgL.toArray⟩ : ByteArray)[m].toNat : Int) == ((bs s)[j].toNat : Int)) = B) : posI c (m + 1) = if B then (m : Int) else posI c m := by
  rw [sg_at hm h1, bs_at hj h2, ← hc] at h
  have e : B = decide (sgL.getD m 0 = c) := by
    rw [← h, Bool.eq_iff_iff, beq_iff_eq, decide_eq_true_eq, Int.ofNat_inj, UInt8.toNat_inj]
  rw [e]
  show (if sgL.getD m 0 = c then (m : Int) else posI c m) = _
  simp
theorem name_take {s : List UInt8} {j : Nat} {c : UInt8} (hj : j < s.length) (hc : c = s[j]) (h : (s.take j).all chB = true) (hc2 : chB c = true) : (s.take (j + 1)).all chB = true := by
  rw [List.take_add_one, List.getElem?_eq_getElem hj, ← hc, List.all_append, h]; simp [hc2]
theorem name_no {s : List UInt8} {j : Nat} {c : UInt8} (hj : j < s.length) (hc : c = s[j]) (hc2 : chB c = false) : nameB s = false := by
  have : s.all chB = false := by
    cases h : s.all chB with
    | false => rfl
    | true => have := List.all_eq_true.1 h s[j] (List.getElem_mem hj); rw [← hc, hc2] at this; cases this
  simp [nameB, this]
theorem name_no0 {s : List UInt8} {c : UInt8} (hj : 0 < s.length) (hc : c = s[0]) (hc2 : ltB c = false) : nameB s = false := by
  have : s.head?.any ltB = false := by
    cases s with
    | nil => rfl
    | cons x s => simp at hc ⊢; rw [← hc]; exact hc2
  simp [nameB, this]
set_option maxRecDepth 20000 in
set_option maxHeartbeats 2000000 in
theorem r6name_any {w : World} (s : List UInt8) (hs : s.length ≤ 140737488351232) :
    Calls Tryz.prog 44 #[.string (bs s)] w fun e w' => e = .returned (.bool (nameB s)) ∧ Below w.heap.size w w' := by
  have hsl : (s.length : Int) ≤ 140737488351232 := by omega
  go_enter Tryz.func44, Tryz.ntmps44
  go_wp2_with fail
  go_loopw [4] (fun i wr => ∃ j : Nat, j ≤ s.length ∧ i = .int .i64 j ∧ Hid ((s.take j).all chB = true) ∧ Hid (0 < j → s.head?.any ltB = true) ∧ Hid (Below w.heap.size w wr)) (fun i _ => s.length - (intOf i).toNat)
  case atStart => exact ⟨0, by omega, rfl, hid (by simp), hid (fun h => absurd h (by omega)), B0 w⟩
  case round =>
    obtain ⟨j, hj, rfl, HA, HH, hb⟩ := hrel
    by_cases hlt : j < s.length
    · obtain ⟨c, hc⟩ : ∃ c, c = s[j] := ⟨_, rfl⟩
      have hji : (j : Int) < s.length := by omega
      go_wp2_with fail
      go_loopw [5, 6] (fun a k wr' => ∃ m : Nat, m ≤ 37 ∧ k = .int .i64 m ∧ a = .int .i64 (posI c m) ∧ Hid (Below w.heap.size w wr')) (fun _ k _ => 37 - (intOf k).toNat)
      case atStart => exact ⟨0, by omega, rfl, rfl, hb⟩
      case round =>
        obtain ⟨m, hm, rfl, rfl, hb2⟩ := hrel
        by_cases hm2 : m < 37
        · have hmi : (m : Int) < 37 := by omega
          go_wp2_with fail
          go_region
          go_wp2_with fail
          · rename_i hq
            exact ⟨⟨m + 1, by omega, by go_num, by rw [pos_step hm2 hlt hc _ _ hq]; rfl, Bd hb2.out 1⟩, by simp [intOf]; omega⟩
          · rename_i hq
            exact ⟨⟨m + 1, by omega, by go_num, by rw [pos_step hm2 hlt hc _ _ hq]; rfl, Bd hb2.out 1⟩, by simp [intOf]; omega⟩
        · obtain rfl : m = 37 := by omega
          obtain ⟨P, hP⟩ : ∃ P, P = posI c 37 := ⟨_, rfl⟩
          have hpc := pos_ch c
          have hpl := posI_le c 37
          rw [← hP] at hpc hpl ⊢
          have HLT := hid hlt; have HC := hid hc
          clear hP hc hm hm2
          cases hch : chB c with
          | false =>
            have d1 : decide (P < 0) = true := by rw [hpc.1, hch]; rfl
            have HE : Hid (nameB s = false) := name_no HLT.out HC.out hch
            clear hpc
            go_wp2_with fail
            go_ret
            exact ⟨by rw [HE.out]; rfl, hb2.out⟩
          | true =>
            have d1 : decide (P < 0) = false := by rw [hpc.1, hch]; rfl
            have d2 := hpc.2 hch
            have HCH := hid hch
            by_cases hz : j = 0
            · subst hz
              cases hl : ltB c with
              | false =>
                rw [hl] at d2
                have d3 : decide (25 < P) = true := d2
                have HE : Hid (nameB s = false) := name_no0 HLT.out HC.out hl
                clear hpc d2 hch
                go_wp2_with fail
                go_ret
                exact ⟨by rw [HE.out]; rfl, hb2.out⟩
              | true =>
                rw [hl] at d2
                have d3 : decide (25 < P) = false := d2
                have HLB := hid hl
                clear hpc d2 hch hl
                go_wp2_with fail
                exact ⟨⟨1, HLT.out, by go_num, hid (name_take HLT.out HC.out HA.out HCH.out), hid (fun _ => by
                  have h1 := HC.out; have h2 := HLT.out; have h3 := HLB.out
                  cases s with
                  | nil => simp at h2
                  | cons x s => simp at h1 ⊢; rw [← h1]; exact h3), hb2⟩, by have := HLT.out; simp [intOf]; omega⟩
            · have hz1 : ((j : Int) == 0) = false := by simpa using hz
              clear hpc d2 hch
              go_wp2_with fail
              exact ⟨⟨j + 1, HLT.out, by go_num, hid (name_take HLT.out HC.out HA.out HCH.out), hid (fun _ => HH.out (by omega)), hb2⟩, by have := HLT.out; simp [intOf]; omega⟩
    · obtain rfl : j = s.length := by omega
      have HA2 : Hid (s.all chB = true) := by have := HA.out; rw [List.take_length] at this; exact this
      by_cases h0 : s.length = 0
      · have HE : Hid (nameB s = false) := by show _ = _; simp [nameB, h0]
        have d1 : decide ((0 : Int) < (s.length : Int)) = false := decide_eq_false (by omega)
        go_wp2_with fail
        go_ret
        exact ⟨by rw [HE.out]; rfl, hb.out⟩
      · have d1 : decide ((0 : Int) < (s.length : Int)) = true := decide_eq_true (by omega)
        have HE : Hid (nameB s = decide ((s.length : Int) < 16)) := by
          show _ = _
          unfold nameB
          rw [HA2.out, HH.out (by omega), Bool.eq_iff_iff]
          simp only [Bool.and_true, Bool.and_eq_true, decide_eq_true_eq]; omega
        go_wp2_with fail
        go_ret
        exact ⟨by rw [HE.out]; rfl, hb.out⟩
end Go.Proofs.YtaegencmnmjgbaaGreat

namespace Go.Proofs.YtaegencmnmjgbaaGreat
open Go.ChangeShapes Go.WideShapes Go.ChangeAt Go.RowKit Go.Deep
set_option linter.unusedVariables false
section
variable {H : Type} {enc : TypeId × Value → H} {W : World} {fuel : Nat} {x : DataW H × List MemPlace}
theorem f_one : Tryz.prog.cellsOf 3 = 1 := by kernel_rfl
theorem f_ones : Tryz.prog.cellsOf 9 = 1 := by kernel_rfl
theorem f_oneu : Tryz.prog.cellsOf 69 = 1 := by kernel_rfl
theorem f_fd : Tryz.prog.cellsOf 68 = 3 := by kernel_rfl
theorem f_vl : Tryz.prog.cellsOf 71 = 3 := by kernel_rfl
theorem bs_data (s : ByteArray) : bs s.data.toList = s := by unfold bs; simp
set_option maxRecDepth 20000 in
theorem fd_of_trod {cs : List Value} (h : DataW.trod enc Tryz.prog W 0 (fun _ => true) true fuel 68 cs = some x) :
    ∃ f : Fd, (I64 f.k ∧ I64 f.g) ∧ cs = [.string (bs f.nm), .int .i64 f.k, .int .i64 f.g] ∧ f.nm.length ∈ x.1.weights Tryz.prog 68 := by
  obtain ⟨xs, n, _, hx, hlen, hxl, hf⟩ := DataW.trod_struct Tryz.underlying68 h
  rw [f_fd] at hlen
  match cs, hlen with
  | [c0, c1, c2], _ =>
    match xs, hxl with
    | [y0, y1, y2], _ =>
      have g0 : DataW.trod enc Tryz.prog W 0 (fun _ => true) true n 9 (List.take (Tryz.prog.cellsOf 9) (List.drop 0 [c0, c1, c2])) = some y0 := hf 0 _ rfl
      rw [f_ones] at g0
      change DataW.trod enc Tryz.prog W 0 (fun _ => true) true n 9 [c0] = some y0 at g0
      have g1 : DataW.trod enc Tryz.prog W 0 (fun _ => true) true n 3 (List.take (Tryz.prog.cellsOf 3) (List.drop 1 [c0, c1, c2])) = some y1 := hf 1 _ rfl
      rw [f_one] at g1
      change DataW.trod enc Tryz.prog W 0 (fun _ => true) true n 3 [c1] = some y1 at g1
      have g2 : DataW.trod enc Tryz.prog W 0 (fun _ => true) true n 3 (List.take (Tryz.prog.cellsOf 3) (List.drop 2 [c0, c1, c2])) = some y2 := hf 2 _ rfl
      rw [f_one] at g2
      change DataW.trod enc Tryz.prog W 0 (fun _ => true) true n 3 [c2] = some y2 at g2
      obtain ⟨a0, q0, e0, w0⟩ := DataW.trod_string Tryz.underlying9 g0
      obtain ⟨a1, q1, _, w1⟩ := DataW.trod_int Tryz.underlying3 g1
      obtain ⟨a2, q2, _, w2⟩ := DataW.trod_int Tryz.underlying3 g2
      simp at q0 q1 q2
      subst q0; subst q1; subst q2
      refine ⟨⟨a0.data.toList, a1, a2⟩, ⟨w1, w2⟩, by rw [bs_data], ?_⟩
      rw [hx, e0]
      simp [DataW.weights, Tryz.underlying68, DataW.weightsEach]
set_option maxRecDepth 20000 in
theorem rdF_of_trod {v : Value} (h : DataW.trod enc Tryz.prog W 0 (fun _ => true) true fuel 32 [v] = some x) (hz : ∀ n ∈ x.1.weights Tryz.prog 32, n ≤ reachBytes) : ∃ a len cap l, v = .slice a len cap ∧ RdF W W.heap.size a len cap l := by
  rcases open_slice Tryz.underlying32 h with ⟨hcs, _⟩ | ⟨a, len, cap, m, n, D, Pl, hcs, _, hl, hm, hmm, hx, hi⟩
  · simp at hcs
    exact ⟨none, 0, 0, [], hcs, RdF.nil _ _⟩
  · simp at hcs
    have hmc : m = cap := by simpa using hmm
    rw [f_fd] at hi
    have hch : ∀ i, i < len → ∃ o : Fd, ((I64 o.k ∧ I64 o.g) ∧ o.nm.length ≤ nmMax) ∧ ∃ cs', W.cells? 0 (a.add (i * 3)) 3 = some cs' ∧ cs' = [.string (bs o.nm), .int .i64 o.k, .int .i64 o.g] := by
      intro i hil
      obtain ⟨cs', hc, ht⟩ := hi i (by omega)
      obtain ⟨o, ho, e, hwt⟩ := fd_of_trod ht
      refine ⟨o, ⟨ho, ?_⟩, cs', hc, e⟩
      refine hz _ ?_
      rw [hx]
      have hin : ∀ (l : List (DataW H)) (d : DataW H) (k : Nat), d ∈ l → k ∈ d.weights Tryz.prog 68 → k ∈ DataW.weightsAll Tryz.prog 68 l := by
        intro l
        induction l with
        | nil => intro d k hd; cases hd
        | cons y l ih =>
          intro d k hd hk
          simp only [DataW.weightsAll, List.mem_append]
          rcases List.mem_cons.1 hd with rfl | hd
          · exact .inl hk
          · exact .inr (ih d k hd hk)
      simp only [DataW.weights, Tryz.underlying32, List.mem_cons, List.mem_append]
      exact .inr (.inl (hin _ (D i) _ (List.mem_map.2 ⟨i, List.mem_range.2 hil, rfl⟩) hwt))
    have hex : ∃ f : Nat → Fd, ∀ i, i < len → ((I64 (f i).k ∧ I64 (f i).g) ∧ (f i).nm.length ≤ nmMax) ∧ ∃ cs', W.cells? 0 (a.add (i * 3)) 3 = some cs' ∧ cs' = [.string (bs (f i).nm), .int .i64 (f i).k, .int .i64 (f i).g] := by
      refine ⟨fun i => if hi : i < len then (hch i hi).choose else ⟨[], 0, 0⟩, fun i hi => ?_⟩
      simp only [hi, dif_pos]
      exact (hch i hi).choose_spec
    obtain ⟨f, hf⟩ := hex
    refine ⟨some a, len, cap, (List.range len).map f, hcs, by simp, hl, hm, ?_, fun hn => ?_⟩
    · intro o ho
      obtain ⟨i, hi, rfl⟩ := List.mem_map.1 ho
      obtain ⟨⟨⟨h1, h2⟩, h3⟩, _⟩ := hf i (List.mem_range.1 hi)
      exact ⟨h1, h2, h3⟩
    · obtain ⟨b, off, spot⟩ := a
      have hcell : ∀ i, i < len → ∀ j, j < 3 → W.cell? ((Addr.mk b off spot).add (i * 3 + j)) = [Value.string (bs (f i).nm), .int .i64 (f i).k, .int .i64 (f i).g][j]? := by
        intro i hi j hj
        obtain ⟨_, cs', hc, e⟩ := hf i hi
        obtain ⟨_, _, hat⟩ := World.cells?_some hc
        have := hat j hj
        rw [Go.Deep.add_add, e] at this
        exact this
      have h0 := hcell 0 hn 0 (by omega)
      have hspot : spot = none := by
        have := World.cell?_spot (v := .string (bs (f 0).nm)) (by simpa using h0)
        simpa [Addr.add] using this
      subst hspot
      refine ⟨b, off, rfl, ?_, fun i hi => ?_⟩
      · simp only [add_plain] at h0
        by_cases hb : b < W.heap.size
        · exact hb
        · simp [World.cell?, Array.getElem?_eq_none (show W.heap.size ≤ b by omega)] at h0
      · simp at hi
        have c := fun j hj => hcell i hi j hj
        simp only [add_plain] at c
        have c0 := c 0 (by omega); have c1 := c 1 (by omega); have c2 := c 2 (by omega)
        simp only [List.getElem_map, List.getElem_range]
        refine ⟨by simpa using c0, ?_, ?_⟩
        · rw [Nat.add_assoc]; simpa using c1
        · rw [Nat.add_assoc]; simpa using c2
end
end Go.Proofs.YtaegencmnmjgbaaGreat

namespace Go.Proofs.YtaegencmnmjgbaaGreat
open Go.RowKit
set_option linter.unusedVariables false
set_option linter.unusedSimpArgs false
structure PB {α : Type} (P : World → Nat → α → Prop) : Prop where
  below : ∀ {w w' B a}, P w B a → Below B w w' → P w' B a
  more : ∀ {w B B' a}, P w B a → B ≤ B' → P w B' a
theorem PB.on {α : Type} {P : World → Nat → α → Prop} (hP : PB P) {w w' : World} {a : α} (h : P w w.heap.size a) (hb : Below w.heap.size w w') : P w' w'.heap.size a := hP.more (hP.below h hb) hb.size
def cellsG {α : Type} (cel : α → List Value) (l : List α) : List Value := (l.map cel).flatten
section
variable {α : Type} {cel : α → List Value} {k : Nat}
theorem cellsG_cons (a : α) (l : List α) : cellsG cel (a :: l) = cel a ++ cellsG cel l := rfl
theorem cellsG_app (l m : List α) : cellsG cel (l ++ m) = cellsG cel l ++ cellsG cel m := by simp [cellsG]
theorem cellsG_length (hk : ∀ a, (cel a).length = k) (l : List α) : (cellsG cel l).length = l.length * k := by
  induction l with
  | nil => simp [cellsG]
  | cons o os ih => rw [cellsG_cons, List.length_append, ih, hk, List.length_cons, Nat.succ_mul]; omega
theorem cellsG_get (hk : ∀ a, (cel a).length = k) : ∀ (os : List α) (i : Nat) (a : α), os[i]? = some a → ∀ j, j < k → (cellsG cel os)[i * k + j]? = (cel a)[j]?
  | [], i, a, h, j, hj => by simp at h
  | x :: os, 0, a, h, j, hj => by
    simp at h; subst h
    rw [cellsG_cons, Nat.zero_mul, Nat.zero_add, List.getElem?_append_left (by rw [hk]; exact hj)]
  | x :: os, i + 1, a, h, j, hj => by
    rw [cellsG_cons, List.getElem?_append_right (by rw [hk, Nat.succ_mul]; omega), hk, show (i + 1) * k + j - k = i * k + j by rw [Nat.succ_mul]; omega]
    exact cellsG_get hk os i a (by simpa using h) j hj
end
def tyB (w : World) (b : Nat) (ty : Option TypeId) : Prop := ∀ t, ty = some t → ∃ cs fz, w.heap[b]? = some (.cells cs t fz)
def RdG {α : Type} (ty : Option TypeId) (k : Nat) (cel : α → List Value) (P : World → Nat → α → Prop) (w : World) (B : Nat) (A : Option Addr) (n cap : Nat) (l : List α) : Prop :=
  l.length = n ∧ n ≤ cap ∧ cap ≤ maxLen ∧ (∀ a ∈ l, P w B a) ∧
    (0 < n → ∃ b off, A = some ⟨b, off, none⟩ ∧ b < B ∧ tyB w b ty ∧ ∀ i a, l[i]? = some a → ∀ j, j < k → w.cell? ⟨b, off + i * k + j, none⟩ = (cel a)[j]?)
def OwG {α : Type} (ty : TypeId) (k : Nat) (cel : α → List Value) (w : World) (base : Nat) (v : Value) (l : List α) : Prop := w.ownsRow base ty k v l.length (cellsG cel l)
section
variable {α : Type} {ty : TypeId} {to : Option TypeId} {k : Nat} {cel : α → List Value} {P : World → Nat → α → Prop} {w w' : World} {B B' n cap base : Nat} {A : Option Addr} {l : List α} {v : Value}
theorem RdG.below (hP : PB P) (h : RdG to k cel P w B A n cap l) (hb : Below B w w') : RdG to k cel P w' B A n cap l :=
  ⟨h.1, h.2.1, h.2.2.1, fun a ha => hP.below (h.2.2.2.1 a ha) hb, fun hn => by
    obtain ⟨b, off, e, hlt, ht, hc⟩ := h.2.2.2.2 hn
    exact ⟨b, off, e, hlt, fun t he => by obtain ⟨cs, fz, h1⟩ := ht t he; exact ⟨cs, fz, (hb.block b hlt).trans h1⟩, fun i a hi j hj => (hb.cell (p := ⟨b, _, none⟩) hlt).trans (hc i a hi j hj)⟩⟩
theorem RdG.more (hP : PB P) (h : RdG to k cel P w B A n cap l) (hB : B ≤ B') : RdG to k cel P w B' A n cap l :=
  ⟨h.1, h.2.1, h.2.2.1, fun a ha => hP.more (h.2.2.2.1 a ha) hB, fun hn => by
    obtain ⟨b, off, e, hlt, ht, hc⟩ := h.2.2.2.2 hn
    exact ⟨b, off, e, Nat.lt_of_lt_of_le hlt hB, ht, hc⟩⟩
theorem RdG.on (hP : PB P) (h : RdG to k cel P w w.heap.size A n cap l) (hb : Below w.heap.size w w') : RdG to k cel P w' w'.heap.size A n cap l := (h.below hP hb).more hP hb.size
theorem RdG.nil (w : World) (B : Nat) : RdG to k cel P w B none 0 0 [] := ⟨rfl, by omega, by simp [maxLen], by simp, fun h => by omega⟩
theorem RdG.lenMax (h : RdG to k cel P w B A n cap l) : (n : Int) ≤ 9223372036854775807 := by have := Nat.le_trans h.2.1 h.2.2.1; unfold maxLen at this; omega
theorem RdG.at (h : RdG to k cel P w B A n cap l) {i : Nat} {a : α} (hi : l[i]? = some a) : i < n ∧ P w B a ∧ ∃ b off, A = some ⟨b, off, none⟩ ∧ b < B ∧ ∀ w', Below B w w' → ∀ j, j < k → w'.cell? ⟨b, off + i * k + j, none⟩ = (cel a)[j]? := by
  have hl := (List.getElem?_eq_some_iff.1 hi).1
  obtain ⟨b, off, e, hlt, _, hc⟩ := h.2.2.2.2 (by have := h.1; omega)
  exact ⟨by have := h.1; omega, h.2.2.2.1 a (List.mem_of_getElem? hi), b, off, e, hlt, fun w' hb j hj => (hb.cell (p := ⟨b, _, none⟩) hlt).trans (hc i a hi j hj)⟩
theorem RdG.drop {b off c m : Nat} (h : RdG to k cel P w B (some ⟨b, off, none⟩) n cap l) (hm : m < n) (hc : n - m ≤ c) (hcm : c ≤ maxLen) : RdG to k cel P w B (some ⟨b, off + m * k, none⟩) (n - m) c (l.drop m) := by
  refine ⟨by have := h.1; simp; omega, hc, hcm, fun a ha => h.2.2.2.1 a (List.mem_of_mem_drop ha), fun h0 => ?_⟩
  obtain ⟨b', off', e, hlt, ht, hcc⟩ := h.2.2.2.2 (by omega)
  cases e
  refine ⟨b, off + m * k, rfl, hlt, ht, fun i a hi j hj => ?_⟩
  rw [List.getElem?_drop] at hi
  have := hcc (m + i) a hi j hj
  rw [Nat.add_mul, ← Nat.add_assoc] at this
  exact this
theorem RdG.cells (hk : ∀ a, (cel a).length = k) {ad : Addr} (h : RdG to k cel P w B (some ad) n cap l) : ∀ j u, (cellsG cel l)[j]? = some u → w.cell? (ad.add j) = some u := by
  intro j u hj
  have hjl : j < l.length * k := by
    by_cases hlt : j < l.length * k
    · exact hlt
    · rw [List.getElem?_eq_none (by rw [cellsG_length hk]; omega)] at hj; cases hj
  have hk0 : 0 < k := by
    rcases Nat.eq_zero_or_pos k with e | e
    · rw [e] at hjl; simp at hjl
    · exact e
  have hi : j / k < l.length := (Nat.div_lt_iff_lt_mul hk0).2 hjl
  obtain ⟨a, ha⟩ : ∃ a, l[j / k]? = some a := ⟨_, List.getElem?_eq_getElem hi⟩
  obtain ⟨b, off, e, _, _, hc⟩ := h.2.2.2.2 (Nat.lt_of_le_of_lt (Nat.zero_le _) (by rw [← h.1]; exact hi))
  cases e
  have h1 := hc (j / k) a ha (j % k) (Nat.mod_lt _ hk0)
  have h2 := cellsG_get hk l (j / k) a ha (j % k) (Nat.mod_lt _ hk0)
  have h3 : j / k * k + j % k = j := by rw [Nat.mul_comm]; exact Nat.div_add_mod j k
  rw [h3, hj] at h2
  rw [Nat.add_assoc, h3] at h1
  rw [add_plain, h1, ← h2]
theorem OwG.nil (w : World) (base : Nat) : OwG ty k cel w base (.slice none 0 0) [] := World.ownsRow_nil _ _ _ _
theorem OwG.on (h : OwG ty k cel w base v l) (hb : Below w.heap.size w w') : OwG ty k cel w' base v l := by
  refine ⟨h.1, ?_⟩
  rcases h.2 with h1 | ⟨g, cap, cur, hv, hbase, hg, h3⟩
  · exact .inl h1
  · exact .inr ⟨g, cap, cur, hv, hbase, (hb.block g (row_lt hg)).trans hg, h3⟩
theorem OwG.less (h : OwG ty k cel w base v l) (hb : B ≤ base) : OwG ty k cel w B v l := by
  refine ⟨h.1, ?_⟩
  rcases h.2 with h1 | ⟨g, cap, cur, hv, hbase, hg⟩
  · exact .inl h1
  · exact .inr ⟨g, cap, cur, hv, Nat.le_trans hb hbase, hg⟩
theorem OwG.blk (h : OwG ty k cel w base v l) : ∀ r, v.ownBlock = some r → base ≤ r ∧ ∃ cs, w.heap[r]? = some (.cells cs ty (0, 0)) := by
  intro j hj
  rcases h.2 with ⟨e, _⟩ | ⟨g, cap, cur, e, hbase, hg, _⟩
  · rw [e] at hj; simp [Value.ownBlock] at hj
  · rw [e] at hj; simp [Value.ownBlock] at hj; subst hj; exact ⟨hbase, _, hg⟩
theorem OwG.shape (h : OwG ty k cel w base v l) : ∃ A c, v = .slice A l.length c := by
  rcases h.2 with ⟨e, hn⟩ | ⟨g, cap, cur, e, _⟩
  · rw [hn]; exact ⟨_, _, e⟩
  · exact ⟨_, _, e⟩
theorem OwG.rd (hk : ∀ a, (cel a).length = k) (h : OwG ty k cel w base v l) (hx : ∀ a ∈ l, P w w.heap.size a) : ∃ A cap, v = .slice A l.length cap ∧ RdG (some ty) k cel P w w.heap.size A l.length cap l := by
  rcases h.2 with ⟨rfl, hn⟩ | ⟨g, cap, cur, rfl, hbase, hg, hnc, hm, hs, hl⟩
  · have : l = [] := List.eq_nil_of_length_eq_zero hn
    subst this
    exact ⟨none, 0, rfl, RdG.nil _ _⟩
  · refine ⟨some ⟨g, 0, none⟩, cap, rfl, rfl, hnc, hm, hx, fun hn => ⟨g, 0, rfl, row_lt hg, fun t e => by cases e; exact ⟨_, _, hg⟩, fun i a hi j hj => ?_⟩⟩
    have hi' := (List.getElem?_eq_some_iff.1 hi).1
    have hb : i * k + j < l.length * k := by
      have := Nat.mul_le_mul_right k (show i + 1 ≤ l.length from hi')
      rw [Nat.succ_mul] at this; omega
    rw [row_cell hg, Nat.zero_add, ← cellsG_get hk l i a hi j hj, ← hl, List.getElem?_take_of_lt hb, Array.getElem?_toList]
theorem run_app0 {sl : TypeId} {z : Value} {by_ : Nat} (hU : Tryz.prog.underlying sl = some (.slice ty)) (hi8 : (Tryz.prog.info? ty).map (fun i => (i.zero, i.size, i.bytes)) = some (some z, k, by_)) {g c : Nat} {A : Option Addr} (t : TypeId) :
    (Builtin.append_ #[sl, sl] t #[.slice (some ⟨g, 0, none⟩) 0 0, .slice A 0 c]).run Tryz.prog w = .ok (.slice (some ⟨g, 0, none⟩) 0 0) w := by
  cases hi : Tryz.prog.info? ty with
  | none => rw [hi] at hi8; cases hi8
  | some i =>
    cases A <;> simp [Builtin.append_, run_underlying hU, sizeOf, typeInfo, hi, Builtin.lenOf, Builtin.firstCells, loadCells, loadCellsFrom, storeCells]
theorem OwG.empty {g : Nat} (h : w.heap[g]? = some (.cells #[] ty (0, 0))) (hb : base ≤ g) : OwG ty k cel w base (.slice (some ⟨g, 0, none⟩) 0 0) [] :=
  ⟨by simp [cellsG], .inr ⟨g, 0, #[], rfl, hb, h, by simp, by simp [maxLen], by simp, by simp [cellsG]⟩⟩
end
end Go.Proofs.YtaegencmnmjgbaaGreat
