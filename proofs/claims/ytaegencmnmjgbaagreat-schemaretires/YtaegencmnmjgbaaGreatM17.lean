/-
  The document's Right, Layout, Refs of layer 6.
-/
import Derived.Test.YtaegencmnmjgbaaGreatM6

namespace Go.Proofs.YtaegencmnmjgbaaGreat
open Go.RowKit
set_option linter.unusedVariables false
def short (l : List Fd) : Prop := ∀ f ∈ l, f.nm.length ≤ 140737488351232
theorem right_no {l : List Fd} {i : Nat} {f : Fd} (hi : l[i]? = some f) (h : ¬ (nameB f.nm = true ∧ f.may = true ∧ findN l f.nm = some i)) : rightL l = false := by
  cases hr : rightL l with
  | false => rfl
  | true => exact absurd ((rightL_iff.1 hr).2 i f hi) h
set_option maxHeartbeats 2000000 in
theorem r6right_any {w : World} {A : Option Addr} {n c : Nat} {l : List Fd} (h : RdF w w.heap.size A n c l) (hs : short l) :
    Calls Tryz.prog 95 #[.slice A n c] w fun e w' => e = .returned (.bool (rightL l)) ∧ Below w.heap.size w w' := by
  have HL := hid h.1
  have hnm : (n : Int) ≤ 9223372036854775807 := by have := Nat.le_trans h.2.1 h.2.2.1; unfold maxLen at this; omega
  have H := hid h; have HS := hid hs; clear h hs
  go_enter Tryz.func95, Tryz.ntmps95
  go_wp2_with fail
  go_loopw [3] (fun i wr => ∃ j : Nat, j ≤ n ∧ i = .int .i64 j ∧ Hid (∀ m, m < j → ∀ f, l[m]? = some f → nameB f.nm = true ∧ f.may = true ∧ findN l f.nm = some m) ∧ Hid (Below w.heap.size w wr)) (fun i _ => n - (intOf i).toNat)
  case atStart => exact ⟨0, by omega, rfl, hid (fun m hm => absurd hm (by omega)), B0 w⟩
  case round =>
    obtain ⟨j, hj, rfl, HA, HB⟩ := hrel
    by_cases hlt : j < n
    · have hjl : j < l.length := by have := HL.out; omega
      obtain ⟨f, hf⟩ : ∃ f, l[j]? = some f := ⟨_, List.getElem?_eq_getElem hjl⟩
      obtain ⟨_, _, _, _, b, off, rfl, hc⟩ := H.out.at hf
      have HF := hid hf; have HC := hid hc
      have hsf : f.nm.length ≤ 140737488351232 := HS.out f (List.mem_of_getElem? hf)
      have HSF := hid hsf
      obtain ⟨c0, c1, c2⟩ := hc wr HB.out
      have hji : (j : Int) < n := by omega
      have hj0 : (0 : Int) ≤ j := by omega
      obtain ⟨nb, hnb⟩ : ∃ nb, nb = nameB f.nm := ⟨_, rfl⟩
      obtain ⟨mb, hmb⟩ : ∃ mb, mb = f.may := ⟨_, rfl⟩
      have HNB := hid hnb; have HMB : Hid (mb = mayF f.k f.g) := hmb
      clear hc hjl hf hsf hnb hmb
      cases nb with
      | false =>
        have HE : Hid (rightL l = false) := right_no HF.out (by rw [← HNB.out]; simp)
        go_wp2_with fail
        refine (r6name_any f.nm HSF.out).mono ?_
        rintro e w1 ⟨rfl, hb1⟩
        rw [← HNB.out]
        have HB1 := hid (Bt HB.out hb1)
        clear hb1 c0 c1 c2
        go_wp2_with fail
        go_ret
        exact ⟨by rw [HE.out]; rfl, HB1.out⟩
      | true =>
        go_wp2_with fail
        refine (r6name_any f.nm HSF.out).mono ?_
        rintro e w1 ⟨rfl, hb1⟩
        rw [← HNB.out]
        have HB1 := hid (Bt HB.out hb1)
        obtain ⟨c0, c1, c2⟩ := HC.out w1 HB1.out
        clear hb1
        cases mb with
        | false =>
          have HE : Hid (rightL l = false) := right_no HF.out (by rw [show f.may = false from HMB.out.symm]; simp)
          go_wp2_with fail
          refine (rmay_any (bs f.nm) f.k f.g w1).mono ?_
          rintro e w2 ⟨rfl, hb2⟩
          rw [← HMB.out]
          have HB2 := hid (Bt HB1.out hb2)
          clear hb2 c0 c1 c2
          go_wp2_with fail
          go_ret
          exact ⟨by rw [HE.out]; rfl, HB2.out⟩
        | true =>
          go_wp2_with fail
          refine (rmay_any (bs f.nm) f.k f.g w1).mono ?_
          rintro e w2 ⟨rfl, hb2⟩
          rw [← HMB.out]
          have HB2 := hid (Bt HB1.out hb2)
          obtain ⟨c0, c1, c2⟩ := HC.out w2 HB2.out
          clear hb2
          obtain ⟨q, hq, hqj⟩ := findN_le HF.out
          have HQ := hid hq
          clear hq
          go_wp2_with fail
          refine (r6find_any (H.out.on HB2.out) f.nm).mono ?_
          rintro e w3 ⟨rfl, hb3⟩
          rw [findI_some HQ.out]
          have HB3 := hid (Bt HB2.out hb3)
          clear hb3 c0 c1 c2
          by_cases hqq : q < j
          · have d1 : decide ((q : Int) < (j : Int)) = true := decide_eq_true (by omega)
            have HE : Hid (rightL l = false) := right_no HF.out (by rw [HQ.out]; intro h; have := h.2.2; cases this; omega)
            go_wp2_with fail
            go_ret
            exact ⟨by rw [HE.out]; rfl, HB3.out⟩
          · obtain rfl : q = j := by omega
            go_wp2_with fail
            exact ⟨⟨q + 1, by omega, by go_num, hid (fun m hm f' hf' => by
              by_cases e : m = q
              · subst e; rw [HF.out] at hf'; cases hf'; exact ⟨HNB.out.symm, HMB.out.symm, HQ.out⟩
              · exact HA.out m (by omega) f' hf'), HB3⟩, by simp [intOf]; omega⟩
    · obtain rfl : j = n := by omega
      have HE : Hid (rightL l = decide ((j : Int) < 17)) := by
        show _ = _
        rw [Bool.eq_iff_iff, rightL_iff, decide_eq_true_eq]
        refine ⟨fun h => by have := h.1; have := HL.out; omega, fun h => ⟨by have := HL.out; omega, fun i f hi => ?_⟩⟩
        refine HA.out i ?_ f hi
        have := HL.out
        by_cases cc : i < l.length
        · omega
        · rw [List.getElem?_eq_none (by omega)] at hi; cases hi
      go_wp2_with fail
      go_ret
      exact ⟨by rw [HE.out]; rfl, HB.out⟩
def iv (x : Int) : Value := .int .i64 x
def OwI (w : World) (base : Nat) (v : Value) (l : List Int) : Prop := w.ownsRow base 3 1 v l.length (l.map iv)
theorem OwI.nil (w : World) (base : Nat) : OwI w base (.slice none 0 0) [] := World.ownsRow_nil _ _ _ _
section
variable {w w' : World} {base : Nat} {v : Value} {l : List Int}
theorem OwI.on (h : OwI w base v l) (hb : Below w.heap.size w w') : OwI w' base v l := by
  refine ⟨h.1, ?_⟩
  rcases h.2 with h1 | ⟨g, cap, cur, hv, hbase, hg, h3⟩
  · exact .inl h1
  · exact .inr ⟨g, cap, cur, hv, hbase, (hb.block g (row_lt hg)).trans hg, h3⟩
theorem OwI.rd (h : OwI w base v l) (hx : ∀ x ∈ l, I64 x) : ∃ A cap, v = .slice A l.length cap ∧ RdI w w.heap.size A l.length cap l := by
  rcases h.2 with ⟨rfl, hn⟩ | ⟨g, cap, cur, rfl, hbase, hg, hnc, hm, hs, hl⟩
  · have : l = [] := List.eq_nil_of_length_eq_zero hn
    subst this
    exact ⟨none, 0, rfl, RdI.nil _ _⟩
  · refine ⟨some ⟨g, 0, none⟩, cap, rfl, rfl, hnc, hm, hx, fun hn => ⟨g, 0, rfl, row_lt hg, fun i hi => ?_⟩⟩
    rw [Nat.zero_add, row_cell hg]
    have h2 : (cur.toList.take (l.length * 1))[i]? = some (iv l[i]) := by rw [hl]; simp [hi]
    rw [Nat.mul_one, List.getElem?_take_of_lt hi] at h2
    simpa [iv] using h2
end
theorem infoI : (Tryz.prog.info? 3).map (fun i => (i.zero, i.size, i.bytes)) = some (some (.int .i64 0), 1, 8) := by kernel_rfl
def layL (l : List Fd) : List Int := if rightL l then layP 0 l else []
def layT (l : List Fd) : Int := if rightL l then layN l else 0
def LayQ (w : World) (l : List Fd) (e : Ending) (w' : World) : Prop := ∃ v, e = .returned (.tuple #[v, .int .i64 (layT l)]) ∧ OwI w' w.heap.size v (layL l) ∧ Below w.heap.size w w'
end Go.Proofs.YtaegencmnmjgbaaGreat
