/-
  The contract of word.lay: the lowest bytes of a number over those of a row.
-/
import Derived.Test.YtacakogncjhlfaaKit
namespace Go.Proofs.Ytacakogncjhlfaa
open Go.RowKit
set_option linter.unusedVariables false

set_option maxHeartbeats 400000 in
theorem lay_any (g off n cap x : Nat) (nn : Int) (cs : Array Value) (w : World) (hn : U64 nn) (hg : w.heap[g]? = some (.cells cs 5 (0, 0))) (hx : x ≤ n) (hx8 : x ≤ 8) (hoff : off + n ≤ cs.size) (hnc : n ≤ cap) :
    Calls Try.prog 49 #[.slice (some ⟨g, off, none⟩) n cap, .int .i64 x, .int .u64 nn] w fun e w' => e = .returned (.tuple #[]) ∧ w'.heap[g]? = some (.cells (splice cs.toList off ((le nn x).map bv)).toArray 5 (0, 0)) ∧ w.grownBy w' (some g) ∧ w'.heap.size = w.heap.size := by
  have h0 := hn.1
  go_enter Try.func49, Try.ntmps49
  go_wp2
  go_loopw [8] (fun i wr => ∃ k : Nat, k ≤ x ∧ i = .int .i64 k ∧ Hid (wr.heap[g]? = some (.cells (splice cs.toList off ((le nn k).map bv)).toArray 5 (0, 0))) ∧ w.grownBy wr (some g) ∧ Hid (wr.heap.size = w.heap.size)) (fun i _ => x - (intOf i).toNat)
  case atStart => exact ⟨0, by omega, rfl, show _ = _ by simpa [splice, le] using hg, grown_refl _ _, rfl⟩
  case round =>
    obtain ⟨k, hk, rfl, hr, hgr, hsz⟩ := hrel
    by_cases hlt : k < x
    · have hfz := row_frozen hr.out (off + k)
      have hlen : (splice cs.toList off ((le nn k).map bv)).length = cs.size := by rw [length_splice _ _ _ (by simp [le_length]; omega)]; simp
      have hc : ∃ v, wr.cell? ⟨g, off + k, none⟩ = some v := by
        rw [row_cell hr.out]
        exact ⟨_, Array.getElem?_eq_getElem (by rw [List.size_toArray, hlen]; omega)⟩
      obtain ⟨v, hc⟩ := hc
      have HS := hid hlen; clear hlen
      go_wp2
      refine ⟨⟨k + 1, by omega, by go_num, ?_, grown_set hgr _ _, (size_set _ _ _).trans hsz.out⟩, by simp [intOf]; omega⟩
      show _ = _
      rw [row_set hr.out, splice_snoc _ _ _ _ _ (by simp [le_length]) (by simp; omega)]
      simp [le, bv_byteAt, two_pw]
    · go_wp2
      obtain rfl : k = x := by omega
      go_end0
      exact ⟨rfl, hr.out, hgr, hsz.out⟩
end Go.Proofs.Ytacakogncjhlfaa
