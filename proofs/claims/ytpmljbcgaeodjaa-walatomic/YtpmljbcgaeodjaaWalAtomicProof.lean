/-
  Proved: the law WalAtomic of layer 04 returns true for every input, and every argument reads afterwards as it read before. Conditions: none.
-/
import Derived.Test.YtpmljbcgaeodjaaLiftS
import Derived.Test.YtpmljbcgaeodjaaLaw4A
import Derived.Lib.SmallJoins
import Derived.SizedLaws
namespace Go.Proofs.Ytpmljbcgaeodjaa.walAtomic
open Go.ChangeShapes Go.WideShapes Go.ChangeAt Go.RowKit
open Go.ChangeMaps (open_string shut_string)
set_option linter.unusedVariables false

set_option maxRecDepth 100000 in
theorem lifted (os : Os) (started : os.Started) (H : Type) (enc : TypeId × Value → H) :
    ReturnsInHanded {} Try.checked os 3 .any (Rows.walAtomicSpec.pre6 enc Try.prog Try.f3 Rows.walAtomicRow.domain false) (Rows.walAtomicSpec.post enc Try.prog Try.f3 false true false false) := by
  refine returnsInHanded_of_change_sized (C := Try.checked) own started (by kernel_rfl) Try.func3
    (ChangeSpec.witness6 (enc := enc) (C := Try.checked) false ⟨#[], #[.slice none 0 0, .slice none 0 0, .slice none 0 0], []⟩ 8 (by kernel_rfl) (by kernel_rfl) (by kernel_rfl) (by kernel_rfl)) ?_
  intro W base args ds gs before hval0 hW hcnd hsz0 _
  have hsz : (DataW.weightsEach Try.prog (Try.f3.params.toList ++ Rows.walAtomicSpec.plain.varTypes Try.prog) (ds ++ gs)).all (· ≤ reachBytes) = true := hsz0
  clear hsz0
  have hval : ∀ (j : Nat) t v, Try.f3.params[j]? = some t → args[j]? = some v → Value.okWide Try.prog W .any base t v := hval0
  have hW' := hW
  obtain ⟨p, q, hA0, hV, rfl, hfz, hnd⟩ := hW
  have hA : DataW.TrodAll enc Try.prog W 0 (fun _ => true) true Try.f3.params.toList args.toList ds p := hA0
  rw [Try.params3] at hA hval hsz
  obtain ⟨v0, vs0, d0, ds0, p0, q0, hargs, rfl, rfl, h0, r0⟩ := trodAll_cons hA
  obtain ⟨v1, vs1, d1, ds1, p1, q1, rfl, rfl, rfl, h1, r1⟩ := trodAll_cons r0
  obtain ⟨v2, vs2, d2, ds2, p2, q2, rfl, rfl, rfl, h2, r2⟩ := trodAll_cons r1
  obtain ⟨rfl, rfl, rfl⟩ := trodAll_nil r2
  obtain rfl : args = #[v0, v1, v2] := by cases args; simp_all
  obtain ⟨rfl, rfl⟩ := trodVars_none hV
  obtain ⟨a0, len0, cap0, rfl⟩ := okWide_slice Try.underlying22 (hval 0 22 v0 rfl rfl)
  have k0 := h0
  have lt0 : ∀ x ∈ p0, x.block < W.heap.size := by obtain ⟨m, hm⟩ := k0; exact DataW.trod_lt m _ _ _ hm
  obtain ⟨l0, w0⟩ : ∃ l, RdS W W.heap.size a0 len0 cap0 l := by
    obtain ⟨fuel, hf⟩ := h0
    obtain ⟨a', n', c', l', e, hr⟩ := rdS_of_trod (fuel := fuel) (v := .slice a0 len0 cap0) hf
    cases e; exact ⟨l', hr⟩
  have z0 : len0 ≤ 140737488351232 := by
    obtain ⟨fuel, hf⟩ := h0
    rcases len_of_trod (fuel := fuel) (v := .slice a0 len0 cap0) hf with ⟨elems, spare, a', len', cap', hd, e, hc, hl⟩ | e
    · cases e
      simp only at hd
      have hs := sized_slice hsz (j := 0) (t := 22) (e := 42) rfl (by rw [← hd]; rfl) Try.underlying22
      rw [show Try.prog.bytesOf 42 = 16 by kernel_rfl, hc] at hs
      simp only [reachBytes] at hs
      omega
    · cases e; omega
  obtain ⟨a1, len1, cap1, rfl⟩ := okWide_slice Try.underlying22 (hval 1 22 v1 rfl rfl)
  have k1 := h1
  have lt1 : ∀ x ∈ p1, x.block < W.heap.size := by obtain ⟨m, hm⟩ := k1; exact DataW.trod_lt m _ _ _ hm
  obtain ⟨l1, w1⟩ : ∃ l, RdS W W.heap.size a1 len1 cap1 l := by
    obtain ⟨fuel, hf⟩ := h1
    obtain ⟨a', n', c', l', e, hr⟩ := rdS_of_trod (fuel := fuel) (v := .slice a1 len1 cap1) hf
    cases e; exact ⟨l', hr⟩
  have z1 : len1 ≤ 140737488351232 := by
    obtain ⟨fuel, hf⟩ := h1
    rcases len_of_trod (fuel := fuel) (v := .slice a1 len1 cap1) hf with ⟨elems, spare, a', len', cap', hd, e, hc, hl⟩ | e
    · cases e
      simp only at hd
      have hs := sized_slice hsz (j := 1) (t := 22) (e := 42) rfl (by rw [← hd]; rfl) Try.underlying22
      rw [show Try.prog.bytesOf 42 = 16 by kernel_rfl, hc] at hs
      simp only [reachBytes] at hs
      omega
    · cases e; omega
  obtain ⟨a2, len2, cap2, rfl⟩ := okWide_slice Try.underlying23 (hval 2 23 v2 rfl rfl)
  have k2 := h2
  have lt2 : ∀ x ∈ p2, x.block < W.heap.size := by obtain ⟨m, hm⟩ := k2; exact DataW.trod_lt m _ _ _ hm
  obtain ⟨l2, w2⟩ : ∃ l, RdI W W.heap.size a2 len2 cap2 l := by
    obtain ⟨fuel, hf⟩ := h2
    obtain ⟨a', n', c', l', e, hr⟩ := rdI_of_trod (fuel := fuel) (v := .slice a2 len2 cap2) hf
    cases e; exact ⟨l', hr⟩
  clear hA0 hval0
  refine (walk_WalAtomic a0 len0 cap0 l0 a1 len1 cap1 l1 a2 len2 cap2 l2 W w0 z0 w1 z1 w2).mono fun e W' ⟨he, bel⟩ => ?_
  subst he
  exact ⟨_, rfl, _, _, _, [], _, [], hW', trodAll_mk1 (shut_bool Try.underlying4 _), (trodAll_cons_mk (Below.trod laidOut (by kernel_rfl) (of_decide_eq_true (by kernel_rfl)) k0 bel lt0) (trodAll_cons_mk (Below.trod laidOut (by kernel_rfl) (of_decide_eq_true (by kernel_rfl)) k1 bel lt1) (trodAll_cons_mk (Below.trod laidOut (by kernel_rfl) (of_decide_eq_true (by kernel_rfl)) k2 bel lt2) trodAll_mk0))), rfl, bel.frame _, fun h => by cases h⟩

theorem over : Rows.walAtomicRow.holds Try.pinned (OpenSpec.ofChange Rows.walAtomicSpec) :=
  OpenClaim.holds_of_wide 3 Try.f3 rfl rfl rfl rfl rfl rfl rfl ⟨rfl, rfl, rfl, rfl, rfl⟩ rfl rfl rfl rfl rfl (by kernel_rfl) Try.func3 (by kernel_rfl)
    (of_decide_eq_true (by kernel_rfl)) (by unfold Func.isWrapper; first | (rw [if_pos (by decide +kernel)]; kernel_rfl) | (rw [if_neg (by decide +kernel)]; exact ⟨rfl, rfl⟩))
    (fun os started H enc _ => lifted os started H enc)

theorem proved : Rows.WalAtomicSaid := over
#print axioms proved
end Go.Proofs.Ytpmljbcgaeodjaa.walAtomic
