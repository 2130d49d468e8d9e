/-
  Proved: the law WalAll of layer 04 returns true for every input, and every argument reads afterwards as it read before. Conditions: none.
-/
import Derived.Test.YteggkojlpgkhbaaGreatM4
import Derived.Test.YteggkojlpgkhbaaGreatM7
import Derived.Test.YteggkojlpgkhbaaGreatLaw4L
import Derived.Lib.SmallJoins

namespace Go.Proofs.YteggkojlpgkhbaaGreat.walAll
open Go.ChangeShapes Go.WideShapes Go.ChangeAt Go.RowKit
open Go.ChangeMaps (open_string shut_string)
set_option linter.unusedVariables false

set_option maxRecDepth 100000 in
theorem lifted (os : Os) (started : os.Started) (H : Type) (enc : TypeId × Value → H) :
    ReturnsInHanded {} Tryz.checked os 3 .any (Rows.walAllSpec.pre6 enc Tryz.prog Tryz.f3 Rows.walAllRow.domain false) (Rows.walAllSpec.post enc Tryz.prog Tryz.f3 false true false false) := by
  refine returnsInHanded_of_change (C := Tryz.checked) own started (by kernel_rfl) Tryz.func3
    (ChangeSpec.witness6 (enc := enc) (C := Tryz.checked) false ⟨#[], #[.agg #[.slice none 0 0, .slice none 0 0, .int .i64 0, .int .i64 0], .slice none 0 0], []⟩ 8 (by kernel_rfl) (by kernel_rfl) (by kernel_rfl) (by kernel_rfl)) ?_
  intro W base args ds gs before hval0 hW hcnd _
  have hval : ∀ (j : Nat) t v, Tryz.f3.params[j]? = some t → args[j]? = some v → Value.okWide Tryz.prog W .any base t v := hval0
  have hW' := hW
  obtain ⟨p, q, hA0, hV, rfl, hfz, hnd⟩ := hW
  have hA : DataW.TrodAll enc Tryz.prog W 0 (fun _ => true) true Tryz.f3.params.toList args.toList ds p := hA0
  rw [Tryz.params3] at hA hval
  obtain ⟨v0, vs0, d0, ds0, p0, q0, hargs, rfl, rfl, h0, r0⟩ := trodAll_cons hA
  obtain ⟨v1, vs1, d1, ds1, p1, q1, rfl, rfl, rfl, h1, r1⟩ := trodAll_cons r0
  obtain ⟨rfl, rfl, rfl⟩ := trodAll_nil r1
  obtain rfl : args = #[v0, v1] := by cases args; simp_all
  obtain ⟨rfl, rfl⟩ := trodVars_none hV
  have k0 := h0
  have lt0 : ∀ x ∈ p0, x.block < W.heap.size := by obtain ⟨m, hm⟩ := k0; exact DataW.trod_lt m _ _ _ hm
  obtain ⟨cs0, rfl, _⟩ := okWide_struct Tryz.underlying27 (hval 0 27 v0 rfl rfl)
  obtain ⟨sa0, sn0, sc0, sb0, ta0, tn0, tc0, tl0, rt0, rw0, z0b, z0s, z0a, z0w, e0⟩ : ∃ (A : Option Addr) (n c : Nat) (b : List UInt8) (A2 : Option Addr) (n2 c2 : Nat) (l : List OpV) (at_ words : Int), Rd W W.heap.size A n c b ∧ RdO W W.heap.size A2 n2 c2 l ∧ I64 at_ ∧ I64 words ∧ cs0 = #[.slice A n c, .slice A2 n2 c2, .int .i64 at_, .int .i64 words] := by
    obtain ⟨fuel, hf⟩ := h0
    obtain ⟨A, n, c, b, A2, n2, c2, l, at_, words, q1, q2, q3, q4, e⟩ := seat_of_trod (fuel := fuel) (cs := cs0.toList) hf
    exact ⟨A, n, c, b, A2, n2, c2, l, at_, words, q1, q2, q3, q4, Array.toList_inj.1 e⟩
  subst e0
  obtain ⟨a1, len1, cap1, rfl⟩ := okWide_slice Tryz.underlying28 (hval 1 28 v1 rfl rfl)
  have k1 := h1
  have lt1 : ∀ x ∈ p1, x.block < W.heap.size := by obtain ⟨m, hm⟩ := k1; exact DataW.trod_lt m _ _ _ hm
  obtain ⟨l1, w1⟩ : ∃ l, RdS W W.heap.size a1 len1 cap1 l := by
    obtain ⟨fuel, hf⟩ := h1
    obtain ⟨a', n', c', l', e, hr⟩ := rdS_of_trod (fuel := fuel) (v := .slice a1 len1 cap1) hf
    cases e; exact ⟨l', hr⟩
  clear hA0 hval0
  refine (walk_WalAll sa0 sn0 sc0 sb0 ta0 tn0 tc0 tl0 rt0 rw0 a1 len1 cap1 l1 W z0b z0s z0a z0w w1).mono fun e W' ⟨he, bel⟩ => ?_
  subst he
  exact ⟨_, rfl, _, _, _, [], _, [], hW', trodAll_mk1 (shut_bool Tryz.underlying4 _), (trodAll_cons_mk (Below.trod laidOut (by kernel_rfl) (of_decide_eq_true (by kernel_rfl)) k0 bel lt0) (trodAll_cons_mk (Below.trod laidOut (by kernel_rfl) (of_decide_eq_true (by kernel_rfl)) k1 bel lt1) trodAll_mk0)), rfl, bel.frame _, fun h => by cases h⟩

theorem over : Rows.walAllRow.holds Tryz.pinned (OpenSpec.ofChange Rows.walAllSpec) :=
  OpenClaim.holds_of_wide 3 Tryz.f3 rfl rfl rfl rfl rfl rfl rfl ⟨rfl, rfl, rfl, rfl, rfl⟩ rfl rfl rfl rfl rfl (by kernel_rfl) Tryz.func3 (by kernel_rfl)
    (of_decide_eq_true (by kernel_rfl)) (by unfold Func.isWrapper; first | (rw [if_pos (by decide +kernel)]; kernel_rfl) | (rw [if_neg (by decide +kernel)]; exact ⟨rfl, rfl⟩))
    (fun os started H enc _ => lifted os started H enc)

theorem proved : Rows.WalAllSaid := over
#print axioms proved
end Go.Proofs.YteggkojlpgkhbaaGreat.walAll
