/-
  KindSteps: the walk.
-/
import Derived.Test.YtacakogncjhlfaaLaw5M
import Derived.Deep.DeepCutAuto
namespace Go.Proofs.Ytacakogncjhlfaa
open Go.RowKit
set_option linter.unusedVariables false
set_option linter.unusedSimpArgs false

/-- An array of two ints in a block. -/
def AB (w : World) (p : Nat) (b c : Int) : Prop := w.heap[p]? = some (.cells #[.int .i64 b, .int .i64 c] 48 (0, 0))
theorem AB.lt {w : World} {p : Nat} {b c : Int} (h : AB w p b c) : p < w.heap.size := row_lt h
theorem AB.on {w w' : World} {p : Nat} {b c : Int} (h : AB w p b c) (hb : Below w.heap.size w w') : AB w' p b c := (hb.block p h.lt).trans h
theorem AB.cells {w : World} {p : Nat} {b c : Int} (h : AB w p b c) : w.cell? ⟨p, 0, none⟩ = some (.int .i64 b) ∧ w.cell? ⟨p, 1, none⟩ = some (.int .i64 c) := ⟨row_cell h 0, row_cell h 1⟩
/-- The three fields that the law makes. -/
def Three (w wx : World) (p q r : Value) (a b c : Int) : Prop :=
  ∃ pa pb pc : Nat, p = .pointer (some ⟨pa, 0, none⟩) ∧ q = .pointer (some ⟨pb, 0, none⟩) ∧ r = .pointer (some ⟨pc, 0, none⟩) ∧ FB wx pa ⟨#[]⟩ a 0 ∧ FB wx pb ⟨#[]⟩ b 0 ∧ FB wx pc ⟨#[]⟩ c 0 ∧ Below w.heap.size w wx
set_option maxHeartbeats 2000000 in
theorem st_all (vk n : Int) (t : ByteArray) (b c a : Int) (w : World) (hn : U64 n) (HR : Hid (∀ R, castsF a 0 b 0 = true → castsF b 0 c 0 = true → castsF a 0 c 0 = true → a ≤ 9 → b ≤ 9 → c ≤ 9 → (castR vk n t a 0 b 0 = .tuple #[.agg #[.int .i64 0, .int .u64 0, .string ⟨#[]⟩], .int .i64 50] → R) → (castR vk n t a 0 b 0 = .tuple #[.agg #[.int .i64 b, .int .u64 n, .string ⟨#[]⟩], .int .i64 0] → castR b n ⟨#[]⟩ b 0 c 0 = .tuple #[.agg #[.int .i64 c, .int .u64 n, .string ⟨#[]⟩], .int .i64 0] → castR vk n t a 0 c 0 = .tuple #[.agg #[.int .i64 c, .int .u64 n, .string ⟨#[]⟩], .int .i64 0] → R) → R)) :
    Calls Try.prog 7 #[.agg #[.int .i64 vk, .int .u64 n, .string t], .agg #[.int .i64 b, .int .i64 c], .int .i64 a] w fun e w' => e = .returned (.bool true) ∧ Below w.heap.size w w' := by
  have V0 := (vb_new w vk n t).alloc (.cells #[.int .i64 b, .int .i64 c] 48)
  have A0 : AB ((w.alloc (.cells #[.int .i64 vk, .int .u64 n, .string t] 24)).alloc (.cells #[.int .i64 b, .int .i64 c] 48)) (w.heap.size + 1) b c := by have h := heap_alloc_new (w.alloc (.cells #[.int .i64 vk, .int .u64 n, .string t] 24)) (.cells #[.int .i64 b, .int .i64 c] 48); rwa [World.size_alloc] at h
  have hbw0 := Ba (B1 w (.cells #[.int .i64 vk, .int .u64 n, .string t] 24)) (.cells #[.int .i64 b, .int .i64 c] 48)
  obtain ⟨W, hW⟩ : ∃ W, W = (w.alloc (.cells #[.int .i64 vk, .int .u64 n, .string t] 24)).alloc (.cells #[.int .i64 b, .int .i64 c] 48) := ⟨_, rfl⟩
  rw [← hW] at V0 A0 hbw0
  go_enter Try.func7, Try.ntmps7
  go_upto_region 1 with fail
  rw [← hW]
  clear hW
  go_cut [7, 8, 9] from 16 to 23 (fun p q r wx => Three W wx p q r a b c)
  case first =>
    refine reg_begin (by kernel_rfl) (fun w0r hx0r hHeld => ?_)
    have A9 := A0.on hx0r
    have aq0 : ∀ w', Ext w0r w' → w'.cell? ⟨w.heap.size + 1, 0, none⟩ = some (.int .i64 b) := fun w' h => (A9.on h).cells.1
    have aq1 : ∀ w', Ext w0r w' → w'.cell? ⟨w.heap.size + 1, 1, none⟩ = some (.int .i64 c) := fun w' h => (A9.on h).cells.2
    refine reg_take 0 (v := ?vz1_0) at0 (by kernel_rfl) (by kernel_rfl) (by kernel_rfl) (by rfl) ?hyz1_0 hHeld ?restz1_0
    case hyz1_0 => (intro w' hSw; go_simp; try with_reducible rfl)
    try simp only [Act.put, List.setIfInBounds_toArray, List.set_cons_zero, List.set_cons_succ]
    refine reg_take 1 (v := ?vz2_1) (atS at0) (by kernel_rfl) (by kernel_rfl) (by kernel_rfl) (by rfl) ?hyz2_1 hHeld ?restz2_1
    case hyz2_1 => (intro w' hSw; go_simp; try with_reducible rfl)
    try simp only [Act.put, List.setIfInBounds_toArray, List.set_cons_zero, List.set_cons_succ]
    refine reg_take 2 (v := ?vz3_2) (atS (atS at0)) (by kernel_rfl) (by kernel_rfl) (by kernel_rfl) (by rfl) ?hyz3_2 hHeld ?restz3_2
    case hyz3_2 => (intro w' hSw; go_simp; try with_reducible rfl)
    try simp only [Act.put, List.setIfInBounds_toArray, List.set_cons_zero, List.set_cons_succ]
    refine reg_take 3 (v := ?vz4_3) (atS (atS (atS at0))) (by kernel_rfl) (by kernel_rfl) (by kernel_rfl) (by rfl) ?hyz4_3 hHeld ?restz4_3
    case hyz4_3 => (intro w' hSw; go_simp; try with_reducible rfl)
    try simp only [Act.put, List.setIfInBounds_toArray, List.set_cons_zero, List.set_cons_succ]
    refine reg_take 4 (v := ?vz5_4) (atS (atS (atS (atS at0)))) (by kernel_rfl) (by kernel_rfl) (by kernel_rfl) (by rfl) ?hyz5_4 hHeld ?restz5_4
    case hyz5_4 => (intro w' hSw; go_simp; try with_reducible rfl)
    try simp only [Act.put, List.setIfInBounds_toArray, List.set_cons_zero, List.set_cons_succ]
    refine reg_take 5 (v := ?vz6_5) (atS5 at0) (by kernel_rfl) (by kernel_rfl) (by kernel_rfl) (by rfl) ?hyz6_5 hHeld ?restz6_5
    case hyz6_5 => (intro w' hSw; go_simp; try with_reducible rfl)
    try simp only [Act.put, List.setIfInBounds_toArray, List.set_cons_zero, List.set_cons_succ]
    refine reg_take 6 (v := ?vz7_6) (atS5 (atS at0)) (by kernel_rfl) (by kernel_rfl) (by kernel_rfl) (by rfl) ?hyz7_6 hHeld ?restz7_6
    case hyz7_6 => (intro w' hSw; go_simp; try with_reducible rfl)
    try simp only [Act.put, List.setIfInBounds_toArray, List.set_cons_zero, List.set_cons_succ]
    refine reg_take 7 (v := ?vz8_7) (atS5 (atS (atS at0))) (by kernel_rfl) (by kernel_rfl) (by kernel_rfl) (by rfl) ?hyz8_7 hHeld ?restz8_7
    case hyz8_7 => (intro w' hSw; go_simp; try with_reducible rfl)
    try simp only [Act.put, List.setIfInBounds_toArray, List.set_cons_zero, List.set_cons_succ]
    refine wpAnyH_ready (rs := [8, 9, 10]) (by kernel_rfl) (by simp) ?_
    refine AllReadyH.cons (atS5 (atS (atS (atS at0)))) (fun K hK => ?_) (AllReadyH.cons (atS5 (atS (atS (atS (atS at0))))) (fun K hK => ?_) (AllReadyH.cons (atS5 (atS5 at0)) (fun K hK => ?_) AllReadyH.nil))
    · skip
      go_simp
      skip
      refine hK.out _ _ (by first | exact Ba (Ba (B1 _ _) _) _ | exact Ba (B1 _ _) _ | exact B1 _ _) (fun hHeld => ?_)
      clear hK K
      try simp only [Act.put, List.setIfInBounds_toArray, List.set_cons_zero, List.set_cons_succ]
      refine wpAnyH_ready (rs := [9, 10]) (by kernel_rfl) (by simp) ?_
      refine AllReadyH.cons (atS5 (atS (atS (atS (atS at0))))) (fun K hK => ?_) (AllReadyH.cons (atS5 (atS5 at0)) (fun K hK => ?_) AllReadyH.nil)
      · skip
        go_simp
        skip
        refine hK.out _ _ (by first | exact Ba (Ba (B1 _ _) _) _ | exact Ba (B1 _ _) _ | exact B1 _ _) (fun hHeld => ?_)
        clear hK K
        try simp only [Act.put, List.setIfInBounds_toArray, List.set_cons_zero, List.set_cons_succ]
        refine wpAnyH_ready (rs := [10]) (by kernel_rfl) (by simp) ?_
        refine AllReadyH.cons (atS5 (atS5 at0)) (fun K hK => ?_) AllReadyH.nil
        go_simp
        skip
        refine hK.out _ _ (by first | exact Ba (Ba (B1 _ _) _) _ | exact Ba (B1 _ _) _ | exact B1 _ _) (fun hHeld => ?_)
        clear hK K
        try simp only [Act.put, List.setIfInBounds_toArray, List.set_cons_zero, List.set_cons_succ]
        refine wpAnyH_ready (rs := [11]) (by kernel_rfl) (by simp) ?_
        refine AllReadyH.cons (atS5 (atS5 (atS at0))) (fun K hK => ?_) AllReadyH.nil
        go_simp
        skip
        refine hK.out _ _ (Ba (Ba (B1 _ _) _) _) (fun hHeld => ?_)
        clear hK K
        try simp only [Act.put]
        refine wpAnyH_ready (rs := [12]) (by kernel_rfl) (by simp) ?_
        refine AllReadyH.cons (atS5 (atS5 (atS (atS at0)))) (fun K hK => ?_) AllReadyH.nil
        go_simp
        skip
        refine hK.out _ _ (Ba (Ba (B1 _ _) _) _) (fun hHeld => ?_)
        clear hK K
        try simp only [Act.put]
        refine wpAnyH_ready (rs := [13]) (by kernel_rfl) (by simp) ?_
        refine AllReadyH.cons (atS5 (atS5 (atS (atS (atS at0))))) (fun K hK => ?_) AllReadyH.nil
        go_simp
        skip
        refine hK.out _ _ (Ba (Ba (B1 _ _) _) _) (fun hHeld => ?_)
        clear hK K
        try simp only [Act.put]
        refine wpAnyH_done (by kernel_rfl) ?_ _
        refine NoPanic.normal ?_
        clear aq0 aq1
        go_wp2_with fail
        go_meet
        case rel => exact ⟨_, _, _, rfl, rfl, rfl, by first | exact ((fb_new _ _ _ _).alloc _).alloc _ | exact (fb_new2 _ _ _ _ _).alloc _ | exact fb_new3 _ _ _ _ _ _, by first | exact ((fb_new _ _ _ _).alloc _).alloc _ | exact (fb_new2 _ _ _ _ _).alloc _ | exact fb_new3 _ _ _ _ _ _, by first | exact ((fb_new _ _ _ _).alloc _).alloc _ | exact (fb_new2 _ _ _ _ _).alloc _ | exact fb_new3 _ _ _ _ _ _, Bt hx0r hHeld⟩
      · skip
        go_simp
        skip
        refine hK.out _ _ (by first | exact Ba (Ba (B1 _ _) _) _ | exact Ba (B1 _ _) _ | exact B1 _ _) (fun hHeld => ?_)
        clear hK K
        try simp only [Act.put, List.setIfInBounds_toArray, List.set_cons_zero, List.set_cons_succ]
        refine wpAnyH_ready (rs := [9]) (by kernel_rfl) (by simp) ?_
        refine AllReadyH.cons (atS5 (atS (atS (atS (atS at0))))) (fun K hK => ?_) AllReadyH.nil
        go_simp
        skip
        refine hK.out _ _ (by first | exact Ba (Ba (B1 _ _) _) _ | exact Ba (B1 _ _) _ | exact B1 _ _) (fun hHeld => ?_)
        clear hK K
        try simp only [Act.put, List.setIfInBounds_toArray, List.set_cons_zero, List.set_cons_succ]
        refine wpAnyH_ready (rs := [11]) (by kernel_rfl) (by simp) ?_
        refine AllReadyH.cons (atS5 (atS5 (atS at0))) (fun K hK => ?_) AllReadyH.nil
        go_simp
        skip
        refine hK.out _ _ (Ba (Ba (B1 _ _) _) _) (fun hHeld => ?_)
        clear hK K
        try simp only [Act.put]
        refine wpAnyH_ready (rs := [12]) (by kernel_rfl) (by simp) ?_
        refine AllReadyH.cons (atS5 (atS5 (atS (atS at0)))) (fun K hK => ?_) AllReadyH.nil
        go_simp
        skip
        refine hK.out _ _ (Ba (Ba (B1 _ _) _) _) (fun hHeld => ?_)
        clear hK K
        try simp only [Act.put]
        refine wpAnyH_ready (rs := [13]) (by kernel_rfl) (by simp) ?_
        refine AllReadyH.cons (atS5 (atS5 (atS (atS (atS at0))))) (fun K hK => ?_) AllReadyH.nil
        go_simp
        skip
        refine hK.out _ _ (Ba (Ba (B1 _ _) _) _) (fun hHeld => ?_)
        clear hK K
        try simp only [Act.put]
        refine wpAnyH_done (by kernel_rfl) ?_ _
        refine NoPanic.normal ?_
        clear aq0 aq1
        go_wp2_with fail
        go_meet
        case rel => exact ⟨_, _, _, rfl, rfl, rfl, by first | exact ((fb_new _ _ _ _).alloc _).alloc _ | exact (fb_new2 _ _ _ _ _).alloc _ | exact fb_new3 _ _ _ _ _ _, by first | exact ((fb_new _ _ _ _).alloc _).alloc _ | exact (fb_new2 _ _ _ _ _).alloc _ | exact fb_new3 _ _ _ _ _ _, by first | exact ((fb_new _ _ _ _).alloc _).alloc _ | exact (fb_new2 _ _ _ _ _).alloc _ | exact fb_new3 _ _ _ _ _ _, Bt hx0r hHeld⟩
    · skip
      go_simp
      skip
      refine hK.out _ _ (by first | exact Ba (Ba (B1 _ _) _) _ | exact Ba (B1 _ _) _ | exact B1 _ _) (fun hHeld => ?_)
      clear hK K
      try simp only [Act.put, List.setIfInBounds_toArray, List.set_cons_zero, List.set_cons_succ]
      refine wpAnyH_ready (rs := [8, 10]) (by kernel_rfl) (by simp) ?_
      refine AllReadyH.cons (atS5 (atS (atS (atS at0)))) (fun K hK => ?_) (AllReadyH.cons (atS5 (atS5 at0)) (fun K hK => ?_) AllReadyH.nil)
      · skip
        go_simp
        skip
        refine hK.out _ _ (by first | exact Ba (Ba (B1 _ _) _) _ | exact Ba (B1 _ _) _ | exact B1 _ _) (fun hHeld => ?_)
        clear hK K
        try simp only [Act.put, List.setIfInBounds_toArray, List.set_cons_zero, List.set_cons_succ]
        refine wpAnyH_ready (rs := [10]) (by kernel_rfl) (by simp) ?_
        refine AllReadyH.cons (atS5 (atS5 at0)) (fun K hK => ?_) AllReadyH.nil
        go_simp
        skip
        refine hK.out _ _ (by first | exact Ba (Ba (B1 _ _) _) _ | exact Ba (B1 _ _) _ | exact B1 _ _) (fun hHeld => ?_)
        clear hK K
        try simp only [Act.put, List.setIfInBounds_toArray, List.set_cons_zero, List.set_cons_succ]
        refine wpAnyH_ready (rs := [11]) (by kernel_rfl) (by simp) ?_
        refine AllReadyH.cons (atS5 (atS5 (atS at0))) (fun K hK => ?_) AllReadyH.nil
        go_simp
        skip
        refine hK.out _ _ (Ba (Ba (B1 _ _) _) _) (fun hHeld => ?_)
        clear hK K
        try simp only [Act.put]
        refine wpAnyH_ready (rs := [12]) (by kernel_rfl) (by simp) ?_
        refine AllReadyH.cons (atS5 (atS5 (atS (atS at0)))) (fun K hK => ?_) AllReadyH.nil
        go_simp
        skip
        refine hK.out _ _ (Ba (Ba (B1 _ _) _) _) (fun hHeld => ?_)
        clear hK K
        try simp only [Act.put]
        refine wpAnyH_ready (rs := [13]) (by kernel_rfl) (by simp) ?_
        refine AllReadyH.cons (atS5 (atS5 (atS (atS (atS at0))))) (fun K hK => ?_) AllReadyH.nil
        go_simp
        skip
        refine hK.out _ _ (Ba (Ba (B1 _ _) _) _) (fun hHeld => ?_)
        clear hK K
        try simp only [Act.put]
        refine wpAnyH_done (by kernel_rfl) ?_ _
        refine NoPanic.normal ?_
        clear aq0 aq1
        go_wp2_with fail
        go_meet
        case rel => exact ⟨_, _, _, rfl, rfl, rfl, by first | exact ((fb_new _ _ _ _).alloc _).alloc _ | exact (fb_new2 _ _ _ _ _).alloc _ | exact fb_new3 _ _ _ _ _ _, by first | exact ((fb_new _ _ _ _).alloc _).alloc _ | exact (fb_new2 _ _ _ _ _).alloc _ | exact fb_new3 _ _ _ _ _ _, by first | exact ((fb_new _ _ _ _).alloc _).alloc _ | exact (fb_new2 _ _ _ _ _).alloc _ | exact fb_new3 _ _ _ _ _ _, Bt hx0r hHeld⟩
      · skip
        go_simp
        skip
        refine hK.out _ _ (by first | exact Ba (Ba (B1 _ _) _) _ | exact Ba (B1 _ _) _ | exact B1 _ _) (fun hHeld => ?_)
        clear hK K
        try simp only [Act.put, List.setIfInBounds_toArray, List.set_cons_zero, List.set_cons_succ]
        refine wpAnyH_ready (rs := [8]) (by kernel_rfl) (by simp) ?_
        refine AllReadyH.cons (atS5 (atS (atS (atS at0)))) (fun K hK => ?_) AllReadyH.nil
        go_simp
        skip
        refine hK.out _ _ (by first | exact Ba (Ba (B1 _ _) _) _ | exact Ba (B1 _ _) _ | exact B1 _ _) (fun hHeld => ?_)
        clear hK K
        try simp only [Act.put, List.setIfInBounds_toArray, List.set_cons_zero, List.set_cons_succ]
        refine wpAnyH_ready (rs := [11]) (by kernel_rfl) (by simp) ?_
        refine AllReadyH.cons (atS5 (atS5 (atS at0))) (fun K hK => ?_) AllReadyH.nil
        go_simp
        skip
        refine hK.out _ _ (Ba (Ba (B1 _ _) _) _) (fun hHeld => ?_)
        clear hK K
        try simp only [Act.put]
        refine wpAnyH_ready (rs := [12]) (by kernel_rfl) (by simp) ?_
        refine AllReadyH.cons (atS5 (atS5 (atS (atS at0)))) (fun K hK => ?_) AllReadyH.nil
        go_simp
        skip
        refine hK.out _ _ (Ba (Ba (B1 _ _) _) _) (fun hHeld => ?_)
        clear hK K
        try simp only [Act.put]
        refine wpAnyH_ready (rs := [13]) (by kernel_rfl) (by simp) ?_
        refine AllReadyH.cons (atS5 (atS5 (atS (atS (atS at0))))) (fun K hK => ?_) AllReadyH.nil
        go_simp
        skip
        refine hK.out _ _ (Ba (Ba (B1 _ _) _) _) (fun hHeld => ?_)
        clear hK K
        try simp only [Act.put]
        refine wpAnyH_done (by kernel_rfl) ?_ _
        refine NoPanic.normal ?_
        clear aq0 aq1
        go_wp2_with fail
        go_meet
        case rel => exact ⟨_, _, _, rfl, rfl, rfl, by first | exact ((fb_new _ _ _ _).alloc _).alloc _ | exact (fb_new2 _ _ _ _ _).alloc _ | exact fb_new3 _ _ _ _ _ _, by first | exact ((fb_new _ _ _ _).alloc _).alloc _ | exact (fb_new2 _ _ _ _ _).alloc _ | exact fb_new3 _ _ _ _ _ _, by first | exact ((fb_new _ _ _ _).alloc _).alloc _ | exact (fb_new2 _ _ _ _ _).alloc _ | exact fb_new3 _ _ _ _ _ _, Bt hx0r hHeld⟩
    · skip
      go_simp
      skip
      refine hK.out _ _ (by first | exact Ba (Ba (B1 _ _) _) _ | exact Ba (B1 _ _) _ | exact B1 _ _) (fun hHeld => ?_)
      clear hK K
      try simp only [Act.put, List.setIfInBounds_toArray, List.set_cons_zero, List.set_cons_succ]
      refine wpAnyH_ready (rs := [8, 9]) (by kernel_rfl) (by simp) ?_
      refine AllReadyH.cons (atS5 (atS (atS (atS at0)))) (fun K hK => ?_) (AllReadyH.cons (atS5 (atS (atS (atS (atS at0))))) (fun K hK => ?_) AllReadyH.nil)
      · skip
        go_simp
        skip
        refine hK.out _ _ (by first | exact Ba (Ba (B1 _ _) _) _ | exact Ba (B1 _ _) _ | exact B1 _ _) (fun hHeld => ?_)
        clear hK K
        try simp only [Act.put, List.setIfInBounds_toArray, List.set_cons_zero, List.set_cons_succ]
        refine wpAnyH_ready (rs := [9]) (by kernel_rfl) (by simp) ?_
        refine AllReadyH.cons (atS5 (atS (atS (atS (atS at0))))) (fun K hK => ?_) AllReadyH.nil
        go_simp
        skip
        refine hK.out _ _ (by first | exact Ba (Ba (B1 _ _) _) _ | exact Ba (B1 _ _) _ | exact B1 _ _) (fun hHeld => ?_)
        clear hK K
        try simp only [Act.put, List.setIfInBounds_toArray, List.set_cons_zero, List.set_cons_succ]
        refine wpAnyH_ready (rs := [11]) (by kernel_rfl) (by simp) ?_
        refine AllReadyH.cons (atS5 (atS5 (atS at0))) (fun K hK => ?_) AllReadyH.nil
        go_simp
        skip
        refine hK.out _ _ (Ba (Ba (B1 _ _) _) _) (fun hHeld => ?_)
        clear hK K
        try simp only [Act.put]
        refine wpAnyH_ready (rs := [12]) (by kernel_rfl) (by simp) ?_
        refine AllReadyH.cons (atS5 (atS5 (atS (atS at0)))) (fun K hK => ?_) AllReadyH.nil
        go_simp
        skip
        refine hK.out _ _ (Ba (Ba (B1 _ _) _) _) (fun hHeld => ?_)
        clear hK K
        try simp only [Act.put]
        refine wpAnyH_ready (rs := [13]) (by kernel_rfl) (by simp) ?_
        refine AllReadyH.cons (atS5 (atS5 (atS (atS (atS at0))))) (fun K hK => ?_) AllReadyH.nil
        go_simp
        skip
        refine hK.out _ _ (Ba (Ba (B1 _ _) _) _) (fun hHeld => ?_)
        clear hK K
        try simp only [Act.put]
        refine wpAnyH_done (by kernel_rfl) ?_ _
        refine NoPanic.normal ?_
        clear aq0 aq1
        go_wp2_with fail
        go_meet
        case rel => exact ⟨_, _, _, rfl, rfl, rfl, by first | exact ((fb_new _ _ _ _).alloc _).alloc _ | exact (fb_new2 _ _ _ _ _).alloc _ | exact fb_new3 _ _ _ _ _ _, by first | exact ((fb_new _ _ _ _).alloc _).alloc _ | exact (fb_new2 _ _ _ _ _).alloc _ | exact fb_new3 _ _ _ _ _ _, by first | exact ((fb_new _ _ _ _).alloc _).alloc _ | exact (fb_new2 _ _ _ _ _).alloc _ | exact fb_new3 _ _ _ _ _ _, Bt hx0r hHeld⟩
      · skip
        go_simp
        skip
        refine hK.out _ _ (by first | exact Ba (Ba (B1 _ _) _) _ | exact Ba (B1 _ _) _ | exact B1 _ _) (fun hHeld => ?_)
        clear hK K
        try simp only [Act.put, List.setIfInBounds_toArray, List.set_cons_zero, List.set_cons_succ]
        refine wpAnyH_ready (rs := [8]) (by kernel_rfl) (by simp) ?_
        refine AllReadyH.cons (atS5 (atS (atS (atS at0)))) (fun K hK => ?_) AllReadyH.nil
        go_simp
        skip
        refine hK.out _ _ (by first | exact Ba (Ba (B1 _ _) _) _ | exact Ba (B1 _ _) _ | exact B1 _ _) (fun hHeld => ?_)
        clear hK K
        try simp only [Act.put, List.setIfInBounds_toArray, List.set_cons_zero, List.set_cons_succ]
        refine wpAnyH_ready (rs := [11]) (by kernel_rfl) (by simp) ?_
        refine AllReadyH.cons (atS5 (atS5 (atS at0))) (fun K hK => ?_) AllReadyH.nil
        go_simp
        skip
        refine hK.out _ _ (Ba (Ba (B1 _ _) _) _) (fun hHeld => ?_)
        clear hK K
        try simp only [Act.put]
        refine wpAnyH_ready (rs := [12]) (by kernel_rfl) (by simp) ?_
        refine AllReadyH.cons (atS5 (atS5 (atS (atS at0)))) (fun K hK => ?_) AllReadyH.nil
        go_simp
        skip
        refine hK.out _ _ (Ba (Ba (B1 _ _) _) _) (fun hHeld => ?_)
        clear hK K
        try simp only [Act.put]
        refine wpAnyH_ready (rs := [13]) (by kernel_rfl) (by simp) ?_
        refine AllReadyH.cons (atS5 (atS5 (atS (atS (atS at0))))) (fun K hK => ?_) AllReadyH.nil
        go_simp
        skip
        refine hK.out _ _ (Ba (Ba (B1 _ _) _) _) (fun hHeld => ?_)
        clear hK K
        try simp only [Act.put]
        refine wpAnyH_done (by kernel_rfl) ?_ _
        refine NoPanic.normal ?_
        clear aq0 aq1
        go_wp2_with fail
        go_meet
        case rel => exact ⟨_, _, _, rfl, rfl, rfl, by first | exact ((fb_new _ _ _ _).alloc _).alloc _ | exact (fb_new2 _ _ _ _ _).alloc _ | exact fb_new3 _ _ _ _ _ _, by first | exact ((fb_new _ _ _ _).alloc _).alloc _ | exact (fb_new2 _ _ _ _ _).alloc _ | exact fb_new3 _ _ _ _ _ _, by first | exact ((fb_new _ _ _ _).alloc _).alloc _ | exact (fb_new2 _ _ _ _ _).alloc _ | exact fb_new3 _ _ _ _ _ _, Bt hx0r hHeld⟩
  case rest =>
    obtain ⟨pa, pb, pc, rfl, rfl, rfl, F0, G0, H0, hb0⟩ := hcut
    have V1 := V0.on hb0
    have A1 := A0.on hb0
    have hbw1 := Bt hbw0 hb0
    obtain ⟨Ax, Ay⟩ := A1.cells
    cases c0 : decide (a < 1) with
    | true =>
      go_wp2_with fail
      go_at_call 11
      refine (alive_any _).mono ?_
      rintro e wz0 ⟨rfl, hz0⟩
      have V2 := V1.on hz0
      have A2 := A1.on hz0
      have F2 := F0.on hz0
      have G2 := G0.on hz0
      have H2 := H0.on hz0
      have hbw2 := Bt hbw1 hz0
      go_wp2_with fail
      go_ret
      exact ⟨rfl, hbw2⟩
    | false =>
      cases c1 : decide (9 < a) with
      | true =>
        go_wp2_with fail
        go_at_call 11
        refine (alive_any _).mono ?_
        rintro e wz1 ⟨rfl, hz1⟩
        have V2 := V1.on hz1
        have A2 := A1.on hz1
        have F2 := F0.on hz1
        have G2 := G0.on hz1
        have H2 := H0.on hz1
        have hbw2 := Bt hbw1 hz1
        go_wp2_with fail
        go_ret
        exact ⟨rfl, hbw2⟩
      | false =>
        cases c2 : decide (9 < b) with
        | true =>
          go_wp2_with fail
          go_at_call 11
          refine (alive_any _).mono ?_
          rintro e wz2 ⟨rfl, hz2⟩
          have V2 := V1.on hz2
          have A2 := A1.on hz2
          have F2 := F0.on hz2
          have G2 := G0.on hz2
          have H2 := H0.on hz2
          have hbw2 := Bt hbw1 hz2
          go_wp2_with fail
          go_ret
          exact ⟨rfl, hbw2⟩
        | false =>
          cases c3 : decide (9 < c) with
          | true =>
            go_wp2_with fail
            go_at_call 11
            refine (alive_any _).mono ?_
            rintro e wz3 ⟨rfl, hz3⟩
            have V2 := V1.on hz3
            have A2 := A1.on hz3
            have F2 := F0.on hz3
            have G2 := G0.on hz3
            have H2 := H0.on hz3
            have hbw2 := Bt hbw1 hz3
            go_wp2_with fail
            go_ret
            exact ⟨rfl, hbw2⟩
          | false =>
            obtain ⟨Fx, Fy, Fz⟩ := F0.cells
            have Fl := F0.lt
            obtain ⟨Gx, Gy, Gz⟩ := G0.cells
            have Gl := G0.lt
            go_wp2_with fail
            go_at_call 24
            refine (kcasts_any _ _ _ _ _ _ _).mono ?_
            rintro e w2 ⟨rfl, hb2⟩
            have V2 := V1.on hb2
            have A2 := A1.on hb2
            have F2 := F0.on hb2
            have G2 := G0.on hb2
            have H2 := H0.on hb2
            have hbw2 := Bt hbw1 hb2
            obtain ⟨Ax, Ay⟩ := A2.cells
            cases k1 : castsF a 0 b 0 with
            | false =>
              clear Gx Gy Gz Gl
              clear Fx Fy Fz Fl
              go_wp2_with fail
              go_at_call 11
              refine (alive_any _).mono ?_
              rintro e wzk1 ⟨rfl, hzk1⟩
              have V3 := V2.on hzk1
              have A3 := A2.on hzk1
              have F3 := F2.on hzk1
              have G3 := G2.on hzk1
              have H3 := H2.on hzk1
              have hbw3 := Bt hbw2 hzk1
              go_wp2_with fail
              go_ret
              exact ⟨rfl, hbw3⟩
            | true =>
              clear Gx Gy Gz Gl
              clear Fx Fy Fz Fl
              obtain ⟨Gx, Gy, Gz⟩ := G2.cells
              have Gl := G2.lt
              obtain ⟨Hx, Hy, Hz⟩ := H2.cells
              have Hl := H2.lt
              go_wp2_with fail
              go_at_call 24
              refine (kcasts_any _ _ _ _ _ _ _).mono ?_
              rintro e w3 ⟨rfl, hb3⟩
              have V3 := V2.on hb3
              have A3 := A2.on hb3
              have F3 := F2.on hb3
              have G3 := G2.on hb3
              have H3 := H2.on hb3
              have hbw3 := Bt hbw2 hb3
              cases k2 : castsF b 0 c 0 with
              | false =>
                clear Gx Gy Gz Gl
                clear Hx Hy Hz Hl
                go_wp2_with fail
                go_at_call 11
                refine (alive_any _).mono ?_
                rintro e wzk2 ⟨rfl, hzk2⟩
                have V4 := V3.on hzk2
                have A4 := A3.on hzk2
                have F4 := F3.on hzk2
                have G4 := G3.on hzk2
                have H4 := H3.on hzk2
                have hbw4 := Bt hbw3 hzk2
                go_wp2_with fail
                go_ret
                exact ⟨rfl, hbw4⟩
              | true =>
                clear Gx Gy Gz Gl
                clear Hx Hy Hz Hl
                obtain ⟨Fx, Fy, Fz⟩ := F3.cells
                have Fl := F3.lt
                obtain ⟨Hx, Hy, Hz⟩ := H3.cells
                have Hl := H3.lt
                go_wp2_with fail
                go_at_call 24
                refine (kcasts_any _ _ _ _ _ _ _).mono ?_
                rintro e w4 ⟨rfl, hb4⟩
                have V4 := V3.on hb4
                have A4 := A3.on hb4
                have F4 := F3.on hb4
                have G4 := G3.on hb4
                have H4 := H3.on hb4
                have hbw4 := Bt hbw3 hb4
                cases k3 : castsF a 0 c 0 with
                | false =>
                  clear Fx Fy Fz Fl
                  clear Hx Hy Hz Hl
                  go_wp2_with fail
                  go_at_call 11
                  refine (alive_any _).mono ?_
                  rintro e wzk3 ⟨rfl, hzk3⟩
                  have V5 := V4.on hzk3
                  have A5 := A4.on hzk3
                  have F5 := F4.on hzk3
                  have G5 := G4.on hzk3
                  have H5 := H4.on hzk3
                  have hbw5 := Bt hbw4 hzk3
                  go_wp2_with fail
                  go_ret
                  exact ⟨rfl, hbw5⟩
                | true =>
                  clear Fx Fy Fz Fl
                  clear Hx Hy Hz Hl
                  obtain ⟨Vx, Vy, Vz⟩ := V4.cells
                  have Vl := V4.lt
                  obtain ⟨Fx, Fy, Fz⟩ := F4.cells
                  have Fl := F4.lt
                  obtain ⟨Gx, Gy, Gz⟩ := G4.cells
                  have Gl := G4.lt
                  go_wp2_with fail
                  go_at_call 22
                  refine (kcast_any _ _ _ _ _ _ _ _ _ _ hn).mono ?_
                  rintro e w5 ⟨rfl, hb5⟩
                  have V5 := V4.on hb5
                  have A5 := A4.on hb5
                  have F5 := F4.on hb5
                  have G5 := G4.on hb5
                  have H5 := H4.on hb5
                  have hbw5 := Bt hbw4 hb5
                  clear Gx Gy Gz Gl
                  clear Fx Fy Fz Fl
                  clear Vx Vy Vz Vl
                  refine HR.out _ k1 k2 k3 (by simp at c1; omega) (by simp at c2; omega) (by simp at c3; omega) (fun H1 => ?_) (fun H1 H2 H3 => ?_)
                  · skip
                    rw [H1]
                    clear H1
                    have V6 := V5.alloc (.cells #[.int .i64 0, .int .u64 0, .string ⟨#[]⟩] 24)
                    have A6 := A5.on (B1 _ (.cells #[.int .i64 0, .int .u64 0, .string ⟨#[]⟩] 24))
                    have F6 := F5.alloc (.cells #[.int .i64 0, .int .u64 0, .string ⟨#[]⟩] 24)
                    have G6 := G5.alloc (.cells #[.int .i64 0, .int .u64 0, .string ⟨#[]⟩] 24)
                    have H6 := H5.alloc (.cells #[.int .i64 0, .int .u64 0, .string ⟨#[]⟩] 24)
                    have hbw6 := Ba hbw5 (.cells #[.int .i64 0, .int .u64 0, .string ⟨#[]⟩] 24)
                    go_wp2_with fail
                    go_at_call 11
                    refine (alive_any _).mono ?_
                    rintro e w6 ⟨rfl, hb6⟩
                    have V7 := V6.on hb6
                    have A7 := A6.on hb6
                    have F7 := F6.on hb6
                    have G7 := G6.on hb6
                    have H7 := H6.on hb6
                    have hbw7 := Bt hbw6 hb6
                    go_wp2_with fail
                    go_ret
                    exact ⟨rfl, hbw7⟩
                  · skip
                    rw [H1]
                    have HH2 := hid H2
                    have HH3 := hid H3
                    clear H1 H2 H3
                    obtain ⟨Vx, Vy, Vz⟩ := V5.cells
                    have Vl := V5.lt
                    obtain ⟨Fx, Fy, Fz⟩ := F5.cells
                    have Fl := F5.lt
                    obtain ⟨Gx, Gy, Gz⟩ := G5.cells
                    have Gl := G5.lt
                    obtain ⟨Hx, Hy, Hz⟩ := H5.cells
                    have Hl := H5.lt
                    have V6 := V5.alloc (.cells #[.int .i64 b, .int .u64 n, .string ⟨#[]⟩] 24)
                    have A6 := A5.on (B1 _ (.cells #[.int .i64 b, .int .u64 n, .string ⟨#[]⟩] 24))
                    have F6 := F5.alloc (.cells #[.int .i64 b, .int .u64 n, .string ⟨#[]⟩] 24)
                    have G6 := G5.alloc (.cells #[.int .i64 b, .int .u64 n, .string ⟨#[]⟩] 24)
                    have H6 := H5.alloc (.cells #[.int .i64 b, .int .u64 n, .string ⟨#[]⟩] 24)
                    have hbw6 := Ba hbw5 (.cells #[.int .i64 b, .int .u64 n, .string ⟨#[]⟩] 24)
                    have X0 := vb_new w5 b n ⟨#[]⟩
                    go_wp2_with fail
                    go_at_call 22
                    refine (kcast_any _ _ _ _ _ _ _ _ _ _ hn).mono ?_
                    rintro e w6 ⟨rfl, hb6⟩
                    rw [HH2.out]
                    have V7 := V6.on hb6
                    have A7 := A6.on hb6
                    have F7 := F6.on hb6
                    have G7 := G6.on hb6
                    have H7 := H6.on hb6
                    have X7 := X0.on hb6
                    have hbw7 := Bt hbw6 hb6
                    clear Gx Gy Gz Gl
                    clear Fx Fy Fz Fl
                    clear Vx Vy Vz Vl
                    clear Hx Hy Hz Hl
                    obtain ⟨Vx, Vy, Vz⟩ := V7.cells
                    have Vl := V7.lt
                    obtain ⟨Fx, Fy, Fz⟩ := F7.cells
                    have Fl := F7.lt
                    obtain ⟨Gx, Gy, Gz⟩ := G7.cells
                    have Gl := G7.lt
                    obtain ⟨Hx, Hy, Hz⟩ := H7.cells
                    have Hl := H7.lt
                    have V8 := V7.alloc (.cells #[.int .i64 c, .int .u64 n, .string ⟨#[]⟩] 24)
                    have A8 := A7.on (B1 _ (.cells #[.int .i64 c, .int .u64 n, .string ⟨#[]⟩] 24))
                    have F8 := F7.alloc (.cells #[.int .i64 c, .int .u64 n, .string ⟨#[]⟩] 24)
                    have G8 := G7.alloc (.cells #[.int .i64 c, .int .u64 n, .string ⟨#[]⟩] 24)
                    have H8 := H7.alloc (.cells #[.int .i64 c, .int .u64 n, .string ⟨#[]⟩] 24)
                    have X8 := X7.alloc (.cells #[.int .i64 c, .int .u64 n, .string ⟨#[]⟩] 24)
                    have hbw8 := Ba hbw7 (.cells #[.int .i64 c, .int .u64 n, .string ⟨#[]⟩] 24)
                    have Y0 := vb_new w6 c n ⟨#[]⟩
                    go_wp2_with fail
                    go_at_call 22
                    refine (kcast_any _ _ _ _ _ _ _ _ _ _ hn).mono ?_
                    rintro e w7 ⟨rfl, hb7⟩
                    rw [HH3.out]
                    have V9 := V8.on hb7
                    have A9 := A8.on hb7
                    have F9 := F8.on hb7
                    have G9 := G8.on hb7
                    have H9 := H8.on hb7
                    have X9 := X8.on hb7
                    have Y9 := Y0.on hb7
                    have hbw9 := Bt hbw8 hb7
                    clear Gx Gy Gz Gl
                    clear Fx Fy Fz Fl
                    clear Vx Vy Vz Vl
                    clear Hx Hy Hz Hl
                    have V10 := V9.alloc (.cells #[.int .i64 c, .int .u64 n, .string ⟨#[]⟩] 24)
                    have A10 := A9.on (B1 _ (.cells #[.int .i64 c, .int .u64 n, .string ⟨#[]⟩] 24))
                    have F10 := F9.alloc (.cells #[.int .i64 c, .int .u64 n, .string ⟨#[]⟩] 24)
                    have G10 := G9.alloc (.cells #[.int .i64 c, .int .u64 n, .string ⟨#[]⟩] 24)
                    have H10 := H9.alloc (.cells #[.int .i64 c, .int .u64 n, .string ⟨#[]⟩] 24)
                    have X10 := X9.alloc (.cells #[.int .i64 c, .int .u64 n, .string ⟨#[]⟩] 24)
                    have Y10 := Y9.alloc (.cells #[.int .i64 c, .int .u64 n, .string ⟨#[]⟩] 24)
                    have hbw10 := Ba hbw9 (.cells #[.int .i64 c, .int .u64 n, .string ⟨#[]⟩] 24)
                    have Z0 := vb_new w7 c n ⟨#[]⟩
                    go_wp2_with fail
                    go_at_call 11
                    refine (alive_any _).mono ?_
                    rintro e w8 ⟨rfl, hb8⟩
                    have V11 := V10.on hb8
                    have A11 := A10.on hb8
                    have F11 := F10.on hb8
                    have G11 := G10.on hb8
                    have H11 := H10.on hb8
                    have X11 := X10.on hb8
                    have Y11 := Y10.on hb8
                    have Z11 := Z0.on hb8
                    have hbw11 := Bt hbw10 hb8
                    obtain ⟨Vx, Vy, Vz⟩ := V11.cells
                    have Vl := V11.lt
                    obtain ⟨Yx, Yy, Yz⟩ := Y11.cells
                    have Yl := Y11.lt
                    obtain ⟨Zx, Zy, Zz⟩ := Z11.cells
                    have Zl := Z11.lt
                    go_wp2_with fail
                    go_ret
                    exact ⟨rfl, hbw11⟩
theorem walk_KindSteps (vk n : Int) (t : ByteArray) (b c a : Int) (w : World) (hvk : (Lit.int .i64 vk).wf = true) (hnw : (Lit.int .u64 n).wf = true) (htm : t.size ≤ maxLen) (hbw : (Lit.int .i64 b).wf = true) (hcw : (Lit.int .i64 c).wf = true) (haw : (Lit.int .i64 a).wf = true) :
    Calls Try.prog 7 #[.agg #[.int .i64 vk, .int .u64 n, .string t], .agg #[.int .i64 b, .int .i64 c], .int .i64 a] w fun e w' => e = .returned (.bool true) ∧ Below w.heap.size w w' := by
  have hn := U64.of_wf hnw
  refine st_all vk n t b c a w hn (fun R k1 k2 k3 ha hb hc h50 hok => ?_)
  have castT0 : ∀ (t : ByteArray) (x : Int), x ≤ 9 → castT t x 0 = ⟨#[]⟩ := fun t x hx => by unfold castT; rw [if_neg (by omega)]
  have castN0 : ∀ (x y : Int), x ≤ 9 → y ≤ 9 → castN n x y = n := fun x y hx hy => by unfold castN; rw [if_neg (by omega), if_neg (by omega)]
  cases hr : rightF vk n t.size a 0 with
  | false => exact h50 (castR_50 hr)
  | true =>
    have h1 := castR_ok hr k1
    have h3 := castR_ok hr k3
    have hr2 := (cast_right hn hr k1).1
    rw [castN0 a b ha hb, castT0 t b hb] at h1 hr2
    rw [castN0 a c ha hc, castT0 t c hc] at h3
    have h2 := castR_ok (t := ⟨#[]⟩) hr2 k2
    rw [castN0 b c hb hc, castT0 _ c hc] at h2
    exact hok h1 h2 h3
end Go.Proofs.Ytacakogncjhlfaa
