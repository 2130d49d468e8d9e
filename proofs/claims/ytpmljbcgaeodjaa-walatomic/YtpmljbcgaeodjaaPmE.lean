/-
  The contracts of Loose and Copy.
-/
import Derived.Test.YtpmljbcgaeodjaaPmD
import Derived.Test.YtpmljbcgaeodjaaLay
namespace Go.Proofs.Ytpmljbcgaeodjaa
open Go.RowKit Go.Maps Go.Sort Go.Shelf
set_option linter.unusedVariables false

/-- slices.Sort's two contracts. -/
theorem sortsA (m : Nat) : AnyZI.SortsIn Try.prog Try.sortedA_ren Fence.wide m :=
  ⟨fun blk off cap ss W hH hblk hsz => callsIn_wide.2 (AnyM.slices_Sort_int Try.sortA blk off cap ss W hH hblk hsz),
   fun p cap W => callsIn_wide.2 (AnyM.slices_Sort_int_none Try.sortA p cap W)⟩

/-- The numbers of the loose words, rising. -/
def looseL (n : Nat) (L : Int → Option (List UInt8)) : List Int := ((List.range n).map Int.ofNat).filter fun k => (L k).isSome
theorem looseL_mem {n : Nat} {L : Int → Option (List UInt8)} (h : ∀ k x, L k = some x → 0 ≤ k ∧ k < n) (k : Int) : k ∈ looseL n L ↔ (L k).isSome = true := by
  unfold looseL
  rw [List.mem_filter]
  constructor
  · exact fun h => h.2
  · intro hk
    refine ⟨?_, hk⟩
    cases hl : L k with
    | none => rw [hl] at hk; cases hk
    | some x =>
      obtain ⟨h0, h1⟩ := h k x hl
      exact List.mem_map.2 ⟨k.toNat, by simp; omega, by simp; omega⟩
theorem looseL_lt (n : Nat) (L : Int → Option (List UInt8)) : (looseL n L).Pairwise (fun a b => a < b) := by
  unfold looseL
  refine List.Pairwise.filter _ (List.pairwise_map.2 ?_)
  exact List.pairwise_lt_range.imp fun h => by simp; exact h
theorem looseL_sort (n : Nat) (L : Int → Option (List UInt8)) : (looseL n L).mergeSort (fun x y => decide (x ≤ y)) = looseL n L := by
  refine List.mergeSort_of_pairwise ((looseL_lt n L).imp fun h => by simp; omega)

theorem loose_keys {w : World} {b m n : Nat} {L : Int → Option (List UInt8)} {D : DataW Value} (ho : w.ownsMap Try.prog 3 RV b m D) (h1 : ∀ k, I64 k → ∀ z, D.atKey (.int .i64 k) z = vw (lfun L k) z) (hk : ∀ k x, L k = some x → 0 ≤ k ∧ k < n) (hn : n ≤ 8192) :
    (looseL n L).Perm (intKeys D) := by
  obtain ⟨es, hD, hpw, _⟩ := ho.entries kI
  obtain ⟨es', hD', hko⟩ := ho.keysOf
  obtain rfl : es = es' := by rw [hD] at hD'; simpa using hD'
  subst hD
  refine perm_intKeys hpw (fun p hp => by obtain ⟨v, hv⟩ := hko p hp; obtain ⟨x, _, hx, _⟩ := Maps.keyOf_i64 Try.underlying3 hv; exact ⟨x, hx⟩) ((looseL_lt n L).imp fun h => by omega) fun x => ?_
  rw [looseL_mem hk]
  by_cases hx : I64 x
  · rw [has_vw (h1 x hx)]; simp [lfun]
  · constructor
    · intro h
      cases hl : L x with
      | none => rw [hl] at h; cases h
      | some y => exact absurd (i64_iff.2 (by have := hk x y hl; omega)) hx
    · intro h
      obtain ⟨p, hp, hs⟩ := List.any_eq_true.1 h
      obtain ⟨v, hv⟩ := hko p hp
      obtain ⟨z, _, hz, hwf⟩ := Maps.keyOf_i64 Try.underlying3 hv
      rw [hz, same_int] at hs
      simp at hs
      subst hs
      exact absurd hwf hx

set_option maxHeartbeats 1000000 in
theorem loose_any {w : World} {B d g cap lb fb : Nat} {S : List UInt8} {L : Int → Option (List UInt8)} {F : Int → Bool} (h : Dev w B d g cap lb fb S L F) :
    Calls Try.prog 20 #[.pointer (some ⟨d, 0, none⟩)] w fun e w' => ∃ v, e = .returned v ∧ w'.ownsRow w.heap.size 3 1 v (looseL (S.length / 8) L).length ((looseL (S.length / 8) L).map encZ) ∧ Below w.heap.size w w' := by
  have hc1 := h.c1
  obtain ⟨D0, hown, hat, _⟩ := h.mpL
  have hbl := hown.lt
  have hsz := hown.size_le
  have hperm := loose_keys (n := S.length / 8) hown hat (fun k x hl => by have := h.keyL k x hl; have := h.len; omega) (by have := h.len; omega)
  have hseq : SeqGives Fence.wide 2 Try.prog 62 #[.pointer (some ⟨w.heap.size, 0, none⟩)] encZ (fun ss => ss.Perm (intKeys D0)) (Maps.size D0) (w.alloc (.cells #[.map (some lb)] 82)) :=
    AnyZI.keys_gives (ρ := Try.keysA_ren) { Try.keysA with } Fence.wide _ trivial rfl (by omega) w.heap.size lb 8192 D0 _ (by simp) (by simp) (by
      obtain ⟨es, clock, hb, Ft, hs, hD⟩ := hown
      exact ⟨es, clock, (Below.heap_alloc _ _ lb hbl).trans hb, Ft, hs, hD⟩)
  have cK : ∀ mb W, CallsIn Fence.wide 5 Try.prog 43 #[.map mb] W fun e w' => e = .returned (.func (.func 62) #[] #[.pointer (some ⟨W.heap.size, 0, none⟩)]) ∧ w' = W.alloc (.cells #[.map mb] 82) := fun mb W => AnyZI.keys_in Try.keysA Fence.wide 5 trivial rfl mb W
  have cS := AnyZI.sorted_in Try.sortedA Fence.wide 5 trivial trivial trivial trivial rfl (by omega) (sortsA _) (enters_of Try.func61 (by kernel_rfl) rfl) 62 #[.pointer (some ⟨w.heap.size, 0, none⟩)] trivial (enters_of Try.func62 (by kernel_rfl) rfl) _ _ (Nat.le_trans hsz (by decide)) (by omega) _ hseq
  change CallsIn _ _ Try.prog 42 _ _ _ at cS
  have hfK : Fence.wide.fn 43 := trivial
  have hfS : Fence.wide.fn 42 := trivial
  have HP := hid hperm
  clear hseq hperm hat hsz h
  refine (callsIn_wide (n := 6)).1 ?_
  refine callsIn_of_wp Try.func20 rfl trivial ?_ rfl
  simp only [Try.ntmps20, List.size_toArray, List.length_cons, List.length_nil, Nat.reduceAdd, Nat.reduceSub, Array.replicate_succ, Array.replicate_zero, List.push_toArray, List.append_toArray, List.nil_append, List.cons_append]
  gi_wp2_with (first
    | (gi_at_call 43; refine (cK _ _).mono ?_; rintro e w' ⟨rfl, rfl⟩)
    | (gi_at_call 42; refine cS.mono ?_; rintro e w' ⟨v, ss, rfl, hS, hrow, hnil, hb⟩))
  go_ret
  have e1 : ss.mergeSort (fun x y => decide (x ≤ y)) = looseL (S.length / 8) L := (mergeSort_of_perm_i (hS.trans HP.out.symm)).trans (looseL_sort _ _)
  have e2 : ss.length = (looseL (S.length / 8) L).length := (hS.trans HP.out.symm).length_eq
  rw [e1, e2] at hrow
  exact ⟨v, rfl, ownsRow_base_a hrow (by simp), ((Below.refl _ w).alloc (Nat.le_refl _) _).trans (hb.mono (by simp))⟩

theorem cloneL_any {w : World} {b n : Nat} {f : Int → Option Value} (hm : Mp w b n f) :
    Calls Try.prog 37 #[.map (some b)] w fun e w' => e = .returned (.map (some w.heap.size)) ∧ Mp w' w.heap.size n f ∧ Below w.heap.size w w' := by
  obtain ⟨D, ho, h1, h2⟩ := hm
  have c := AnyW.maps_Clone_owns Try.cloneA 3 RV b n D w ho
  change Calls Try.prog 37 _ _ _ at c
  exact c.mono fun e w' ⟨he, ho', _, hb⟩ => ⟨he, ⟨D, ho', h1, h2⟩, hb⟩
theorem cloneF_any {w : World} {b n : Nat} {f : Int → Option Value} (hm : Mp w b n f) :
    Calls Try.prog 38 #[.map (some b)] w fun e w' => e = .returned (.map (some w.heap.size)) ∧ Mp w' w.heap.size n f ∧ Below w.heap.size w w' := by
  obtain ⟨D, ho, h1, h2⟩ := hm
  have c := AnyW.maps_Clone_owns Try.cloneB 3 RV b n D w ho
  change Calls Try.prog 38 _ _ _ at c
  exact c.mono fun e w' ⟨he, ho', _, hb⟩ => ⟨he, ⟨D, ho', h1, h2⟩, hb⟩

theorem Own.some {w : World} {base : Nat} {v : Value} {l : List UInt8} (h : Own w base v l) (hv : v ≠ .slice none 0 0) : ∃ g cap, v = .slice (some ⟨g, 0, none⟩) l.length cap ∧ base ≤ g ∧ Row w g cap l := by
  rcases h.2 with ⟨e, _⟩ | ⟨g, cap, cur, e, hb, hg, h1, h2, h3, h4⟩
  · exact absurd e hv
  · exact ⟨g, cap, e, hb, cur, hg, by simpa using h3, h1, h2, by simpa using h4⟩

set_option maxHeartbeats 1000000 in
theorem copy_any {w : World} {B d g cap lb fb : Nat} {S : List UInt8} {L : Int → Option (List UInt8)} {F : Int → Bool} (h : Dev w B d g cap lb fb S L F) :
    Calls Try.prog 15 #[.pointer (some ⟨d, 0, none⟩)] w fun e w' => ∃ d' g' cap' lb' fb', e = .returned (.pointer (some ⟨d', 0, none⟩)) ∧ Dev w' w.heap.size d' g' cap' lb' fb' S L F ∧ Below w.heap.size w w' := by
  have HD := hid h
  have HN : Hid (S.length ≤ 1000000) := show _ ≤ _ by have := h.len.2; omega
  clear h
  go_enter Try.func15, Try.ntmps15
  go_wp2_with fail
  refine reg_begin (by kernel_rfl) (fun w0 hx0 hHeld => ?_)
  have HD0 := hid (HD.out.on hx0)
  have hc0 : ∀ w', Ext w0 w' → w'.cell? ⟨d, 0, none⟩ = some (.slice (some ⟨g, 0, none⟩) S.length cap) := fun w' hx => (HD0.out.on hx).c0
  have hc1 : ∀ w', Ext w0 w' → w'.cell? ⟨d, 1, none⟩ = some (.map (some lb)) := fun w' hx => (HD0.out.on hx).c1
  have hc2 : ∀ w', Ext w0 w' → w'.cell? ⟨d, 2, none⟩ = some (.map (some fb)) := fun w' hx => (HD0.out.on hx).c2
  refine reg_take 0 (v := ?vb0) at0 (by kernel_rfl) (by kernel_rfl) (by kernel_rfl) (by rfl) ?hyb0 hHeld ?restb0
  case hyb0 => (intro w' hSw; go_simp; try with_reducible rfl)
  try simp only [Act.put, List.setIfInBounds_toArray, List.set_cons_zero, List.set_cons_succ]
  refine reg_take 1 (v := ?vb1) (atS at0) (by kernel_rfl) (by kernel_rfl) (by kernel_rfl) (by rfl) ?hyb1 hHeld ?restb1
  case hyb1 => (intro w' hSw; go_simp; try with_reducible rfl)
  try simp only [Act.put, List.setIfInBounds_toArray, List.set_cons_zero, List.set_cons_succ]
  refine reg_take 2 (v := ?vb2) (atS (atS at0)) (by kernel_rfl) (by kernel_rfl) (by kernel_rfl) (by rfl) ?hyb2 hHeld ?restb2
  case hyb2 => (intro w' hSw; go_simp; try with_reducible rfl)
  try simp only [Act.put, List.setIfInBounds_toArray, List.set_cons_zero, List.set_cons_succ]
  refine reg_take 3 (v := ?vb3) (atS (atS (atS at0))) (by kernel_rfl) (by kernel_rfl) (by kernel_rfl) (by rfl) ?hyb3 hHeld ?restb3
  case hyb3 => (intro w' hSw; go_simp; try with_reducible rfl)
  try simp only [Act.put, List.setIfInBounds_toArray, List.set_cons_zero, List.set_cons_succ]
  refine reg_take 5 (v := ?vb5) (atS5 at0) (by kernel_rfl) (by kernel_rfl) (by kernel_rfl) (by rfl) ?hyb5 hHeld ?restb5
  case hyb5 => (intro w' hSw; go_simp; try with_reducible rfl)
  try simp only [Act.put, List.setIfInBounds_toArray, List.set_cons_zero, List.set_cons_succ]
  refine reg_take 6 (v := ?vb6) (atS5 (atS at0)) (by kernel_rfl) (by kernel_rfl) (by kernel_rfl) (by rfl) ?hyb6 hHeld ?restb6
  case hyb6 => (intro w' hSw; go_simp; try with_reducible rfl)
  try simp only [Act.put, List.setIfInBounds_toArray, List.set_cons_zero, List.set_cons_succ]
  refine reg_take 7 (v := ?vb7) (atS5 (atS (atS at0))) (by kernel_rfl) (by kernel_rfl) (by kernel_rfl) (by rfl) ?hyb7 hHeld ?restb7
  case hyb7 => (intro w' hSw; go_simp; try with_reducible rfl)
  try simp only [Act.put, List.setIfInBounds_toArray, List.set_cons_zero, List.set_cons_succ]
  refine reg_take 8 (v := ?vb8) (atS5 (atS (atS (atS at0)))) (by kernel_rfl) (by kernel_rfl) (by kernel_rfl) (by rfl) ?hyb8 hHeld ?restb8
  case hyb8 => (intro w' hSw; go_simp; try with_reducible rfl)
  try simp only [Act.put, List.setIfInBounds_toArray, List.set_cons_zero, List.set_cons_succ]
  refine reg_take 10 (v := ?vb10) (atS5 (atS5 at0)) (by kernel_rfl) (by kernel_rfl) (by kernel_rfl) (by rfl) ?hyb10 hHeld ?restb10
  case hyb10 => (intro w' hSw; go_simp; try with_reducible rfl)
  try simp only [Act.put, List.setIfInBounds_toArray, List.set_cons_zero, List.set_cons_succ]
  refine reg_take 11 (v := ?vb11) (atS5 (atS5 (atS at0))) (by kernel_rfl) (by kernel_rfl) (by kernel_rfl) (by rfl) ?hyb11 hHeld ?restb11
  case hyb11 => (intro w' hSw; go_simp; try with_reducible rfl)
  try simp only [Act.put, List.setIfInBounds_toArray, List.set_cons_zero, List.set_cons_succ]
  refine reg_take 12 (v := ?vb12) (atS5 (atS5 (atS (atS at0)))) (by kernel_rfl) (by kernel_rfl) (by kernel_rfl) (by rfl) ?hyb12 hHeld ?restb12
  case hyb12 => (intro w' hSw; go_simp; try with_reducible rfl)
  try simp only [Act.put, List.setIfInBounds_toArray, List.set_cons_zero, List.set_cons_succ]
  refine reg_take 13 (v := ?vb13) (atS5 (atS5 (atS (atS (atS at0))))) (by kernel_rfl) (by kernel_rfl) (by kernel_rfl) (by rfl) ?hyb13 hHeld ?restb13
  case hyb13 => (intro w' hSw; go_simp; try with_reducible rfl)
  try simp only [Act.put, List.setIfInBounds_toArray, List.set_cons_zero, List.set_cons_succ]
  refine wpAnyH_ready (rs := [4]) (by kernel_rfl) (by simp) ?_
  refine AllReadyH.cons (atS (atS (atS (atS at0)))) (fun K hK => ?_) AllReadyH.nil
  go_simp
  refine (bclone_any _ _ _ S _ HD0.out.rd HN.out).mono ?_
  rintro e w1 ⟨v, rfl, ho, hvn, hb1⟩
  obtain ⟨g', cap', rfl, hbg, hrow⟩ := ho.some hvn
  have HO := hid hrow
  clear ho hvn hrow
  go_wp2_with fail
  refine hK.out _ _ hb1 (fun hHeld => ?_)
  clear hK K
  try simp only [Act.put, List.setIfInBounds_toArray, List.set_cons_zero, List.set_cons_succ]
  refine reg_on hb1 (fun hHeld => ?_)
  have HD1 := hid (HD0.out.on hb1)
  refine wpAnyH_ready (rs := [9]) (by kernel_rfl) (by simp) ?_
  refine AllReadyH.cons (atS5 (atS (atS (atS (atS at0))))) (fun K hK => ?_) AllReadyH.nil
  go_simp
  refine (cloneL_any HD1.out.mpL).mono ?_
  rintro e w2 ⟨rfl, hm2, hb2⟩
  have HM2 := hid hm2
  clear hm2
  go_wp2_with fail
  refine hK.out _ _ hb2 (fun hHeld => ?_)
  clear hK K
  try simp only [Act.put, List.setIfInBounds_toArray, List.set_cons_zero, List.set_cons_succ]
  refine reg_on hb2 (fun hHeld => ?_)
  have HD2 := hid (HD1.out.on hb2)
  refine wpAnyH_ready (rs := [14]) (by kernel_rfl) (by simp) ?_
  refine AllReadyH.cons (atS5 (atS5 (atS (atS (atS (atS at0)))))) (fun K hK => ?_) AllReadyH.nil
  go_simp
  refine (cloneF_any HD2.out.mpF).mono ?_
  rintro e w3 ⟨rfl, hm3, hb3⟩
  have HM3 := hid hm3
  clear hm3
  go_wp2_with fail
  refine hK.out _ _ hb3 (fun hHeld => ?_)
  clear hK K
  try simp only [Act.put, List.setIfInBounds_toArray, List.set_cons_zero, List.set_cons_succ]
  refine reg_on hb3 (fun hHeld => ?_)
  refine reg_take 15 (v := ?vb15) (atS5 (atS5 (atS5 at0))) (by kernel_rfl) (by kernel_rfl) (by kernel_rfl) (by rfl) ?hyb15 hHeld ?restb15
  case hyb15 => (intro w' hSw; go_simp; try with_reducible rfl)
  try simp only [Act.put, List.setIfInBounds_toArray, List.set_cons_zero, List.set_cons_succ]
  refine wpAnyH_ready (rs := [16]) (by kernel_rfl) (by simp) ?_
  refine AllReadyH.cons (atS5 (atS5 (atS5 (atS at0)))) (fun K hK => ?_) AllReadyH.nil
  go_simp
  skip
  refine hK.out _ _ (B1 _ _) (fun hHeld => ?_)
  clear hK K
  try simp only [Act.put, List.setIfInBounds_toArray, List.set_cons_zero, List.set_cons_succ]
  refine reg_on (B1 _ _) (fun hHeld => ?_)
  refine reg_take 17 (v := ?vb17) (atS5 (atS5 (atS5 (atS (atS at0))))) (by kernel_rfl) (by kernel_rfl) (by kernel_rfl) (by rfl) ?hyb17 hHeld ?restb17
  case hyb17 => (intro w' hSw; go_simp; try with_reducible rfl)
  try simp only [Act.put, List.setIfInBounds_toArray, List.set_cons_zero, List.set_cons_succ]
  refine wpAnyH_done (by kernel_rfl) ?_ _
  refine NoPanic.normal ?_
  go_wp2_with fail
  go_ret
  have hrow := HO.out
  have hb13 := Bt hb2 hb3
  have s01 := hx0.size; have s1 := hb1.size; have s2 := hb2.size; have s3 := hb3.size
  refine ⟨w3.heap.size, g', cap', w1.heap.size, w2.heap.size, rfl, ⟨?_, by omega, by omega, by omega, by omega, ?_, ?_, ⟨8192, ?_⟩, ⟨8192, ?_⟩, HD.out.len, HD.out.keyL, HD.out.keyF⟩, Ba (Bt (Bt (Bt hx0 hb1) hb2) hb3) _⟩
  · exact heap_alloc_new w3 _
  · have := HM2.out.lt; omega
  · exact hrow.cong (((B1 w3 _).block g' (by have := hrow.lt; omega)).trans (hb13.block g' hrow.lt))
  · exact (HM2.out.below hb3 HM2.out.lt).alloc _
  · exact HM3.out.alloc _
end Go.Proofs.Ytpmljbcgaeodjaa
