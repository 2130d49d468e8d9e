/-
  wal: the functions that range over sets or chunks: allows, bodyOf, bring, save.
-/
import Derived.Test.YteggkojlpgkhbaaGreatM7
namespace Go.Proofs.YteggkojlpgkhbaaGreat
open Go.RowKit Go.Maps Go.Shelf
set_option linter.unusedVariables false
attribute [local go_sem] Oper.semAt_some

/-- A value that yields the sets xs, whoever goes through it and keeps to its own. -/
structure Itr (w : World) (gf : Nat) (lb : Array Value) (xs : List (Int × Int)) (Kp : World → World → Prop) : Prop where
  it : Iter Tryz.prog gf lb (fun x => #[setV x]) xs Kp w
  en : ∀ args w, (callFunc gf args).run Tryz.prog w = .ok (.enter gf args) w
  kt : ∀ {A B C : World}, Kp A B → Kp B C → Kp A C
  kb : ∀ (W : World) (l : Nat) (o o' : Obj), w.heap.size ≤ l → W.heap[l]? = some o → o.isCells = false → Kp W (W.putObj l o')
  kp : ∀ (W W' : World), Below w.heap.size W W' → KeepC W W' → Kp W W'
theorem Itr.later {w w' : World} {gf : Nat} {lb : Array Value} {xs : List (Int × Int)} {Kp : World → World → Prop} (h : Itr w gf lb xs Kp) (hb : Below w.heap.size w w') : Itr w' gf lb xs Kp :=
  ⟨h.it.later hb, h.en, h.kt, fun W l o o' hl => h.kb W l o o' (Nat.le_trans hb.size hl), fun W W' hB hK => h.kp W W' (hB.mono hb.size) hK⟩

theorem alloc2 (w : World) (o1 o2 : Obj) : ∃ W, W = (w.alloc o1).alloc o2 ∧ W.heap.size = w.heap.size + 2 ∧ Below w.heap.size w W ∧ W.heap[w.heap.size]? = some o1 ∧ W.heap[w.heap.size + 1]? = some o2 := by
  refine ⟨_, rfl, by simp, Ba (B1 w _) _, (Below.heap_alloc _ _ _ (by simp)).trans (heap_alloc_new w _), ?_⟩
  have := heap_alloc_new (w.alloc o1) o2
  simpa using this
theorem alloc3 (w : World) (o1 o2 o3 : Obj) : ∃ W, W = ((w.alloc o1).alloc o2).alloc o3 ∧ W.heap.size = w.heap.size + 3 ∧ Below w.heap.size w W ∧ W.heap[w.heap.size]? = some o1 ∧ W.heap[w.heap.size + 1]? = some o2 ∧ W.heap[w.heap.size + 1 + 1]? = some o3 := by
  obtain ⟨W, hW, hs, hb, h1, h2⟩ := alloc2 w o1 o2
  refine ⟨W.alloc o3, by rw [hW], by simp [hs], Ba hb _, (Below.heap_alloc _ _ _ (by omega)).trans h1, (Below.heap_alloc _ _ _ (by omega)).trans h2, ?_⟩
  have := heap_alloc_new W o3
  rw [hs] at this
  exact this
theorem all_take {α : Type} {p : α → Bool} {xs : List α} {k : Nat} {x : α} (h : xs[k]? = some x) (hk : (xs.take k).all p = true) (hx : p x = true) : (xs.take (k + 1)).all p = true := by
  rw [List.take_add_one, h, List.all_append, hk]; simp [hx]

/-- Whether a set may be: a word of the device that is not one of the region. -/
def mayB (n at_ words : Int) (x : Int × Int) : Bool := decide (0 ≤ x.1) && decide (x.1 < n) && !(decide (at_ ≤ x.1) && decide (x.1 < at_ + words))

section
variable {w : World} {B d g cap lbb fb gf : Nat} {S : List UInt8} {L : Int → Option (List UInt8)} {F : Int → Bool} {lb : Array Value} {xs : List (Int × Int)} {Kp : World → World → Prop}
set_option maxRecDepth 100000 in
set_option maxHeartbeats 4000000 in
theorem allows_any (h : Dev w B d g cap lbb fb S L F) {at_ words n : Int} (hn : n = (S.length : Int) / 8) (h0 : 0 ≤ at_) (h1 : 1 ≤ words) (h2 : at_ + words ≤ n) (hi : Itr w gf lb xs Kp) (hx : ∀ x ∈ xs, I64 x.1 ∧ U64 x.2) :
    Calls Tryz.prog 32 #[.agg (regC d at_ words), .func (.func gf) #[] lb] w fun e w' => e = .returned (.bool (xs.all (mayB n at_ words))) ∧ Below w.heap.size w w' := by
  have hlen := h.len.2
  have hN1 : n ≤ 8192 := by omega
  have HL := hid (fun o o' => len_any ((h.alloc o).alloc o'))
  obtain ⟨N, hN⟩ : ∃ N : Int, N = S.length := ⟨_, rfl⟩
  rw [← hN] at HL hn
  have q1 : N.tdiv 8 = n := by rw [hn]; exact Int.tdiv_eq_ediv_of_nonneg (by omega)
  have q2 : IntKind.i64.wrap (at_ + words) = at_ + words := by rw [IntKind.wrap_i64]; omega
  clear h hn hlen hN
  have HI := hid hi; have HX := hid hx
  clear hi hx
  unfold regC
  refine (callsIn_wide (n := 5)).1 (callsIn_of_wp_marks Tryz.func32 rfl trivial ?_ rfl)
  simp only [Tryz.ntmps32, List.size_toArray, List.length_cons, List.length_nil, Nat.reduceAdd, Nat.reduceSub, Array.replicate_succ, Array.replicate_zero, List.push_toArray, List.append_toArray, List.nil_append, List.cons_append]
  gi_wp2_with (fail)
  refine ⟨trivial, callsIn_wide.2 ((HL.out _ _).mono ?_)⟩
  rintro e w1 ⟨rfl, rfl⟩
  gi_wp2_with (fail)
  obtain ⟨W0, hW0, hs0, hB0, y0, y1, y2⟩ := alloc3 w (.cells #[.pointer (some ⟨d, 0, none⟩), .int .i64 at_, .int .i64 words] 73) (.cells #[.bool false] 4) (.cells #[.int .i64 n] 3)
  rw [← hW0]
  clear hW0
  have HI0 := hid (HI.out.later hB0)
  obtain ⟨I, HI1⟩ : ∃ I : Nat → World → Prop, Hid (I = fun k W => (xs.take k).all (mayB n at_ words) = true ∧ Below W0.heap.size W0 W) := ⟨_, hid rfl⟩
  obtain ⟨Ix, HI2⟩ : ∃ Ix : Code → Nat → World → Prop, Hid (Ix = fun c k W => (c = .ret ∧ (∃ x, xs[k]? = some x ∧ mayB n at_ words x = false)) ∧ W.heap[w.heap.size + 1]? = some (.cells #[.bool false] 4 (0, 0)) ∧ Below w.heap.size w W) := ⟨_, hid rfl⟩
  have HS0 := hid hs0
  refine range_any (gf := gf) (lb := lb) rfl HI0.out.en HI0.out.it HI0.out.kt HI0.out.kb (fun _ => rfl) I Ix
    (by rw [HI1.out]; exact (OwnFrom.and (ownFrom_pure _ _) (ownFrom_below (Nat.le_refl _) (Nat.le_refl _))))
    (by rw [HI2.out]; exact (fun c => OwnFrom.and (ownFrom_pure _ _) (OwnFrom.and (fun s A C row hs hg hr => (hg.block _ (row_lt hs) (fun e => by obtain ⟨_, o, ho, hc⟩ := hr _ e.symm; rw [hs] at ho; cases ho; cases hc)).trans hs) (ownFrom_below (Nat.le_refl _) (by omega)))))
    (by rw [HI1.out]; exact ⟨rfl, Below.refl _ _⟩) ?_ ?_ ?_
  · rintro l k x W1 hx hi1 hl hl2
    have hi1' := hi1
    rw [HI1.out] at hi1'
    obtain ⟨hall, hb1⟩ := hi1'
    simp only [setV]
    gi_wp2_with (fail)
    refine ⟨kf_below (B1 _ _), HI0.out.kp _ _ ((Below.refl _ _).alloc hb1.size _) (KeepC.below (B1 _ _)), by rw [HI1.out]; exact ⟨hall, hb1.alloc hb1.size _⟩, ?_⟩
    rintro W2 hg2 hi2
    have hb2 : Below W0.heap.size W0 W2 := by rw [HI1.out] at hi2; exact hi2.2
    clear hi1 hi2
    clear hs0
    obtain ⟨x1, x2⟩ := x
    have hx1 := i64_iff.1 (HX.out _ (List.mem_of_getElem? hx)).1
    have hset : W2.heap[W1.heap.size]? = some (.cells #[.int .i64 x1, .int .u64 x2] 66 (0, 0)) := (hg2.block _ (by simp) (by simp; omega)).trans (heap_alloc_new W1 _)
    have c1 : W2.cell? ⟨W1.heap.size, 0, none⟩ = some (.int .i64 x1) := by rw [row_cell hset]; rfl
    have c2 : W2.cell? ⟨w.heap.size, 1, none⟩ = some (.int .i64 at_) := by rw [row_cell ((hb2.block _ (row_lt y0)).trans y0)]; rfl
    have c3 : W2.cell? ⟨w.heap.size, 2, none⟩ = some (.int .i64 words) := by rw [row_cell ((hb2.block _ (row_lt y0)).trans y0)]; rfl
    have c4 : W2.cell? ⟨w.heap.size + 1 + 1, 0, none⟩ = some (.int .i64 n) := by rw [row_cell ((hb2.block _ (row_lt y2)).trans y2)]; rfl
    have r1 := (hb2.block _ (row_lt y1)).trans y1
    have c5 : W2.cell? ⟨w.heap.size + 1, 0, none⟩ = some (.bool false) := by rw [row_cell r1]; rfl
    have c6 : W2.frozen? ⟨w.heap.size + 1, 0, none⟩ = false := row_frozen r1 0
    have HR1 := hid r1; have HB2 := hid hb2; have HXk := hid hx
    clear hset r1 hg2 hx
    have hm : mayB n at_ words (x1, x2) = (decide (0 ≤ x1) && decide (x1 < n) && !(decide (at_ ≤ x1) && decide (x1 < at_ + words))) := rfl
    have HM := hid hm
    clear hm
    have good : ∀ (a : Act), mayB n at_ words (x1, x2) = true → rPost W0.heap.size Kp I Ix k W2 .normal a W2 := fun a hm =>
      ⟨KeepsFrom.refl _ _, HI0.out.kp _ _ (Below.refl _ _) (KeepC.refl _), by rw [HI1.out]; exact ⟨all_take HXk.out hall hm, HB2.out⟩⟩
    have bad : ∀ (a : Act), mayB n at_ words (x1, x2) = false → rPost W0.heap.size Kp I Ix k W2 .ret a (W2.setCell ⟨w.heap.size + 1, 0, none⟩ (.bool false)) := fun a hm =>
      ⟨(KeepsOthers.setCell _ _ _).from _, by rw [HI2.out]; exact ⟨⟨rfl, _, HXk.out, hm⟩, row_set HR1.out 0 _, ((hB0.trans (HB2.out.mono (by have := HS0.out; omega))).setCell (p := ⟨w.heap.size + 1, 0, none⟩) (show w.heap.size ≤ w.heap.size + 1 by omega) _)⟩⟩
    have GOOD := hid good; have BAD := hid bad
    clear good bad hall
    by_cases p1 : x1 < 0
    · have d1 : decide (x1 < 0) = true := by simp; omega
      have d2 : decide (at_ ≤ x1) = false := by simp; omega
      gi_wp2_with (fail)
      exact BAD.out _ (by rw [HM.out]; simp; omega)
    · have d1 : decide (x1 < 0) = false := by simp; omega
      by_cases p2 : n ≤ x1
      · have d2 : decide (n ≤ x1) = true := by simp; omega
        by_cases p3 : at_ ≤ x1
        · have d3 : decide (at_ ≤ x1) = true := by simp; omega
          have d4 : decide (x1 < at_ + words) = false := by simp; omega
          gi_wp2_with (fail)
          exact BAD.out _ (by rw [HM.out]; simp; omega)
        · omega
      · have d2 : decide (n ≤ x1) = false := by simp; omega
        by_cases p3 : at_ ≤ x1
        · have d3 : decide (at_ ≤ x1) = true := by simp; omega
          by_cases p4 : x1 < at_ + words
          · have d4 : decide (x1 < at_ + words) = true := by simp; omega
            gi_wp2_with (fail)
            exact BAD.out _ (by rw [HM.out]; simp; omega)
          · have d4 : decide (x1 < at_ + words) = false := by simp; omega
            gi_wp2_with (fail)
            exact GOOD.out _ (by rw [HM.out]; simp; omega)
        · have d3 : decide (at_ ≤ x1) = false := by simp; omega
          gi_wp2_with (fail)
          exact GOOD.out _ (by rw [HM.out]; simp; omega)
  · rintro D W1 hD hi1 hdf
    rw [HI1.out] at hi1
    obtain ⟨hall, hb1⟩ := hi1
    rw [List.take_length] at hall
    have r1 := (hb1.block _ (row_lt y1)).trans y1
    have c5 : W1.cell? ⟨w.heap.size + 1, 0, none⟩ = some (.bool false) := by rw [row_cell r1]; rfl
    have c6 : W1.frozen? ⟨w.heap.size + 1, 0, none⟩ = false := row_frozen r1 0
    gi_wp2_with (fail)
    have hdf' := (KeepsOthers.setCell W1 ⟨w.heap.size + 1, 0, none⟩ (.bool true)).same D _ hdf rfl
    refine ⟨by simp, .inl ⟨_, _, rfl, run_takeDeferred hdf', ?_⟩⟩
    have r2 := row_set r1 0 (.bool true)
    have r3 := ((grownBy_putObj' (W1.setCell ⟨w.heap.size + 1, 0, none⟩ (.bool true)) D (.deferred none)).block _ (row_lt r2) (by simp; omega)).trans r2
    have c7 := row_cell r3 0
    refine ⟨.bool true, ?_, by rw [hall], ?_⟩
    · simp [results, Tryz.f32, go_sem, c7]
    · refine ((hB0.trans (hb1.mono (by omega))).setCell (p := ⟨w.heap.size + 1, 0, none⟩) (show w.heap.size ≤ w.heap.size + 1 by omega) _).trans (belowK_b (w := w) (Nat.le_refl _) _ D _ _ (by omega) hdf' rfl rfl)
  · rintro D c k W1 hD hk hi1 hdf
    rw [HI2.out] at hi1
    obtain ⟨⟨rfl, x, hx, hm⟩, r1, hb1⟩ := hi1
    gi_wp2_with (fail)
    refine ⟨by simp, .inl ⟨_, _, rfl, run_takeDeferred hdf, ?_⟩⟩
    have r3 := ((grownBy_putObj' W1 D (.deferred none)).block _ (row_lt r1) (by simp; omega)).trans r1
    have c7 := row_cell r3 0
    refine ⟨.bool false, ?_, ?_, hb1.trans (belowK_b (w := w) (Nat.le_refl _) _ D _ _ (by omega) hdf rfl rfl)⟩
    · simp [results, Tryz.f32, go_sem, c7]
    · congr 2
      symm
      rw [List.all_eq_false]
      exact ⟨x, List.mem_of_getElem? hx, by simp [hm]⟩
end
end Go.Proofs.YteggkojlpgkhbaaGreat
