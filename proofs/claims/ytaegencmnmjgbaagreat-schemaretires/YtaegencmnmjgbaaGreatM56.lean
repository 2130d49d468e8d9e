/-
  The document's Change of layer 9.
-/
import Derived.Test.YtaegencmnmjgbaaGreatM52
import Derived.Test.YtaegencmnmjgbaaGreatM54
import Derived.Test.YtaegencmnmjgbaaGreatM55

namespace Go.Proofs.YtaegencmnmjgbaaGreat
open Go.RowKit Go.Maps
set_option linter.unusedVariables false
set_option linter.unusedSimpArgs false
section
variable {α : Type} {ty : TypeId} {to : Option TypeId} {k : Nat} {cel : α → List Value} {P : World → Nat → α → Prop} {w w' : World} {B n cap base : Nat} {A : Option Addr} {l : List α} {v : Value}
theorem run_appGm {sl : TypeId} {z : Value} {by_ : Nat} (hU : Tryz.prog.underlying sl = some (.slice ty)) (hi8 : (Tryz.prog.info? ty).map (fun i => (i.zero, i.size, i.bytes)) = some (some z, k, by_)) (hz : z.cells.size = k) (hk0 : 0 < k)
    (hk : ∀ a, (cel a).length = k) (h : OwG ty k cel w base v l) {m : List α} (h1 : ∀ a ∈ m, ∀ u ∈ cel a, u.oneCell' = true) {ad : Addr} {c : Nat} (hm : ∀ j u, (cellsG cel m)[j]? = some u → w.cell? (ad.add j) = some u)
    (hlen : (l.length + m.length) * by_ ≤ 140737488355328) (hby : 0 < by_) (hb : base ≤ w.heap.size) (t : TypeId) :
    ∃ v' w', (Builtin.append_ #[sl, sl] t #[v, .slice (some ad) m.length c]).run Tryz.prog w = .ok v' w' ∧ OwG ty k cel w' base v' (l ++ m) ∧ w.grownBy w' v.ownBlock := by
  cases hi : Tryz.prog.info? ty with
  | none => rw [hi] at hi8; cases hi8
  | some i =>
    rw [hi] at hi8
    simp only [Option.map_some, Option.some.injEq, Prod.mk.injEq] at hi8
    obtain ⟨hz8, hsz, hb8⟩ := hi8
    have hmx : l.length + m.length ≤ maxLen := by
      have := Nat.le_trans (Nat.le_mul_of_pos_right _ hby) hlen
      unfold maxLen; omega
    obtain ⟨v', W', hr, ho, hg, _⟩ := run_append_own (P := Tryz.prog) w base sl t ty i z k by_ hU hi hz8 hsz hb8 hz hk0 v l.length (cellsG cel l) h ad m.length c (cellsG cel m) (cellsG_length hk m) hm (fun u hu => by
      unfold cellsG at hu
      rw [List.mem_flatten] at hu
      obtain ⟨L, hL, hu⟩ := hu
      obtain ⟨a, ha, rfl⟩ := List.mem_map.1 hL
      exact h1 a ha u hu) hmx hlen hb
    refine ⟨v', W', hr, ?_, hg⟩
    unfold OwG
    rw [List.length_append, cellsG_app]; exact ho
theorem run_copyG {sl : TypeId} {z : Value} {by_ : Nat} (hU : Tryz.prog.underlying sl = some (.slice ty)) (hi8 : (Tryz.prog.info? ty).map (fun i => (i.zero, i.size, i.bytes)) = some (some z, k, by_)) (hz : z.cells.size = k) (hk0 : 0 < k)
    (hk : ∀ a, (cel a).length = k) {g : Nat} (hg : w.heap[g]? = some (.cells #[] ty (0, 0))) (h : RdG to k cel P w B A n cap l) (h1 : ∀ a ∈ l, ∀ u ∈ cel a, u.oneCell' = true) (hlen : n * by_ ≤ 140737488355328) (hby : 0 < by_) (t : TypeId) :
    ∃ v' w', (Builtin.append_ #[sl, sl] t #[.slice (some ⟨g, 0, none⟩) 0 0, .slice A n cap]).run Tryz.prog w = .ok v' w' ∧ OwG ty k cel w' g v' l ∧ w.grownBy w' (some g) := by
  rcases Nat.eq_zero_or_pos n with e | e
  · subst e
    have hl : l = [] := List.eq_nil_of_length_eq_zero h.1
    subst hl
    exact ⟨_, _, run_app0 hU hi8 t, OwG.empty hg (Nat.le_refl _), grown_refl _ _⟩
  · obtain ⟨b, off, rfl, _⟩ := h.2.2.2.2 e
    obtain ⟨v', w', hr, ho, hgr⟩ := run_appGm hU hi8 hz hk0 hk (OwG.empty (cel := cel) (k := k) hg (Nat.le_refl g)) h1 (ad := ⟨b, off, none⟩) (c := cap) (h.cells hk) (by rw [List.length_nil, h.1, Nat.zero_add]; exact hlen) hby (Nat.le_of_lt (row_lt hg)) t
    rw [h.1] at hr
    exact ⟨v', w', hr, ho, hgr⟩
end
theorem infoFs : (Tryz.prog.info? 32).map (fun i => (i.zero, i.size, i.bytes)) = some (some (.slice none 0 0), 1, 24) := by kernel_rfl
theorem infoTb : (Tryz.prog.info? 110).map (fun i => (i.zero, i.size, i.bytes)) = some (some (.agg #[.slice none 0 0, .slice none 0 0, .slice none 0 0]), 3, 72) := by kernel_rfl
theorem fsLen (p : FsP) : (fsCel p).length = 1 := rfl
theorem tbLen (p : TbP) : (tbCel p).length = 3 := rfl
theorem fsOne {w : World} {B : Nat} {p : FsP} (h : fsP w B p) : ∀ u ∈ fsCel p, u.oneCell' = true := fun u hu => by
  obtain ⟨A, n, c, e, _⟩ := h
  simp only [fsCel, List.mem_singleton] at hu
  rw [hu, e]; rfl
theorem tbOne {w : World} {B : Nat} {p : TbP} (h : tbP w B p) : ∀ u ∈ tbCel p, u.oneCell' = true := fun u hu => by
  obtain ⟨A, n, c, A2, n2, c2, A3, n3, c3, e, _⟩ := h
  simp only [Value.agg.injEq, Array.mk.injEq, List.cons.injEq, and_true] at e
  simp only [tbCel, e.1, e.2.1, e.2.2, List.mem_cons, List.not_mem_nil, or_false] at hu
  rcases hu with rfl | rfl | rfl <;> rfl
theorem FsL.shape {w : World} {B : Nat} {v : Value} {L : List (List Fd)} (h : FsL w B v L) : ∃ A c, v = .slice A L.length c := by
  obtain ⟨A, n, c, ps, rfl, h, rfl⟩ := h; exact ⟨A, c, by rw [List.length_map, h.1]⟩
theorem TsL.shape {w : World} {B : Nat} {v : Value} {L : List Tb} (h : TsL w B v L) : ∃ A c, v = .slice A L.length c := by
  obtain ⟨A, n, c, ps, rfl, h, rfl⟩ := h; exact ⟨A, c, by rw [List.length_map, h.1]⟩
theorem newest_V {t : Ty} (h : okTy t) : t.lo + ((t.fs.length : Nat) : Int) - 1 = t.hi := rfl
theorem fs_last {t : Ty} (h : okTy t) : t.fs[t.fs.length - 1]? = some t.last := by
  have := h.2.2.2.1
  rw [this, Nat.add_sub_cancel]; exact h.last.1
theorem OwG.ty {α : Type} {ty : TypeId} {k : Nat} {cel : α → List Value} {w w' : World} {B : Nat} {v : Value} {l : List α} (h : OwG ty k cel w B v l) (hk : KeepTy ty w w') : OwG ty k cel w' B v l := by
  refine ⟨h.1, ?_⟩
  rcases h.2 with h1 | ⟨g, cap, cur, hv, hbase, hg, h3⟩
  · exact .inl h1
  · exact .inr ⟨g, cap, cur, hv, hbase, hk _ _ hg, h3⟩
theorem run_loadTy {w : World} {b : Nat} {p : TyP} (h : TBy w b p) : (loadVar 60 ⟨b, 0, none⟩).run Tryz.prog w = .ok (.agg #[.string (bs p.1.nm), .int .i64 p.1.lo, p.2.1, p.2.2]) w :=
  run_loadVar_row w b 60 60 #[.string (bs p.1.nm), .int .i64 p.1.lo, p.2.1, p.2.2] (0, 0) _ h Tryz.underlying60 rfl (by kernel_rfl)
theorem TBy.below2 {w w' : World} {p : Nat} {x : TyP} (h : TBy w p x) (hb : Below w.heap.size w w') : TBy w' p x := h.on hb
section
variable {w : World} {p : Nat} {x : TyP}
theorem RdF.tbox {B : Nat} {A : Option Addr} {n c : Nat} {l : List Fd} (h : RdF w B A n c l) (hp : TBy w p x) (hx : slv x.2.1 ∧ slv x.2.2) (i : Nat) (u : Value) : RdF (w.setCell ⟨p, i, none⟩ u) B A n c l := by
  obtain ⟨⟨B1', m1, d1, f1⟩, ⟨B2', m2, d2, f2⟩⟩ := hx
  refine ⟨h.1, h.2.1, h.2.2.1, h.2.2.2.1, fun hn => ?_⟩
  obtain ⟨b, off, e, hlt, hc⟩ := h.2.2.2.2 hn
  have hne : b ≠ p := fun e => by
    subst e
    obtain ⟨h0, h1, h2⟩ := hc 0 (by have := h.1; omega)
    rw [Nat.zero_mul, Nat.add_zero, row_cell hp] at h0 h2
    rcases off with _ | _ | _ | _ | off <;> simp [tyCel, f1, f2] at h0 h2
  have hb := Below.heap_setCell w ⟨p, i, none⟩ u b hne
  refine ⟨b, off, e, hlt, fun j hj => ?_⟩
  obtain ⟨c1, c2, c3⟩ := hc j hj
  exact ⟨(cell_cong (p := ⟨b, _, none⟩) hb).trans c1, (cell_cong (p := ⟨b, _, none⟩) hb).trans c2, (cell_cong (p := ⟨b, _, none⟩) hb).trans c3⟩
theorem RdM.tbox {B : Nat} {A : Option Addr} {n c : Nat} {l : List Mv} (h : RdM w B A n c l) (hp : TBy w p x) (hx : slv x.2.1 ∧ slv x.2.2) (i : Nat) (u : Value) : RdM (w.setCell ⟨p, i, none⟩ u) B A n c l := by
  obtain ⟨⟨B1', m1, d1, f1⟩, ⟨B2', m2, d2, f2⟩⟩ := hx
  refine ⟨h.1, h.2.1, h.2.2.1, h.2.2.2.1, fun hn => ?_⟩
  obtain ⟨b, off, e, hlt, hc⟩ := h.2.2.2.2 hn
  have hne : b ≠ p := fun e => by
    subst e
    obtain ⟨h0, h1, h2, h3⟩ := hc 0 (by have := h.1; omega)
    rw [Nat.zero_mul, Nat.add_zero, row_cell hp] at h0 h1
    rcases off with _ | _ | _ | _ | off <;> simp [tyCel, f1, f2] at h0 h1
  have hb := Below.heap_setCell w ⟨p, i, none⟩ u b hne
  refine ⟨b, off, e, hlt, fun j hj => ?_⟩
  obtain ⟨c1, c2, c3, c4⟩ := hc j hj
  exact ⟨(cell_cong (p := ⟨b, _, none⟩) hb).trans c1, (cell_cong (p := ⟨b, _, none⟩) hb).trans c2, (cell_cong (p := ⟨b, _, none⟩) hb).trans c3, (cell_cong (p := ⟨b, _, none⟩) hb).trans c4⟩
theorem RdT.tbox {B : Nat} {v : Value} {T : Tb} (h : RdT w B v T) (hp : TBy w p x) (hx : slv x.2.1 ∧ slv x.2.2) (i : Nat) (u : Value) : RdT (w.setCell ⟨p, i, none⟩ u) B v T := by
  obtain ⟨A, n, c, A2, n2, c2, A3, n3, c3, e, h1, h2, h3⟩ := h
  exact ⟨A, n, c, A2, n2, c2, A3, n3, c3, e, h1.tbox hp hx i u, h2.tbox hp hx i u, h3.tbox hp hx i u⟩
end
set_option maxRecDepth 20000 in
set_option maxHeartbeats 16000000 in
theorem r9change_any {w : World} {A : Option Addr} {n c : Nat} {l : List Ty} (h : DocL w w.heap.size A n c l) (hok : okC l) (nm : List UInt8) {A2 : Option Addr} {m cp : Nat} {cs : List Ch} (hcs : RdC w w.heap.size A2 m cp cs) (hsc : ∀ x ∈ cs, x.to.nm.length ≤ 140737488351232 ∧ x.od.length ≤ 140737488351232) :
    Calls Tryz.prog 68 #[.slice A n c, .string (bs nm), .slice A2 m cp] w (DocQ w (chgS l nm cs).1 [.int .i64 (chgS l nm cs).2.1, .int .i64 (chgS l nm cs).2.2]) := by
  have hn : n ≤ 16 := by rw [← h.len]; exact hok.2.1
  have H := hid h; have HOK := hid hok; have HCS := hid hcs; have HSC := hid hsc
  clear h hok hcs hsc
  go_enter Tryz.func68, Tryz.ntmps68
  go_wp2_with fail
  refine (r9find_any H.out (by omega) nm).mono ?_
  rintro e w1 ⟨rfl, hb1⟩
  have HB1 := hid hb1
  have H1 := hid (H.out.on hb1)
  clear hb1
  cases hf : findT l nm with
  | none =>
    rw [findR_none hf]
    have HE := hid (chgS_none (cs := cs) (findT_none.1 hf))
    clear hf
    go_wp2_with fail
    go_ret3
    rw [HE.out]
    exact ⟨_, _, _, rfl, H1.out, HB1.out⟩
  | some k =>
    obtain ⟨t, h1, h2, h3⟩ := findT_at hf
    rw [findR_some hf]
    obtain ⟨k', hk', htn, hE⟩ := chgS_some (cs := cs) h3
    have hkk : k' = k := by
      have hp := List.pairwise_iff_getElem.1 HOK.out.1
      obtain ⟨a1, a2⟩ := List.getElem?_eq_some_iff.1 hk'
      obtain ⟨b1, b2⟩ := List.getElem?_eq_some_iff.1 h1
      rcases Nat.lt_trichotomy k' k with c | c | c
      · have := hp k' k a1 b1 c; rw [a2, b2, ahead_irrefl] at this; cases this
      · exact c
      · have := hp k k' b1 a1 c; rw [a2, b2, ahead_irrefl] at this; cases this
    subst hkk
    have HT := hid (HOK.out.2.2 t (List.mem_of_getElem? h1))
    obtain ⟨hkn, b, off, v1, v2, rfl, hfs, hts, hc⟩ := H1.out.at h1
    obtain ⟨A1, c1, rfl⟩ := hfs.shape
    obtain ⟨A3, c3, rfl⟩ := hts.shape
    obtain ⟨d0, d1, d2, d3⟩ := hc w1 (B0 _)
    obtain ⟨q1, q2, q3, q4, q5⟩ := HT.out.nums
    have HE := hid hE; have HFS := hid hfs; have HTS := hid hts
    have hki : (k' : Int) < n := by omega
    have hk0 : (0 : Int) ≤ k' := by omega
    have t0 : decide ((k' : Int) < 0) = false := decide_eq_false (by omega)
    obtain ⟨w2, hw2⟩ : ∃ w2, w2 = w1.alloc (.cells #[.string (bs t.nm), .int .i64 t.lo, .slice A1 t.fs.length c1, .slice A3 t.ts.length c3] 60) := ⟨_, rfl⟩
    obtain ⟨p, hp⟩ : ∃ p, p = w1.heap.size := ⟨_, rfl⟩
    have HW2 := hid hw2; have HP := hid hp
    have HX2 : Hid (TBy w2 p (t, .slice A1 t.fs.length c1, .slice A3 t.ts.length c3)) := by rw [hw2, hp]; exact hid (TBy.new w1 (t, .slice A1 t.fs.length c1, .slice A3 t.ts.length c3))
    have HB2 : Hid (Below w1.heap.size w1 w2) := by rw [hw2]; exact hid (B1 _ _)
    have HTN := hid htn
    clear hf h1 h2 h3 hk' htn hE hfs hts hc hw2 hp
    go_upto_region 5 with fail
    rw [← HW2.out, ← HP.out]
    clear d0 d1 d2 d3
    obtain ⟨y0, y1, y2, y3⟩ := HX2.out.cells
    dsimp only at y0 y1 y2 y3
    go_wp2_with fail
    refine (r9newest_any t.nm ⟨by omega, by omega⟩ (by omega)).mono ?_
    rintro e w3 ⟨rfl, hb3⟩
    have HB3 := hid (Bt HB2.out hb3)
    have HX3 := hid (HX2.out.on hb3)
    clear y0 y1 y2 y3 hb3
    rw [newest_V HT.out]
    obtain ⟨y0, y1, y2, y3⟩ := HX3.out.cells
    dsimp only at y0 y1 y2 y3
    obtain ⟨hi, hhi⟩ : ∃ hi, hi = t.hi := ⟨_, rfl⟩
    rw [← hhi]
    have HHI := hid hhi
    by_cases g1 : 64 ≤ hi
    · have t1 : decide ((64 : Int) ≤ hi) = true := decide_eq_true g1
      have HR : Hid (chgS l nm cs = (l, 0, 91)) := hid (by rw [HE.out, if_pos (by rw [← HHI.out]; exact g1)])
      clear hhi g1 q5
      go_wp2_with fail
      go_ret3
      rw [HR.out]
      exact ⟨_, _, _, rfl, H1.out.on HB3.out, Bt HB1.out HB3.out⟩
    · have t1 : decide ((64 : Int) ≤ hi) = false := decide_eq_false g1
      have HLT : Hid (¬ 64 ≤ t.hi) := hid (by rw [← HHI.out]; exact g1)
      obtain ⟨A4, n4, c4, e4, hl4, hc4, hm4, hg4⟩ := (HFS.out.on HB3.out).at
      cases e4
      obtain ⟨_, b5, off5, A5, n5, c5, rfl, hr5, hc5⟩ := hg4 _ _ (fs_last HT.out)
      have e0 := hc5 w3 (B0 _)
      have HR5 := hid hr5
      clear hhi g1 hl4 hg4 hr5 hc5 q5
      go_wp2_with fail
      refine (r8allq_any HR5.out (right_short HT.out.last.2) (HCS.out.on (Bt HB1.out HB3.out)) HSC.out).mono ?_
      rintro e w5 ⟨v5, rfl, hr, hb5⟩
      obtain ⟨D1, m1, e1, D2, m2, e2, D3, m3, e3, rfl, i1, i2, i3⟩ := hr
      have HX5 := hid (HX3.out.on hb5)
      have HB5 := hid (Bt HB3.out hb5)
      obtain ⟨T, hT⟩ : ∃ T, T = (all8 t.last cs).1 := ⟨_, rfl⟩
      obtain ⟨E, hE⟩ : ∃ E, E = (all8 t.last cs).2 := ⟨_, rfl⟩
      have hr7 : RdT w5 w5.heap.size (.agg #[.slice D1 m1 e1, .slice D2 m2 e2, .slice D3 m3 e3]) T := by rw [hT]; exact ⟨_, _, _, _, _, _, _, _, _, rfl, i1, i2, i3⟩
      have hr8 : RdF w5 w5.heap.size D2 m2 e2 T.nw := by rw [hT]; exact i2
      rw [← hE]
      have HTE := hid hT; have HEE := hid hE
      obtain ⟨w6, hw6⟩ : ∃ w6, w6 = w5.alloc (.cells #[.slice D1 m1 e1, .slice D2 m2 e2, .slice D3 m3 e3] 110) := ⟨_, rfl⟩
      obtain ⟨q, hq⟩ : ∃ q, q = w5.heap.size := ⟨_, rfl⟩
      have HW6 := hid hw6; have HQ := hid hq
      have HQX : Hid (TBx w6 q (.slice D1 m1 e1) (.slice D2 m2 e2) (.slice D3 m3 e3) 110) := by rw [hw6, hq]; exact hid (tb_new _ _ _ _ _)
      have HB6 : Hid (Below w1.heap.size w1 w6) := by rw [hw6]; exact hid (Ba HB5.out _)
      have HX6 : Hid (TBy w6 p (t, .slice (some ⟨b5, off5, none⟩) t.fs.length c1, .slice A3 t.ts.length c3)) := by rw [hw6]; exact hid (HX5.out.on (B1 _ _))
      have HRT : Hid (RdT w6 w6.heap.size (.agg #[.slice D1 m1 e1, .slice D2 m2 e2, .slice D3 m3 e3]) T) := by rw [hw6]; exact hid (hr7.on (B1 _ _))
      have HRF : Hid (RdF w6 w6.heap.size D2 m2 e2 T.nw) := by rw [hw6]; exact hid (hr8.on (B1 _ _))
      clear i1 i2 i3 hr7 hr8 hb5 hT hE hw6 hq e0
      go_upto_region 8 with fail
      rw [← HW6.out, ← HQ.out]
      clear y0 y1 y2 y3
      by_cases hE0 : E = 0
      · subst hE0
        have HR : Hid (chgS l nm cs = (l.set k' (moreT t T), hi + 1, 0)) := hid (by rw [HE.out, if_neg (by have := HLT.out; omega), if_neg (by rw [← HEE.out]; simp), ← HTE.out, ← HHI.out])
        obtain ⟨_, _, _, pf, ef, hpf1, hpf2⟩ := HFS.out
        cases ef
        obtain ⟨_, _, _, pt, et, hpt1, hpt2⟩ := HTS.out
        cases et
        have hpf := hpf1.on fsPB HB6.out
        have hpt := hpt1.on tbPB HB6.out
        obtain ⟨_, _, q3', q4', _⟩ := HT.out.nums
        have htl : t.ts.length ≤ 64 := by have := HT.out.2.2.2.1; omega
        have hx6 : slv (Value.slice (some ⟨b5, off5, none⟩) t.fs.length c1) ∧ slv (Value.slice A3 t.ts.length c3) := ⟨⟨_, _, _, rfl⟩, _, _, _, rfl⟩
        -- the fields of all versions, anew
        have hn7 := heap_alloc_new w6 (.cells #[] 32)
        have hb7 := B1 w6 (.cells #[] 32)
        obtain ⟨v8, w8, hr8, ho8, hg8⟩ := run_copyG Tryz.underlying57 infoFs rfl (by omega) fsLen hn7 (hpf.on fsPB hb7) (fun a ha => fsOne (hpf.2.2.2.1 a ha)) (by omega) (by omega) 57
        have hB8 : Below w6.heap.size w6 w8 := hb7.grown hg8 hb7.size (fun j e => by cases e; exact Nat.le_refl _)
        -- the tables
        have hn9 := heap_alloc_new w8 (.cells #[] 110)
        have hb9 := B1 w8 (.cells #[] 110)
        obtain ⟨v10, w10, hr10, ho10, hg10⟩ := run_copyG Tryz.underlying58 infoTb rfl (by omega) tbLen hn9 (hpt.on tbPB (hB8.trans (hb9.mono hB8.size))) (fun a ha => tbOne (hpt.2.2.2.1 a ha)) (by omega) (by omega) 58
        have hB9 : Below w6.heap.size w6 (w8.alloc (.cells #[] 110)) := hB8.trans (hb9.mono hB8.size)
        have hB10 : Below w6.heap.size w6 w10 := hB9.grown hg10 hB9.size (fun j e => by cases e; exact hB8.size)
        have ho8' : OwG 32 1 fsCel w10 w6.heap.size v8 pf := (ho8.on hb9).ty (KeepTy.grown hg10 (fun r e => by cases e; exact ⟨_, hn9⟩) (by decide))
        -- the new version's fields
        have hn11 := heap_alloc_new w10 (.cells #[.slice D2 m2 e2] 32)
        have hb11 := B1 w10 (.cells #[.slice D2 m2 e2] 32)
        obtain ⟨v12, w12, hr12, ho12, hg12⟩ := run_appGm Tryz.underlying57 infoFs rfl (by omega) fsLen (ho8'.on hb11) (m := [(T.nw, .slice D2 m2 e2)]) (fun a ha u hu => by simp at ha; subst ha; simp [fsCel] at hu; subst hu; rfl) (ad := ⟨w10.heap.size, 0, none⟩) (c := 1) (fun j u hj => by
          rw [add_plain, Nat.zero_add, row_cell hn11]
          match j, hj with | 0, h => exact h) (by have := hpf.1; simp; omega) (by omega) (Nat.le_trans hB10.size hb11.size) 57
        have hB11 : Below w6.heap.size w6 (w10.alloc (.cells #[.slice D2 m2 e2] 32)) := hB10.trans (hb11.mono hB10.size)
        have hB12 : Below w6.heap.size w6 w12 := hB11.grown hg12 hB11.size (fun j e => (ho8'.blk j e).1)
        have hX12 := HX6.out.below2 hB12
        obtain ⟨w13, hw13⟩ : ∃ w13, w13 = w12.setCell ⟨p, 2, none⟩ v12 := ⟨_, rfl⟩
        have hpw : p < w6.heap.size := row_lt HX6.out
        have hX13 : TBy w13 p (t, v12, .slice A3 t.ts.length c3) := by rw [hw13]; exact row_set hX12 2 _
        have ho12' : OwG 32 1 fsCel w13 w6.heap.size v12 (pf ++ [(T.nw, .slice D2 m2 e2)]) := by rw [hw13]; exact ho12.ty (KeepTy.set hX12 (by decide) 2 v12)
        have hs13 : w13.heap.size = w12.heap.size := by rw [hw13]; simp
        have ho10' : OwG 110 3 tbCel w13 w6.heap.size v10 pt := by
          rw [hw13]
          refine ((((ho10.less hB8.size).on hb11).ty (KeepTy.grown hg12 (fun r e => ((ho8'.on hb11).blk r e).2) (by decide))).ty (KeepTy.set hX12 (by decide) 2 v12))
        have hT13 : RdT w13 w6.heap.size (.agg #[.slice D1 m1 e1, .slice D2 m2 e2, .slice D3 m3 e3]) T := by rw [hw13]; exact (HRT.out.below hB12).tbox hX12 hx6 2 v12
        have hF13 : RdF w13 w6.heap.size D2 m2 e2 T.nw := by rw [hw13]; exact (HRF.out.below hB12).tbox hX12 hx6 2 v12
        have hq13 : TBx w13 q (.slice D1 m1 e1) (.slice D2 m2 e2) (.slice D3 m3 e3) 110 := by rw [hw13]; exact (KeepTy.set hX12 (by decide) 2 v12) q _ (HQX.out.on hB12)
        -- the table
        have hn14 := heap_alloc_new w13 (.cells #[.slice D1 m1 e1, .slice D2 m2 e2, .slice D3 m3 e3] 110)
        have hb14 := B1 w13 (.cells #[.slice D1 m1 e1, .slice D2 m2 e2, .slice D3 m3 e3] 110)
        obtain ⟨v14, w14, hr14, ho14, hg14⟩ := run_appGm Tryz.underlying58 infoTb rfl (by omega) tbLen (ho10'.on hb14) (m := [(T, .slice D1 m1 e1, .slice D2 m2 e2, .slice D3 m3 e3)]) (fun a ha u hu => by simp at ha; subst ha; simp [tbCel] at hu; rcases hu with rfl | rfl | rfl <;> rfl) (ad := ⟨w13.heap.size, 0, none⟩) (c := 1) (fun j u hj => by
          rw [add_plain, Nat.zero_add, row_cell hn14]
          match j, hj with | 0, h => exact h | 1, h => exact h | 2, h => exact h) (by have := hpt.1; simp; omega) (by omega) (Nat.le_trans (by rw [hs13]; exact hB12.size) hb14.size) 58
        obtain ⟨Av, cv, rfl⟩ := ho12'.shape
        have hx13 : slv (Value.slice Av (pf ++ [((T.nw, Value.slice D2 m2 e2) : FsP)]).length cv) ∧ slv (Value.slice A3 t.ts.length c3) := ⟨⟨_, _, _, rfl⟩, _, _, _, rfl⟩
        have hB14 : Below w6.heap.size w13 w14 := Below.grown (hb14.mono (by rw [hs13]; exact hB12.size)) hg14 (by have := hB12.size; have := hb14.size; omega) (fun j e => (ho10'.blk j e).1)
        have hX14 : TBy w14 p (t, .slice Av (pf ++ [((T.nw, Value.slice D2 m2 e2) : FsP)]).length cv, .slice A3 t.ts.length c3) := (hB14.block p hpw).trans hX13
        obtain ⟨w15, hw15⟩ : ∃ w15, w15 = w14.setCell ⟨p, 3, none⟩ v14 := ⟨_, rfl⟩
        have hs15 : w14.heap.size ≤ w15.heap.size := by rw [hw15]; simp
        have hs614 : w6.heap.size ≤ w14.heap.size := Nat.le_trans hB12.size (by rw [← hs13]; exact hB14.size)
        have hT15 : RdT w15 w15.heap.size (.agg #[.slice D1 m1 e1, .slice D2 m2 e2, .slice D3 m3 e3]) T := by
          refine RdT.more (B := w6.heap.size) ?_ (Nat.le_trans hs614 hs15)
          rw [hw15]; exact (hT13.below hB14).tbox hX14 hx13 3 v14
        have hF15 : RdF w15 w15.heap.size D2 m2 e2 T.nw := by
          refine RdF.more (B := w6.heap.size) ?_ (Nat.le_trans hs614 hs15)
          rw [hw15]; exact (hF13.below hB14).tbox hX14 hx13 3 v14
        have hwp : w1.heap.size ≤ p := by rw [HP.out]; exact Nat.le_refl _
        have hB15 : Below w1.heap.size w1 w15 := by
          have h13 : Below w1.heap.size w1 w13 := by rw [hw13]; exact (HB6.out.trans (hB12.mono HB6.out.size)).setCell (p := ⟨p, 2, none⟩) hwp _
          have h14 : Below w1.heap.size w1 w14 := h13.trans (hB14.mono HB6.out.size)
          rw [hw15]; exact h14.setCell (p := ⟨p, 3, none⟩) hwp _
        have hX15 : TBy w15 p (t, .slice Av (pf ++ [((T.nw, Value.slice D2 m2 e2) : FsP)]).length cv, v14) := by rw [hw15]; exact row_set hX14 3 _
        have hof : OwG 32 1 fsCel w15 w6.heap.size (.slice Av (pf ++ [((T.nw, Value.slice D2 m2 e2) : FsP)]).length cv) (pf ++ [(T.nw, .slice D2 m2 e2)]) := by
          rw [hw15]
          exact ((ho12'.on hb14).ty (KeepTy.grown hg14 (fun r e => ((ho10'.on hb14).blk r e).2) (by decide))).ty (KeepTy.set hX14 (by decide) 3 v14)
        have hot : OwG 110 3 tbCel w15 w6.heap.size v14 (pt ++ [(T, .slice D1 m1 e1, .slice D2 m2 e2, .slice D3 m3 e3)]) := by
          rw [hw15]; exact ho14.ty (KeepTy.set hX14 (by decide) 3 v14)
        obtain ⟨_, _, ef, hrf⟩ := hof.rd (P := fsP) fsLen (fun a ha => by
          rcases List.mem_append.1 ha with ha | ha
          · exact fsPB.on (hpf1.2.2.2.1 a ha) hB15
          · simp at ha; subst ha; exact ⟨_, _, _, rfl, hF15⟩)
        cases ef
        obtain ⟨At, ct, et, hrt⟩ := hot.rd (P := tbP) tbLen (fun a ha => by
          rcases List.mem_append.1 ha with ha | ha
          · exact tbPB.on (hpt1.2.2.2.1 a ha) hB15
          · simp at ha; subst ha; exact hT15)
        subst et
        have hmf : (pf ++ [((T.nw, Value.slice D2 m2 e2) : FsP)]).map Prod.fst = (moreT t T).fs := by rw [List.map_append, hpf2]; rfl
        have hmt : (pt ++ [((T, .slice D1 m1 e1, .slice D2 m2 e2, .slice D3 m3 e3) : TbP)]).map Prod.fst = (moreT t T).ts := by rw [List.map_append, hpt2]; rfl
        have HFL : Hid (FsL w15 w15.heap.size (.slice Av (pf ++ [((T.nw, Value.slice D2 m2 e2) : FsP)]).length cv) (moreT t T).fs) := hid ⟨_, _, _, _, rfl, hrf, hmf⟩
        have HTL : Hid (TsL w15 w15.heap.size (.slice At (pt ++ [((T, .slice D1 m1 e1, .slice D2 m2 e2, .slice D3 m3 e3) : TbP)]).length ct) (moreT t T).ts) := hid ⟨_, _, _, _, rfl, hrt, hmt⟩
        have HLF : Hid ((pf ++ [((T.nw, Value.slice D2 m2 e2) : FsP)]).length = t.fs.length + 1) := hid (by have := congrArg List.length hmf; rw [List.length_map] at this; rw [this]; simp [moreT])
        obtain ⟨A8, c8, rfl⟩ := ho8.shape
        obtain ⟨A10, c10, rfl⟩ := ho10.shape
        have e8 : pf.length = t.fs.length := hpf1.1
        have e10 : pt.length = t.ts.length := hpt1.1
        rw [e8] at hr8 hr12
        rw [e10] at hr10 hr14
        dsimp only [List.length_cons, List.length_nil, Nat.zero_add] at hr12 hr14
        have HRUN8 := hid hr8; have HRUN10 := hid hr10; have HRUN12 := hid hr12; have HRUN14 := hid hr14
        have HW13 := hid hw13; have HW15 := hid hw15
        have HX15 := hid hX15; have HB15 := hid hB15
        have en1 : (pf ++ [((T.nw, Value.slice D2 m2 e2) : FsP)]).length = t.fs.length + 1 := by rw [List.length_append, e8]; rfl
        have en2 : (pt ++ [((T, .slice D1 m1 e1, .slice D2 m2 e2, .slice D3 m3 e3) : TbP)]).length = t.ts.length + 1 := by rw [List.length_append, e10]; rfl
        rw [en1] at HRUN12 HW13 HX15 HFL
        rw [en2] at HRUN14 HW15 HX15 HTL
        obtain ⟨f0, f1, f2, f3⟩ := HX6.out.cells
        obtain ⟨f4, f5, f6, f7⟩ := (HX6.out.on hB8).cells
        have hp6 := hpw
        have hp8 : p < w8.heap.size := Nat.lt_of_lt_of_le hpw hB8.size
        have z1 := (HQX.out.on hB10).cells.2.1
        have x2 := hX12.cells.2.2.1
        have r2 := row_frozen hX12 2
        obtain ⟨z3, z4, z5⟩ := hq13.cells
        have x3 := hX14.cells.2.2.2
        have r3 := row_frozen hX14 3
        dsimp only at f0 f1 f2 f3 f4 f5 f6 f7 x2 x3
        clear hpf1 hpf2 hpt1 hpt2 hpf hpt hx6 hn7 hb7 hr8 ho8 hg8 hB8 hn9 hb9 hr10 ho10 hg10 hB9 hB10 ho8' hn11 hb11 hr12 ho12 hg12 hB11 hB12 hX12 hpw hX13 ho12' hs13 ho10' hT13 hF13 hq13 hn14 hb14 hr14 ho14 hg14 hx13 hB14 hX14 hs15 hs614 hT15 hF15 hwp hB15 hX15 hof hot hrf hrt hmf hmt hw13 hw15 e8 e10 htl q3' q4' en1 en2
        go_upto_region 13 with (at_builtin; first | refine wpList_appG rfl _ _ rfl rfl rfl HRUN8.out ?_ | refine wpList_appG rfl _ _ rfl rfl rfl HRUN10.out ?_ | refine wpList_appG rfl _ _ rfl rfl rfl HRUN12.out ?_)
        rw [← HW13.out]
        go_upto_region 14 with (at_builtin; refine wpList_appG rfl _ _ rfl rfl rfl HRUN14.out ?_)
        rw [← HW15.out]
        clear f0 f1 f2 f3 f4 f5 f6 f7 hp6 hp8 z1 x2 r2 z3 z4 z5 x3 r3
        have HNW : Hid (t.lo + ((t.fs.length + 1 : Nat) : Int) - 1 = hi + 1) := hid (by rw [HHI.out]; unfold Ty.hi; omega)
        have HLO : Hid (0 ≤ t.lo ∧ t.lo ≤ 1000) := hid ⟨by omega, by omega⟩
        refine reg_begin (by kernel_rfl) (fun w0a hx0a hHeld => ?_)
        have xa : ∀ w', Ext w0a w' → TBy w' p (t, .slice Av (t.fs.length + 1) cv, .slice At (t.ts.length + 1) ct) := fun w' h => (HX15.out.on (Bt (B0 _) hx0a)).on h
        have xl := fun w' (h : Ext w0a w') => run_loadTy (xa w' h)
        have xb0 : ∀ w', Ext w0a w' → w'.cell? ⟨p, 0, none⟩ = some (.string (bs t.nm)) := fun w' h => (xa w' h).cells.1
        have xb1 : ∀ w', Ext w0a w' → w'.cell? ⟨p, 1, none⟩ = some (.int .i64 t.lo) := fun w' h => (xa w' h).cells.2.1
        have xb2 : ∀ w', Ext w0a w' → w'.cell? ⟨p, 2, none⟩ = some (.slice Av (t.fs.length + 1) cv) := fun w' h => (xa w' h).cells.2.2.1
        have xb3 : ∀ w', Ext w0a w' → w'.cell? ⟨p, 3, none⟩ = some (.slice At (t.ts.length + 1) ct) := fun w' h => (xa w' h).cells.2.2.2
        dsimp only at xl
        clear xa
        refine reg_take 0 (v := ?vb0) at0 (by kernel_rfl) (by kernel_rfl) (by kernel_rfl) (by rfl) ?hyb0 hHeld ?restb0
        case hyb0 => (intro w' hSw; go_simp; try with_reducible rfl)
        try simp only [Act.put, List.setIfInBounds_toArray, List.set_cons_zero, List.set_cons_succ]
        refine reg_take 1 (v := ?vb1) (atS at0) (by kernel_rfl) (by kernel_rfl) (by kernel_rfl) (by rfl) ?hyb1 hHeld ?restb1
        case hyb1 => (intro w' hSw; go_simp; try with_reducible rfl)
        try simp only [Act.put, List.setIfInBounds_toArray, List.set_cons_zero, List.set_cons_succ]
        refine reg_take 2 (v := ?vb2) (atS (atS at0)) (by kernel_rfl) (by kernel_rfl) (by kernel_rfl) (by rfl) ?hyb2 hHeld ?restb2
        case hyb2 => (intro w' hSw; go_simp; try with_reducible rfl)
        try simp only [Act.put, List.setIfInBounds_toArray, List.set_cons_zero, List.set_cons_succ]
        refine reg_take 4 (v := ?vb4) (atS (atS (atS (atS at0)))) (by kernel_rfl) (by kernel_rfl) (by kernel_rfl) (by rfl) ?hyb4 hHeld ?restb4
        case hyb4 => (intro w' hSw; go_simp; try with_reducible rfl)
        try simp only [Act.put, List.setIfInBounds_toArray, List.set_cons_zero, List.set_cons_succ]
        refine wpAnyH_ready (rs := [3]) (by kernel_rfl) (by simp) ?_
        refine AllReadyH.cons (atS (atS (atS at0))) (fun K hK => ?_) AllReadyH.nil
        go_simp
        refine (r9with_any (H1.out.on (Bt HB15.out (Bt (B0 _) hx0a))) (by omega) (k := k') hkn (t := moreT t T) (HFL.out.on (Bt (B0 _) hx0a)) (HTL.out.on (Bt (B0 _) hx0a))).mono ?_
        rintro e w16 ⟨A16, n16, c16, rfl, hd16, hb16⟩
        go_wp2_with fail
        refine hK.out _ _ hb16 (fun hHeld => ?_)
        clear hK K
        try simp only [Act.put, List.setIfInBounds_toArray, List.set_cons_zero, List.set_cons_succ]
        refine reg_on hb16 (fun hHeld => ?_)
        refine wpAnyH_ready (rs := [5]) (by kernel_rfl) (by simp) ?_
        refine AllReadyH.cons (atS5 at0) (fun K hK => ?_) AllReadyH.nil
        go_simp
        refine (r9newest_any t.nm HLO.out (by omega)).mono ?_
        rintro e w17 ⟨rfl, hb17⟩
        rw [HNW.out]
        go_wp2_with fail
        refine hK.out _ _ hb17 (fun hHeld => ?_)
        clear hK K
        try simp only [Act.put, List.setIfInBounds_toArray, List.set_cons_zero, List.set_cons_succ]
        refine reg_on hb17 (fun hHeld => ?_)
        refine reg_take 6 (v := ?vb6) (atS5 (atS at0)) (by kernel_rfl) (by kernel_rfl) (by kernel_rfl) (by rfl) ?hyb6 hHeld ?restb6
        case hyb6 => (intro w' hSw; go_simp; try with_reducible rfl)
        try simp only [Act.put, List.setIfInBounds_toArray, List.set_cons_zero, List.set_cons_succ]
        refine reg_take 7 (v := ?vb7) (atS5 (atS (atS at0))) (by kernel_rfl) (by kernel_rfl) (by kernel_rfl) (by rfl) ?hyb7 hHeld ?restb7
        case hyb7 => (intro w' hSw; go_simp; try with_reducible rfl)
        try simp only [Act.put, List.setIfInBounds_toArray, List.set_cons_zero, List.set_cons_succ]
        refine reg_take 8 (v := ?vb8) (atS5 (atS (atS (atS at0)))) (by kernel_rfl) (by kernel_rfl) (by kernel_rfl) (by rfl) ?hyb8 hHeld ?restb8
        case hyb8 => (intro w' hSw; go_simp; try with_reducible rfl)
        try simp only [Act.put, List.setIfInBounds_toArray, List.set_cons_zero, List.set_cons_succ]
        refine wpAnyH_done (by kernel_rfl) ?_ _
        refine NoPanic.normal ?_
        have HD := hid (hd16.on hb17)
        have HBZ : Hid (Below w.heap.size w w17) := hid (Bt HB1.out (Bt HB15.out (Bt (Bt (B0 _) hx0a) (Bt hb16 hb17))))
        clear xl xb0 xb1 xb2 xb3 hd16 hb16 hb17
        go_wp2_with fail
        go_ret3
        rw [HR.out]
        exact ⟨_, _, _, rfl, HD.out, HBZ.out⟩
      · have t2 : (E != 0) = true := by simpa using hE0
        have HR : Hid (chgS l nm cs = (l, 0, E)) := hid (by rw [HE.out, if_neg (by have := HLT.out; omega), if_pos (by rw [← HEE.out]; exact hE0), ← HEE.out])
        clear hE0
        go_wp2_with fail
        go_ret3
        rw [HR.out]
        exact ⟨_, _, _, rfl, H1.out.on HB6.out, Bt HB1.out HB6.out⟩
end Go.Proofs.YtaegencmnmjgbaaGreat
