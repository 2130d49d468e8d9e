/-
  A catalogue one of whose types has turned; Define.
  The document's Fields and Define of layer 9.
-/
import Derived.Test.YtaegencmnmjgbaaGreatM51
import Derived.Test.YtaegencmnmjgbaaGreatM21
import Derived.Test.YtaegencmnmjgbaaGreatM50

namespace Go.Proofs.YtaegencmnmjgbaaGreat
open Go.RowKit Go.Maps
set_option linter.unusedVariables false
set_option linter.unusedSimpArgs false
theorem gbB {w w' : World} (h : Below w.heap.size w w') (r : Option Nat) : w.grownBy w' r := ⟨h.os, h.tape, h.output, h.size, fun k hk _ => h.block k hk⟩
theorem FrG.grown {w w' : World} {b0 : Nat} (h : w.grownBy w' (some b0)) (hs : TuB w b0) : FrG (fun b => b = b0) w w' := ⟨h.os, h.tape, h.output, h.size, fun b hb hn => h.block b hb (fun e => hn (by cases e; rfl)), fun b e => by rw [e]; exact hs⟩
theorem FrG.mono {G G' : Nat → Prop} {w w' : World} (h : FrG G w w') (hg : ∀ b, G b → G' b) (hs : ∀ b, G' b → TuB w b) : FrG G' w w' := ⟨h.os, h.tape, h.output, h.size, fun b hb hn => h.blk b hb (fun e => hn (hg b e)), hs⟩
theorem bH {r : Option Nat} {w w' : World} (h : ExO r w w') (e : w'.heap = w.heap) : Below w.heap.size w w' := ⟨h.os, h.tape, h.output, h.size, fun k _ => by rw [e]⟩
theorem Cat.ne {w : World} {c mb n B : Nat} {r : List UInt8 → Pl} {l : List Ty} (h : Cat w c mb n B r l) : c ≠ mb := fun e => by
  obtain ⟨es, cl, hb⟩ := h.mp.isMap
  have := h.box
  rw [e, hb] at this; cases this
def CatQ (w : World) (c mb n B : Nat) (r : List UInt8 → Pl) (l l' : List Ty) (w' : World) : Prop :=
  ∃ r', Cat w' c mb (n + 1) B r' l' ∧ FrG (catG mb r l) w w' ∧ ∀ b, catG mb r' l' b → catG mb r l b ∨ w.heap.size ≤ b
section
variable {w w' : World} {c mb n B : Nat} {r : List UInt8 → Pl} {l l' : List Ty}
theorem Cat.more (h : Cat w c mb n B r l) {m : Nat} (hm : n ≤ m) : Cat w c mb m B r l := ⟨h.ok, h.box, h.mp.mono hm, h.lo, h.ver, h.inj⟩
theorem CatQ.same (h : Cat w c mb n B r l) (hb : Below w.heap.size w w') : CatQ w c mb n B r l l w' := ⟨r, (h.on hb).more (Nat.le_succ n), FrG.below hb h.sl, fun b hb => .inl hb⟩
theorem CatQ.below (h : Cat w c mb n B r l) (hB : B ≤ w.heap.size) (hq : CatQ w c mb n B r l l' w') : Below B w w' := by obtain ⟨r', _, hf, _⟩ := hq; exact hf.base h.base hB
theorem Ver.fr {G : Nat → Prop} {p : Pl} {t : Ty} (h : Ver w p t) (hf : FrG G w w') (hn : ¬ G p.g) : Ver w' p t := ⟨h.row.cong (hf.blk _ h.row.lt hn), h.len, fun i q T h1 h2 => (h.rd i q T h1 h2).fr hf⟩
theorem CatQ.lt (h : Cat w c mb n B r l) : B ≤ w.heap.size := Nat.le_trans h.lo.2 (Nat.le_of_lt (row_lt h.box))
theorem Cat.store {nm : List UInt8} {t' : Ty} {p : Pl} (h : Cat w c mb n B r l) (hf : FrG (fun b => b = mb ∨ ∃ t0 ∈ l, t0.nm = nm ∧ b = (r nm).g) w w')
    (hm : Ms w' mb (n + 1) (updS (catF l r) nm (hV t'.lo (some ⟨p.g, 0, none⟩) (t'.ts.length + 1) p.cap))) (hok : okC l') (hat : ∀ k, atT l' k = if nm = k then some t' else atT l k)
    (hmem : ∀ t ∈ l', t = t' ∨ (t ∈ l ∧ t.nm ≠ nm)) (ht : t'.nm = nm) (hv : Ver w' p t') (hp : w.heap.size ≤ p.g ∨ ∃ t0 ∈ l, t0.nm = nm ∧ p.g = (r nm).g) : CatQ w c mb n B r l l' w' := by
  have hgm : ∀ t ∈ l, (r t.nm).g ≠ mb := fun t ht e => by
    obtain ⟨es, cl, hb⟩ := h.mp.isMap
    obtain ⟨_, _, cur, hg, _⟩ := (h.ver t ht).1.row
    rw [e, hb] at hg; cases hg
  have hno : ∀ t ∈ l, t.nm ≠ nm → ¬ ((r t.nm).g = mb ∨ ∃ t0 ∈ l, t0.nm = nm ∧ (r t.nm).g = (r nm).g) := fun t ht hne => by
    rintro (e | ⟨t0, h0, e0, e⟩)
    · exact hgm t ht e
    · rw [← e0] at e; exact hne ((h.inj t ht t0 h0 e).trans e0)
  have hfresh : ∀ t ∈ l, t.nm ≠ nm → p.g ≠ (r t.nm).g := fun t ht hne e => by
    rcases hp with hp | ⟨t0, h0, e0, e1⟩
    · have := (h.ver t ht).1.row.lt; omega
    · exact hno t ht hne (.inr ⟨t0, h0, e0, by rw [← e, e1]⟩)
  have hpb : B ≤ p.g := by
    rcases hp with hp | ⟨t0, h0, e0, e1⟩
    · exact Nat.le_trans (CatQ.lt h) hp
    · rw [e1, ← e0]; exact (h.ver t0 h0).2
  have hsub : ∀ b, (b = mb ∨ ∃ t0 ∈ l, t0.nm = nm ∧ b = (r nm).g) → catG mb r l b := fun b hb => by
    rcases hb with hb | ⟨t0, h0, e0, e⟩
    · exact .inl hb
    · exact .inr ⟨t0, h0, by rw [e, e0]⟩
  have e1 : ∀ k, (fun k => if k = nm then p else r k) k = if k = nm then p else r k := fun _ => rfl
  refine ⟨fun k => if k = nm then p else r k, ⟨hok, ?_, hm.ext fun k => ?_, h.lo, fun t htl => ?_, fun t htl u hul e => ?_⟩, hf.mono hsub h.sl, fun b hb => ?_⟩
  · exact (hf.cellB (i := 0) (row_cell h.box 0) (fun ⟨_, _, _, e⟩ => by cases e)).trans h.box
  · unfold updS catF
    rw [hat k]
    by_cases e : k = nm
    · rw [if_pos e, if_pos e.symm]
      show _ = (some t').map _
      simp only [Option.map_some, if_pos e]
    · rw [if_neg e, if_neg (fun x => e x.symm)]
      simp only [if_neg e]
  · rcases hmem t htl with rfl | ⟨h1, h2⟩
    · simp only [if_pos ht]; exact ⟨hv, hpb⟩
    · simp only [if_neg h2]; exact ⟨(h.ver t h1).1.fr hf (hno t h1 h2), (h.ver t h1).2⟩
  · rcases hmem t htl with rfl | ⟨h1, h2⟩
    · rcases hmem u hul with rfl | ⟨k1, k2⟩
      · rfl
      · simp only [if_pos ht, if_neg k2] at e; exact absurd e (hfresh u k1 k2)
    · rcases hmem u hul with rfl | ⟨k1, k2⟩
      · simp only [if_pos ht, if_neg h2] at e; exact absurd e.symm (hfresh t h1 h2)
      · simp only [if_neg h2, if_neg k2] at e; exact h.inj t h1 u k1 e
  · rcases hb with hb | ⟨t, htl, e⟩
    · exact .inl (.inl hb)
    · rcases hmem t htl with rfl | ⟨h1, h2⟩
      · simp only [if_pos ht] at e
        rcases hp with hp | ⟨t0, h0, e0, e1⟩
        · exact .inr (by omega)
        · exact .inl (.inr ⟨t0, h0, by rw [e, e1, e0]⟩)
      · simp only [if_neg h2] at e; exact .inl (.inr ⟨t, h1, e⟩)
end
theorem step_storeMS {w w' : World} {o : Oper} {a : Act} {K : Act → World → Prop} {Q : Exit → Act → World → Prop} {y : Nat → Option Bool} {t : TypeId} {vm vx vv : Value} (hgd : o.guard = none) (m x v : Operand)
    (hop : o.op = .mapUpdate t m x v) (hm : a.eval m = vm) (hx : a.eval x = vx) (hv : a.eval v = vv)
    (hrun : (Instr.mapUpdate t vm vx vv).run Tryz.prog w = .ok () w') (hk : K (a.put o.dst undef) w') :
    if Region.wanted o y = true then Oper.wp Tryz.prog o a w K Q else K (a.put o.dst undef) w := by
  simp only [Region.wanted, hgd, if_true]
  unfold Oper.wp
  simp [execOp, hop, hm, hx, hv, hrun, Result.andThen]
  exact hk
theorem Ver.one {w : World} {g : Nat} {A : Option Addr} {n c : Nat} {f : List Fd} (nm : List UInt8) (lo : Int) (h : TRow w g 1 [(.slice none 0 0, .slice A n c, .slice none 0 0)]) (hr : RdF w w.heap.size A n c f) : Ver w ⟨g, 1, [(.slice none 0 0, .slice A n c, .slice none 0 0)]⟩ ⟨nm, lo, [f], []⟩ :=
  ⟨h, rfl, fun i q T h1 h2 => by
    cases i with
    | zero =>
      simp [verL] at h1 h2
      subst h1; subst h2
      exact ⟨_, _, _, _, _, _, _, _, _, rfl, RdF.nil _ _, hr, RdM.nil _ _⟩
    | succ i => simp at h1⟩
set_option maxRecDepth 20000 in
set_option maxHeartbeats 8000000 in
theorem define_any {w : World} {c mb n B : Nat} {r : List UInt8 → Pl} {l : List Ty} (h : Cat w c mb n B r l) (hn : n ≤ 1000000) (nm : List UInt8) (hnm : nm.length ≤ 140737488351232) {A : Option Addr} {m cp : Nat} {f : List Fd} (hf : RdF w w.heap.size A m cp f) :
    Calls Tryz.prog 28 #[.pointer (some ⟨c, 0, none⟩), .string (bs nm), .slice A m cp] w fun e w' => e = .returned (.int .i64 (defS l nm f).2) ∧ CatQ w c mb n B r l (defS l nm f).1 w' := by
  have H := hid h; have HF := hid hf; have HSH : Hid (short f) := hid (fun x hx => (hf.2.2.2.1 x hx).2.2)
  have HNM := hid hnm; have HNN := hid hn
  have HK : Hid (SK nm) := hid (by unfold SK maxLen; omega)
  clear h hf hnm hn
  go_enter Tryz.func28, Tryz.ntmps28
  go_wp2_with fail
  refine (p6name_any nm HNM.out).mono ?_
  rintro e w1 ⟨rfl, hb1⟩
  have HB1 := hid hb1
  clear hb1
  cases h1 : nameB nm with
  | false =>
    have HE : Hid (defS l nm f = (l, 60)) := hid (by unfold defS; rw [if_neg (by rw [h1]; simp)])
    go_wp2_with fail
    go_ret
    exact ⟨by rw [HE.out]; rfl, by rw [HE.out]; exact CatQ.same H.out HB1.out⟩
  | true =>
    have HN1 := hid h1
    clear h1
    go_wp2_with fail
    refine (p6right_any (HF.out.on HB1.out) HSH.out).mono ?_
    rintro e w2 ⟨rfl, hb2⟩
    have HB2 := hid (Bt HB1.out hb2)
    clear hb2
    cases h2 : rightL f with
    | false =>
      have HE : Hid (defS l nm f = (l, 60)) := hid (by unfold defS; rw [if_neg (by rw [h2]; simp)])
      go_wp2_with fail
      go_ret
      exact ⟨by rw [HE.out]; rfl, by rw [HE.out]; exact CatQ.same H.out HB2.out⟩
    | true =>
      have HN2 := hid h2
      clear h2
      go_wp2_with fail
      refine (has_any (H.out.on HB2.out) nm HK.out).mono ?_
      rintro e w3 ⟨rfl, hb3⟩
      have HB3 := hid (Bt HB2.out hb3)
      have HC3 := hid (H.out.on HB3.out)
      clear hb3
      cases h3 : atT l nm with
      | some t =>
        have HE : Hid (defS l nm f = (l, 91)) := hid (by
          unfold defS
          rw [if_pos ⟨HN1.out, HN2.out⟩, if_pos (.inl (fun e => by rw [findT_none.1 e] at h3; cases h3))])
        clear h3
        go_wp2_with fail
        go_ret
        exact ⟨by rw [HE.out]; rfl, by rw [HE.out]; exact CatQ.same H.out HB3.out⟩
      | none =>
        have HAT := hid h3
        clear h3
        obtain ⟨D, hD, hk⟩ := HC3.out.mp.keys
        have hsz := (hk (l.map Ty.nm) (rise_nodup HC3.out.ok.1) (fun x => by rw [← atT_isSome]; unfold catF; cases atT l x <;> rfl)).2
        rw [List.length_map] at hsz
        have hlen := fun ty => hD.len Tryz.underlying84 ty
        rw [hsz] at hlen
        have c0 : w3.cell? ⟨c, 0, none⟩ = some (.map (some mb)) := row_cell HC3.out.box 0
        have h16 := HC3.out.ok.2.1
        clear hD hk hsz
        by_cases hL : l.length = 16
        · have t1 : ((l.length : Int) == 16) = true := by simp; omega
          have HE : Hid (defS l nm f = (l, 91)) := hid (by
            unfold defS
            rw [if_pos ⟨HN1.out, HN2.out⟩, if_pos (.inr (by omega))])
          clear hL
          go_wp2_with fail
          go_ret
          exact ⟨by rw [HE.out]; rfl, by rw [HE.out]; exact CatQ.same H.out HB3.out⟩
        · have t1 : ((l.length : Int) == 16) = false := by simp; omega
          have HE : Hid (defS l nm f = (putT l ⟨nm, 1, [f], []⟩, 0)) := hid (by
            unfold defS
            rw [if_pos ⟨HN1.out, HN2.out⟩, if_neg (by
              rintro (e | e)
              · exact e (findT_none.2 HAT.out)
              · omega)])
          clear hL
          have HCM : Hid (c < w3.heap.size ∧ c ≠ mb) := hid ⟨row_lt HC3.out.box, HC3.out.ne⟩
          go_upto_region 5 with fail
          clear c0 hlen h16
          refine reg_beginO (some mb) (by kernel_rfl) (fun w0a hh0a hx0a hHeld => ?_)
          have HB0a := hid (bH hx0a hh0a.out)
          have HC0a := hid (HC3.out.on HB0a.out)
          have hcx : ∀ w', ExO (some mb) w0a w' → w'.cell? ⟨c, 0, none⟩ = some (.map (some mb)) := fun w' hx => row_cell ((hx.block c (row_lt HC0a.out.box) (by have := HCM.out.2; simp; exact this)).trans HC0a.out.box) 0
          refine reg_takeO 0 (v := ?vb0) at0 (by kernel_rfl) (by kernel_rfl) (by kernel_rfl) (by rfl) ?hyb0 hHeld ?restb0
          case hyb0 => (intro w' hSw; go_simp; try with_reducible rfl)
          try simp only [Act.put, List.setIfInBounds_toArray, List.set_cons_zero, List.set_cons_succ]
          refine reg_takeO 1 (v := ?vb1) (atS at0) (by kernel_rfl) (by kernel_rfl) (by kernel_rfl) (by rfl) ?hyb1 hHeld ?restb1
          case hyb1 => (intro w' hSw; go_simp; try with_reducible rfl)
          try simp only [Act.put, List.setIfInBounds_toArray, List.set_cons_zero, List.set_cons_succ]
          refine reg_takeO 2 (v := ?vb2) (atS (atS at0)) (by kernel_rfl) (by kernel_rfl) (by kernel_rfl) (by rfl) ?hyb2 hHeld ?restb2
          case hyb2 => (intro w' hSw; go_simp; try with_reducible rfl)
          try simp only [Act.put, List.setIfInBounds_toArray, List.set_cons_zero, List.set_cons_succ]
          refine reg_takeO 3 (v := ?vb3) (atS (atS (atS at0))) (by kernel_rfl) (by kernel_rfl) (by kernel_rfl) (by rfl) ?hyb3 hHeld ?restb3
          case hyb3 => (intro w' hSw; go_simp; try with_reducible rfl)
          try simp only [Act.put, List.setIfInBounds_toArray, List.set_cons_zero, List.set_cons_succ]
          refine reg_takeO 4 (v := ?vb4) (atS (atS (atS (atS at0)))) (by kernel_rfl) (by kernel_rfl) (by kernel_rfl) (by rfl) ?hyb4 hHeld ?restb4
          case hyb4 => (intro w' hSw; go_simp; try with_reducible rfl)
          try simp only [Act.put, List.setIfInBounds_toArray, List.set_cons_zero, List.set_cons_succ]
          refine reg_takeO 5 (v := ?vb5) (atS5 at0) (by kernel_rfl) (by kernel_rfl) (by kernel_rfl) (by rfl) ?hyb5 hHeld ?restb5
          case hyb5 => (intro w' hSw; go_simp; try with_reducible rfl)
          try simp only [Act.put, List.setIfInBounds_toArray, List.set_cons_zero, List.set_cons_succ]
          refine wpAnyH_ready (rs := [6]) (by kernel_rfl) (by simp) ?_
          refine AllReadyH.cons (atS5 (atS at0)) (fun K hK => ?_) AllReadyH.nil
          go_simp
          refine (fclone_any (HF.out.on (Bt HB3.out HB0a.out)) (by have := right_len HN2.out; have := HF.out.1; omega)).mono ?_
          rintro e w4 ⟨v4, rfl, ho4, hb4⟩
          obtain ⟨A4, c4, rfl, hr4⟩ := ho4.rd HF.out.2.2.2.1
          go_wp2_with fail
          refine hK.out _ _ (gbB hb4 _) (fun hHeld => ?_)
          clear hK K
          try simp only [Act.put, List.setIfInBounds_toArray, List.set_cons_zero, List.set_cons_succ]
          refine reg_onO (gbB hb4 _) (fun hHeld => ?_)
          refine wpAnyH_ready (rs := [7]) (by kernel_rfl) (by simp) ?_
          refine AllReadyH.cons (atS5 (atS (atS at0))) (fun K hK => ?_) AllReadyH.nil
          go_simp
          refine (begin_any 1 A4 _ c4).mono ?_
          rintro e w5 ⟨g5, rfl, hg5, hrow5, hb5⟩
          go_wp2_with fail
          refine hK.out _ _ (gbB hb5 _) (fun hHeld => ?_)
          clear hK K
          try simp only [Act.put, List.setIfInBounds_toArray, List.set_cons_zero, List.set_cons_succ]
          refine reg_onO (gbB hb5 _) (fun hHeld => ?_)
          have HC5 := hid (HC0a.out.on (Bt hb4 hb5))
          obtain ⟨w6, hrun6, hm6, ht6⟩ := HC5.out.mp.store Tryz.underlying84 (by have := HNN.out; unfold maxLen; omega) HK.out (hV 1 (some ⟨g5, 0, none⟩) 1 1)
          have hg6 : ExO (some mb) w5 w6 := ht6.grown
          refine wpAnyH_ready (rs := [8]) (by kernel_rfl) (by simp) ?_
          refine AllReadyH.cons (atS5 (atS (atS (atS at0)))) (fun K hK => ?_) AllReadyH.nil
          refine step_storeMS (by rfl) (.tmp 29) (.tmp 30) (.tmp 33) (by rfl) (by rfl) (by rfl) (by rfl) hrun6 ?_
          refine hK.out _ _ hg6 (fun hHeld => ?_)
          clear hK K
          try simp only [Act.put]
          refine wpAnyH_done (by kernel_rfl) ?_ _
          refine NoPanic.normal ?_
          have HB5 : Hid (Below w.heap.size w w5) := hid (Bt HB3.out (Bt HB0a.out (Bt hb4 hb5)))
          have HQ : Hid (CatQ w c mb n B r l (putT l ⟨nm, 1, [f], []⟩) w6) := hid (by
            have hno := atT_none HAT.out
            have hf6 : FrG (fun b => b = mb) w5 w6 := FrG.grown hg6 (.inr HC5.out.mp.isMap)
            have hok := defS_ok H.out.ok nm f
            rw [HE.out] at hok
            refine Cat.store (nm := nm) (t' := ⟨nm, 1, [f], []⟩) (p := ⟨g5, 1, [(.slice none 0 0, .slice A4 f.length c4, .slice none 0 0)]⟩) H.out ?_ hm6 hok (fun k => put_at H.out.ok.1 hno k) (fun t ht => ?_) rfl ?_ (.inl ?_)
            · exact (FrG.below HB5.out (fun b hb => by rcases hb with rfl | ⟨t0, h0, e0, _⟩; exact .inr H.out.mp.isMap; exact absurd e0 (hno t0 h0))).trans (hf6.mono (fun b e => .inl e) (fun b hb => by rcases hb with rfl | ⟨t0, h0, e0, _⟩; exact .inr HC5.out.mp.isMap; exact absurd e0 (hno t0 h0))) (fun b hb => .inl hb)
            · rcases put_mem.1 ht with rfl | ht
              · exact .inl rfl
              · exact .inr ⟨ht, hno t ht⟩
            · refine Ver.fr (Ver.one nm 1 hrow5 (hr4.on hb5)) hf6 (fun e => ?_)
              have e' : g5 = mb := e
              have := HC0a.out.mp.lt
              have := hb4.size
              omega
            · show w.heap.size ≤ g5
              have := (Bt HB3.out (Bt HB0a.out hb4)).size
              omega)
          go_wp2_with fail
          go_ret
          exact ⟨by rw [HE.out]; rfl, by rw [HE.out]; exact HQ.out⟩
end Go.Proofs.YtaegencmnmjgbaaGreat

namespace Go.Proofs.YtaegencmnmjgbaaGreat
open Go.RowKit Go.Maps
set_option linter.unusedVariables false
set_option linter.unusedSimpArgs false
theorem okTy.nums {t : Ty} (h : okTy t) : 1 ≤ t.lo ∧ t.lo ≤ 64 ∧ t.fs.length ≤ 64 ∧ 1 ≤ t.fs.length ∧ t.hi = t.lo + (t.fs.length : Int) - 1 := by
  obtain ⟨_, h1, h2, h3, _⟩ := h
  unfold Ty.hi at h2 ⊢
  omega
set_option maxRecDepth 20000 in
set_option maxHeartbeats 8000000 in
theorem r9fields_any {w : World} {A : Option Addr} {n c : Nat} {l : List Ty} (h : DocL w w.heap.size A n c l) (hok : okC l) (nm : List UInt8) (v : Int) :
    Calls Tryz.prog 48 #[.slice A n c, .string (bs nm), .int .i64 v] w (FieldsQ w (atT l nm) v) := by
  have hn : n ≤ 16 := by rw [← h.len]; exact hok.2.1
  have H := hid h; have HOK := hid hok
  clear h hok
  go_enter Tryz.func48, Tryz.ntmps48
  go_wp2_with fail
  refine (r9find_any H.out (by omega) nm).mono ?_
  rintro e w1 ⟨rfl, hb1⟩
  have HB1 := hid hb1
  have H1 := hid (H.out.on hb1)
  clear hb1
  cases hf : findT l nm with
  | none =>
    rw [findR_none hf]
    have HA := hid (findT_none.1 hf)
    clear hf
    go_wp2_with fail
    go_ret2
    rw [HA.out]
    exact ⟨_, _, _, rfl, RdF.nil _ _, HB1.out⟩
  | some k =>
    obtain ⟨t, h1, h2, h3⟩ := findT_at hf
    rw [findR_some hf]
    have HA := hid h3
    have HT := hid (HOK.out.2.2 t (List.mem_of_getElem? h1))
    obtain ⟨hkn, b, off, v1, v2, rfl, hfs, hts, hc⟩ := H1.out.at h1
    obtain ⟨A1, n1, c1, rfl, hl1, hc1, hm1, hg⟩ := hfs.at
    obtain ⟨A2, n2, c2, _, rfl, _⟩ := hts
    obtain ⟨c0, cc1, cc2, cc3⟩ := hc w1 (B0 _)
    have HC := hid hc; have HG := hid hg
    obtain ⟨q1, q2, q3, q4, q5⟩ := HT.out.nums
    rw [hl1] at q3 q4 q5
    have HFT : Hid (fieldsT (atT l nm) v = if v < t.lo ∨ t.hi < v then ([], 90) else ((t.fs[(v - t.lo).toNat]?).getD [], 0)) := hid (by rw [h3]; rfl)
    have HHI := hid q5
    obtain ⟨lo, hlo⟩ : ∃ lo, lo = t.lo := ⟨_, rfl⟩
    rw [← hlo] at q1 q2 cc1 HHI
    have HLO := hid hlo
    have hki : (k : Int) < n := by omega
    have hk0 : (0 : Int) ≤ k := by omega
    have t0 : decide ((k : Int) < 0) = false := decide_eq_false (by omega)
    clear hf h1 h2 h3 hfs hl1 hc hg hlo q5
    by_cases g1 : v < lo
    · have t1 : decide (v < lo) = true := decide_eq_true g1
      have HE : Hid (fieldsT (atT l nm) v = ([], 90)) := hid (by rw [HFT.out, if_pos (.inl (by rw [← HLO.out]; exact g1))])
      clear g1
      go_wp2_with fail
      go_ret2
      exact ⟨_, _, _, by rw [HE.out]; rfl, by rw [HE.out]; exact RdF.nil _ _, HB1.out⟩
    · have t1 : decide (v < lo) = false := decide_eq_false g1
      go_wp2_with fail
      refine (r9newest_any t.nm ⟨by omega, by omega⟩ (by omega)).mono ?_
      rintro e w2 ⟨rfl, hb2⟩
      have HB2 := hid hb2
      clear c0 cc1 cc2 cc3 hb2
      obtain ⟨c0, cc1, cc2, cc3⟩ := HC.out w2 HB2.out
      rw [← HLO.out] at cc1
      by_cases g2 : lo + (n1 : Int) - 1 < v
      · have t2 : decide (lo + (n1 : Int) - 1 < v) = true := decide_eq_true g2
        have HE : Hid (fieldsT (atT l nm) v = ([], 90)) := hid (by rw [HFT.out, if_pos (.inr (by rw [HHI.out]; exact g2))])
        clear g1 g2
        go_wp2_with fail
        go_ret2
        exact ⟨_, _, _, by rw [HE.out]; rfl, by rw [HE.out]; exact RdF.nil _ _, Bt HB1.out HB2.out⟩
      · have t2 : decide (lo + (n1 : Int) - 1 < v) = false := decide_eq_false g2
        obtain ⟨j, hj⟩ : ∃ j : Nat, v = lo + (j : Int) := ⟨(v - lo).toNat, by omega⟩
        subst hj
        have hjn : j < n1 := by omega
        obtain ⟨f, hf⟩ : ∃ f, t.fs[j]? = some f := by
          cases hh : t.fs[j]? with
          | some f => exact ⟨f, rfl⟩
          | none =>
            exfalso
            have a := List.getElem?_eq_none_iff.1 hh
            obtain ⟨_, _, _, _, q5⟩ := HT.out.nums
            have := HHI.out
            have := HLO.out
            omega
        obtain ⟨_, b3, off3, A3, n3, c3, rfl, hr3, hc3⟩ := HG.out j f hf
        have d0 : w2.cell? ⟨b3, off3 + (lo + (j : Int) - lo).toNat, none⟩ = some (.slice A3 n3 c3) := by rw [show (lo + (j : Int) - lo).toNat = j by omega]; exact hc3 w2 HB2.out
        have HE : Hid (fieldsT (atT l nm) (lo + (j : Int)) = (f, 0)) := hid (by
          rw [HFT.out, if_neg (by rw [← HLO.out, HHI.out]; omega)]
          have e1 : (lo + (j : Int) - t.lo).toNat = j := by rw [← HLO.out]; omega
          rw [e1, hf]; rfl)
        have HR3 := hid (hr3.on HB2.out)
        have hji : (j : Int) < n1 := by omega
        have hj0 : (0 : Int) ≤ j := by omega
        clear g1 g2 hr3 hc3 hf
        go_upto_region 4 with fail
        go_region
        go_wp2_with fail
        go_ret2
        exact ⟨_, _, _, by rw [HE.out]; rfl, by rw [HE.out]; exact HR3.out.on (Below.drew (B0 _)), Bt HB1.out (Bt HB2.out (Below.drew (B0 _)))⟩
theorem fsl_one {w : World} {g : Nat} {A : Option Addr} {n c : Nat} {f : List Fd} (h : w.heap[g]? = some (.cells #[.slice A n c] 32 (0, 0))) (hr : RdF w w.heap.size A n c f) : FsL w w.heap.size (.slice (some ⟨g, 0, none⟩) 1 1) [f] :=
  ⟨some ⟨g, 0, none⟩, 1, 1, [(f, .slice A n c)], rfl, ⟨rfl, Nat.le_refl _, by simp [maxLen], fun a ha => by simp at ha; subst ha; exact ⟨_, _, _, rfl, hr⟩, fun _ => ⟨g, 0, rfl, row_lt h, fun t e => by cases e; exact ⟨_, _, h⟩, fun i a hi j hj => by
    cases i with
    | zero =>
      simp at hi; subst hi
      have : j = 0 := by omega
      subst this
      rw [row_cell h]; rfl
    | succ i => simp at hi⟩⟩, rfl⟩
theorem tsl_nil (w : World) (B : Nat) : TsL w B (.slice none 0 0) [] := ⟨none, 0, 0, [], rfl, RdG.nil _ _, rfl⟩
def DocQ (w : World) (l : List Ty) (x : List Value) (e : Ending) (w' : World) : Prop := ∃ A n c, e = .returned (.tuple (Value.slice A n c :: x).toArray) ∧ DocL w' w'.heap.size A n c l ∧ Below w.heap.size w w'
set_option maxRecDepth 20000 in
set_option maxHeartbeats 8000000 in
theorem r9define_any {w : World} {A : Option Addr} {n c : Nat} {l : List Ty} (h : DocL w w.heap.size A n c l) (hok : okC l) (nm : List UInt8) (hnm : nm.length ≤ 140737488351232) {A2 : Option Addr} {m cp : Nat} {f : List Fd} (hf : RdF w w.heap.size A2 m cp f) :
    Calls Tryz.prog 67 #[.slice A n c, .string (bs nm), .slice A2 m cp] w (DocQ w (defS l nm f).1 [.int .i64 (defS l nm f).2]) := by
  have hn : n ≤ 16 := by rw [← h.len]; exact hok.2.1
  have HLN := hid h.len
  have H := hid h; have HOK := hid hok; have HF := hid hf; have HNM := hid hnm
  have HSH : Hid (short f) := hid (fun x hx => (hf.2.2.2.1 x hx).2.2)
  clear h hok hf hnm
  go_enter Tryz.func67, Tryz.ntmps67
  go_wp2_with fail
  refine (r6name_any nm HNM.out).mono ?_
  rintro e w1 ⟨rfl, hb1⟩
  have HB1 := hid hb1
  clear hb1
  cases h1 : nameB nm with
  | false =>
    have HE : Hid (defS l nm f = (l, 60)) := hid (by unfold defS; rw [if_neg (by rw [h1]; simp)])
    go_wp2_with fail
    go_ret2
    rw [HE.out]
    exact ⟨_, _, _, rfl, H.out.on HB1.out, HB1.out⟩
  | true =>
    have HN1 := hid h1
    clear h1
    go_wp2_with fail
    refine (r6right_any (HF.out.on HB1.out) HSH.out).mono ?_
    rintro e w2 ⟨rfl, hb2⟩
    have HB2 := hid (Bt HB1.out hb2)
    clear hb2
    cases h2 : rightL f with
    | false =>
      have HE : Hid (defS l nm f = (l, 60)) := hid (by unfold defS; rw [if_neg (by rw [h2]; simp)])
      go_wp2_with fail
      go_ret2
      rw [HE.out]
      exact ⟨_, _, _, rfl, H.out.on HB2.out, HB2.out⟩
    | true =>
      have HN2 := hid h2
      clear h2
      go_wp2_with fail
      refine (r9find_any (H.out.on HB2.out) (by omega) nm).mono ?_
      rintro e w3 ⟨rfl, hb3⟩
      have HB3 := hid (Bt HB2.out hb3)
      clear hb3
      cases h3 : findT l nm with
      | some k =>
        rw [findR_some h3]
        have HE : Hid (defS l nm f = (l, 91)) := hid (by unfold defS; rw [if_pos ⟨HN1.out, HN2.out⟩, if_pos (.inl (by rw [h3]; simp))])
        have t0 : decide (0 ≤ (k : Int)) = true := decide_eq_true (by omega)
        clear h3
        go_wp2_with fail
        go_ret2
        rw [HE.out]
        exact ⟨_, _, _, rfl, H.out.on HB3.out, HB3.out⟩
      | none =>
        rw [findR_none h3]
        by_cases hL : 16 ≤ n
        · have t1 : decide ((16 : Int) ≤ (n : Int)) = true := decide_eq_true (by omega)
          have HE : Hid (defS l nm f = (l, 91)) := hid (by unfold defS; rw [if_pos ⟨HN1.out, HN2.out⟩, if_pos (.inr (by rw [HLN.out]; exact hL))])
          clear h3 hL
          go_wp2_with fail
          go_ret2
          rw [HE.out]
          exact ⟨_, _, _, rfl, H.out.on HB3.out, HB3.out⟩
        · have t1 : decide ((16 : Int) ≤ (n : Int)) = false := decide_eq_false (by omega)
          have HE : Hid (defS l nm f = (putT l ⟨nm, 1, [f], []⟩, 0)) := hid (by unfold defS; rw [if_pos ⟨HN1.out, HN2.out⟩, if_neg (by rw [h3, HLN.out]; simp; omega)])
          clear h3 hL
          obtain ⟨w4, hw4⟩ : ∃ w4, w4 = w3.alloc (.cells #[.slice A2 m cp] 32) := ⟨_, rfl⟩
          obtain ⟨g, hg⟩ : ∃ g, g = w3.heap.size := ⟨_, rfl⟩
          have HW4 := hid hw4; have HG := hid hg
          have HB4 : Hid (Below w.heap.size w w4) := by rw [hw4]; exact hid (Ba HB3.out _)
          have HFS : Hid (FsL w4 w4.heap.size (.slice (some ⟨g, 0, none⟩) 1 1) [f]) := hid (fsl_one (by rw [hw4, hg]; exact heap_alloc_new _ _) (HF.out.on HB4.out))
          clear hw4 hg
          go_wp2_with fail
          rw [← HW4.out, ← HG.out]
          refine (r9put_any (t := ⟨nm, 1, [f], []⟩) (H.out.on HB4.out) (by omega) HFS.out (tsl_nil _ _)).mono ?_
          rintro e w5 ⟨A5, n5, c5, rfl, hd5, hb5⟩
          have HD5 := hid hd5
          have HB5 := hid (Bt HB4.out hb5)
          clear hd5 hb5
          go_wp2_with fail
          go_ret2
          rw [HE.out]
          exact ⟨_, _, _, rfl, HD5.out, HB5.out⟩
end Go.Proofs.YtaegencmnmjgbaaGreat
