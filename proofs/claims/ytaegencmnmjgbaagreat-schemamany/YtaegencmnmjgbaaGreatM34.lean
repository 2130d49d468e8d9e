/-
  A catalogue one of whose types has turned; Define.
  The document's Fields and Define of layer 9.
  The program's Apply, and All, of layer 8.
-/
import Derived.Test.YtaegencmnmjgbaaGreatM33
import Derived.Test.YtaegencmnmjgbaaGreatM12
import Derived.Test.YtaegencmnmjgbaaGreatM32
import Derived.Deep.Cut
import Derived.BigQuiet
import Derived.Test.YtaegencmnmjgbaaGreatM16
import Derived.Test.YtaegencmnmjgbaaGreatM10
import Derived.Test.YtaegencmnmjgbaaGreatM27
import Derived.Test.YtaegencmnmjgbaaGreatM29

namespace Go.Proofs.YtaegencmnmjgbaaGreat
open Go.RowKit Go.Maps
set_option linter.unusedVariables false
set_option linter.unusedSimpArgs false
theorem gbB {w w' : World} (h : Below w.heap.size w w') (r : Option Nat) : w.grownBy w' r := ⟨h.os, h.tape, h.output, h.size, fun k hk _ => h.block k hk⟩
theorem FrG.grown {w w' : World} {b0 : Nat} (h : w.grownBy w' (some b0)) (hs : TuB w b0) : FrG (fun b => b = b0) w w' := ⟨h.os, h.tape, h.output, h.size, fun b hb hn => h.block b hb (fun e => hn (by cases e; rfl)), fun b e => by rw [e]; exact hs⟩
theorem FrG.mono {G G' : Nat → Prop} {w w' : World} (h : FrG G w w') (hg : ∀ b, G b → G' b) (hs : ∀ b, G' b → TuB w b) : FrG G' w w' := ⟨h.os, h.tape, h.output, h.size, fun b hb hn => h.blk b hb (fun e => hn (hg b e)), hs⟩
theorem bH {r : Option Nat} {w w' : World} (h : ExO r w w') (e : w'.heap = w.heap) : Below w.heap.size w w' := ⟨h.os, h.tape, h.output, h.size, fun k _ => by rw [e]⟩
theorem Cat.ne {w : World} {c mb n B : Nat} {r : List UInt8 → Pl} {l : List Ty} (h : Cat w c mb n B r l) : c ≠ mb := fun e => by
  obtain ⟨es, cl, hb⟩ := h.mp.isMap
  have := h.box
  rw [e, hb] at this; cases this
def CatQ (w : World) (c mb n B : Nat) (r : List UInt8 → Pl) (l l' : List Ty) (w' : World) : Prop :=
  ∃ r', Cat w' c mb (n + 1) B r' l' ∧ FrG (catG mb r l) w w' ∧ ∀ b, catG mb r' l' b → catG mb r l b ∨ w.heap.size ≤ b
section
variable {w w' : World} {c mb n B : Nat} {r : List UInt8 → Pl} {l l' : List Ty}
theorem Cat.more (h : Cat w c mb n B r l) {m : Nat} (hm : n ≤ m) : Cat w c mb m B r l := ⟨h.ok, h.box, h.mp.mono hm, h.lo, h.ver, h.inj⟩
theorem CatQ.same (h : Cat w c mb n B r l) (hb : Below w.heap.size w w') : CatQ w c mb n B r l l w' := ⟨r, (h.on hb).more (Nat.le_succ n), FrG.below hb h.sl, fun b hb => .inl hb⟩
theorem CatQ.below (h : Cat w c mb n B r l) (hB : B ≤ w.heap.size) (hq : CatQ w c mb n B r l l' w') : Below B w w' := by obtain ⟨r', _, hf, _⟩ := hq; exact hf.base h.base hB
theorem Ver.fr {G : Nat → Prop} {p : Pl} {t : Ty} (h : Ver w p t) (hf : FrG G w w') (hn : ¬ G p.g) : Ver w' p t := ⟨h.row.cong (hf.blk _ h.row.lt hn), h.len, fun i q T h1 h2 => (h.rd i q T h1 h2).fr hf⟩
theorem CatQ.lt (h : Cat w c mb n B r l) : B ≤ w.heap.size := Nat.le_trans h.lo.2 (Nat.le_of_lt (row_lt h.box))
theorem Cat.store {nm : List UInt8} {t' : Ty} {p : Pl} (h : Cat w c mb n B r l) (hf : FrG (fun b => b = mb ∨ ∃ t0 ∈ l, t0.nm = nm ∧ b = (r nm).g) w w')
    (hm : Ms w' mb (n + 1) (updS (catF l r) nm (hV t'.lo (some ⟨p.g, 0, none⟩) (t'.ts.length + 1) p.cap))) (hok : okC l') (hat : ∀ k, atT l' k = if nm = k then some t' else atT l k)
    (hmem : ∀ t ∈ l', t = t' ∨ (t ∈ l ∧ t.nm ≠ nm)) (ht : t'.nm = nm) (hv : Ver w' p t') (hp : w.heap.size ≤ p.g ∨ ∃ t0 ∈ l, t0.nm = nm ∧ p.g = (r nm).g) : CatQ w c mb n B r l l' w' := by
  have hgm : ∀ t ∈ l, (r t.nm).g ≠ mb := fun t ht e => by
    obtain ⟨es, cl, hb⟩ := h.mp.isMap
    obtain ⟨_, _, cur, hg, _⟩ := (h.ver t ht).1.row
    rw [e, hb] at hg; cases hg
  have hno : ∀ t ∈ l, t.nm ≠ nm → ¬ ((r t.nm).g = mb ∨ ∃ t0 ∈ l, t0.nm = nm ∧ (r t.nm).g = (r nm).g) := fun t ht hne => by
    rintro (e | ⟨t0, h0, e0, e⟩)
    · exact hgm t ht e
    · rw [← e0] at e; exact hne ((h.inj t ht t0 h0 e).trans e0)
  have hfresh : ∀ t ∈ l, t.nm ≠ nm → p.g ≠ (r t.nm).g := fun t ht hne e => by
    rcases hp with hp | ⟨t0, h0, e0, e1⟩
    · have := (h.ver t ht).1.row.lt; omega
    · exact hno t ht hne (.inr ⟨t0, h0, e0, by rw [← e, e1]⟩)
  have hpb : B ≤ p.g := by
    rcases hp with hp | ⟨t0, h0, e0, e1⟩
    · exact Nat.le_trans (CatQ.lt h) hp
    · rw [e1, ← e0]; exact (h.ver t0 h0).2
  have hsub : ∀ b, (b = mb ∨ ∃ t0 ∈ l, t0.nm = nm ∧ b = (r nm).g) → catG mb r l b := fun b hb => by
    rcases hb with hb | ⟨t0, h0, e0, e⟩
    · exact .inl hb
    · exact .inr ⟨t0, h0, by rw [e, e0]⟩
  have e1 : ∀ k, (fun k => if k = nm then p else r k) k = if k = nm then p else r k := fun _ => rfl
  refine ⟨fun k => if k = nm then p else r k, ⟨hok, ?_, hm.ext fun k => ?_, h.lo, fun t htl => ?_, fun t htl u hul e => ?_⟩, hf.mono hsub h.sl, fun b hb => ?_⟩
  · exact (hf.cellB (i := 0) (row_cell h.box 0) (fun ⟨_, _, _, e⟩ => by cases e)).trans h.box
  · unfold updS catF
    rw [hat k]
    by_cases e : k = nm
    · rw [if_pos e, if_pos e.symm]
      show _ = (some t').map _
      simp only [Option.map_some, if_pos e]
    · rw [if_neg e, if_neg (fun x => e x.symm)]
      simp only [if_neg e]
  · rcases hmem t htl with rfl | ⟨h1, h2⟩
    · simp only [if_pos ht]; exact ⟨hv, hpb⟩
    · simp only [if_neg h2]; exact ⟨(h.ver t h1).1.fr hf (hno t h1 h2), (h.ver t h1).2⟩
  · rcases hmem t htl with rfl | ⟨h1, h2⟩
    · rcases hmem u hul with rfl | ⟨k1, k2⟩
      · rfl
      · simp only [if_pos ht, if_neg k2] at e; exact absurd e (hfresh u k1 k2)
    · rcases hmem u hul with rfl | ⟨k1, k2⟩
      · simp only [if_pos ht, if_neg h2] at e; exact absurd e.symm (hfresh t h1 h2)
      · simp only [if_neg h2, if_neg k2] at e; exact h.inj t h1 u k1 e
  · rcases hb with hb | ⟨t, htl, e⟩
    · exact .inl (.inl hb)
    · rcases hmem t htl with rfl | ⟨h1, h2⟩
      · simp only [if_pos ht] at e
        rcases hp with hp | ⟨t0, h0, e0, e1⟩
        · exact .inr (by omega)
        · exact .inl (.inr ⟨t0, h0, by rw [e, e1, e0]⟩)
      · simp only [if_neg h2] at e; exact .inl (.inr ⟨t, h1, e⟩)
end
theorem step_storeMS {w w' : World} {o : Oper} {a : Act} {K : Act → World → Prop} {Q : Exit → Act → World → Prop} {y : Nat → Option Bool} {t : TypeId} {vm vx vv : Value} (hgd : o.guard = none) (m x v : Operand)
    (hop : o.op = .mapUpdate t m x v) (hm : a.eval m = vm) (hx : a.eval x = vx) (hv : a.eval v = vv)
    (hrun : (Instr.mapUpdate t vm vx vv).run Tryz.prog w = .ok () w') (hk : K (a.put o.dst undef) w') :
    if Region.wanted o y = true then Oper.wp Tryz.prog o a w K Q else K (a.put o.dst undef) w := by
  simp only [Region.wanted, hgd, if_true]
  unfold Oper.wp
  simp [execOp, hop, hm, hx, hv, hrun, Result.andThen]
  exact hk
theorem Ver.one {w : World} {g : Nat} {A : Option Addr} {n c : Nat} {f : List Fd} (nm : List UInt8) (lo : Int) (h : TRow w g 1 [(.slice none 0 0, .slice A n c, .slice none 0 0)]) (hr : RdF w w.heap.size A n c f) : Ver w ⟨g, 1, [(.slice none 0 0, .slice A n c, .slice none 0 0)]⟩ ⟨nm, lo, [f], []⟩ :=
  ⟨h, rfl, fun i q T h1 h2 => by
    cases i with
    | zero =>
      simp [verL] at h1 h2
      subst h1; subst h2
      exact ⟨_, _, _, _, _, _, _, _, _, rfl, RdF.nil _ _, hr, RdM.nil _ _⟩
    | succ i => simp at h1⟩
set_option maxRecDepth 20000 in
set_option maxHeartbeats 8000000 in
theorem define_any {w : World} {c mb n B : Nat} {r : List UInt8 → Pl} {l : List Ty} (h : Cat w c mb n B r l) (hn : n ≤ 1000000) (nm : List UInt8) (hnm : nm.length ≤ 140737488351232) {A : Option Addr} {m cp : Nat} {f : List Fd} (hf : RdF w w.heap.size A m cp f) :
    Calls Tryz.prog 28 #[.pointer (some ⟨c, 0, none⟩), .string (bs nm), .slice A m cp] w fun e w' => e = .returned (.int .i64 (defS l nm f).2) ∧ CatQ w c mb n B r l (defS l nm f).1 w' := by
  have H := hid h; have HF := hid hf; have HSH : Hid (short f) := hid (fun x hx => (hf.2.2.2.1 x hx).2.2)
  have HNM := hid hnm; have HNN := hid hn
  have HK : Hid (SK nm) := hid (by unfold SK maxLen; omega)
  clear h hf hnm hn
  go_enter Tryz.func28, Tryz.ntmps28
  go_wp2_with fail
  refine (p6name_any nm HNM.out).mono ?_
  rintro e w1 ⟨rfl, hb1⟩
  have HB1 := hid hb1
  clear hb1
  cases h1 : nameB nm with
  | false =>
    have HE : Hid (defS l nm f = (l, 60)) := hid (by unfold defS; rw [if_neg (by rw [h1]; simp)])
    go_wp2_with fail
    go_ret
    exact ⟨by rw [HE.out]; rfl, by rw [HE.out]; exact CatQ.same H.out HB1.out⟩
  | true =>
    have HN1 := hid h1
    clear h1
    go_wp2_with fail
    refine (p6right_any (HF.out.on HB1.out) HSH.out).mono ?_
    rintro e w2 ⟨rfl, hb2⟩
    have HB2 := hid (Bt HB1.out hb2)
    clear hb2
    cases h2 : rightL f with
    | false =>
      have HE : Hid (defS l nm f = (l, 60)) := hid (by unfold defS; rw [if_neg (by rw [h2]; simp)])
      go_wp2_with fail
      go_ret
      exact ⟨by rw [HE.out]; rfl, by rw [HE.out]; exact CatQ.same H.out HB2.out⟩
    | true =>
      have HN2 := hid h2
      clear h2
      go_wp2_with fail
      refine (has_any (H.out.on HB2.out) nm HK.out).mono ?_
      rintro e w3 ⟨rfl, hb3⟩
      have HB3 := hid (Bt HB2.out hb3)
      have HC3 := hid (H.out.on HB3.out)
      clear hb3
      cases h3 : atT l nm with
      | some t =>
        have HE : Hid (defS l nm f = (l, 91)) := hid (by
          unfold defS
          rw [if_pos ⟨HN1.out, HN2.out⟩, if_pos (.inl (fun e => by rw [findT_none.1 e] at h3; cases h3))])
        clear h3
        go_wp2_with fail
        go_ret
        exact ⟨by rw [HE.out]; rfl, by rw [HE.out]; exact CatQ.same H.out HB3.out⟩
      | none =>
        have HAT := hid h3
        clear h3
        obtain ⟨D, hD, hk⟩ := HC3.out.mp.keys
        have hsz := (hk (l.map Ty.nm) (rise_nodup HC3.out.ok.1) (fun x => by rw [← atT_isSome]; unfold catF; cases atT l x <;> rfl)).2
        rw [List.length_map] at hsz
        have hlen := fun ty => hD.len Tryz.underlying84 ty
        rw [hsz] at hlen
        have c0 : w3.cell? ⟨c, 0, none⟩ = some (.map (some mb)) := row_cell HC3.out.box 0
        have h16 := HC3.out.ok.2.1
        clear hD hk hsz
        by_cases hL : l.length = 16
        · have t1 : ((l.length : Int) == 16) = true := by simp; omega
          have HE : Hid (defS l nm f = (l, 91)) := hid (by
            unfold defS
            rw [if_pos ⟨HN1.out, HN2.out⟩, if_pos (.inr (by omega))])
          clear hL
          go_wp2_with fail
          go_ret
          exact ⟨by rw [HE.out]; rfl, by rw [HE.out]; exact CatQ.same H.out HB3.out⟩
        · have t1 : ((l.length : Int) == 16) = false := by simp; omega
          have HE : Hid (defS l nm f = (putT l ⟨nm, 1, [f], []⟩, 0)) := hid (by
            unfold defS
            rw [if_pos ⟨HN1.out, HN2.out⟩, if_neg (by
              rintro (e | e)
              · exact e (findT_none.2 HAT.out)
              · omega)])
          clear hL
          have HCM : Hid (c < w3.heap.size ∧ c ≠ mb) := hid ⟨row_lt HC3.out.box, HC3.out.ne⟩
          go_upto_region 5 with fail
          clear c0 hlen h16
          refine reg_beginO (some mb) (by kernel_rfl) (fun w0a hh0a hx0a hHeld => ?_)
          have HB0a := hid (bH hx0a hh0a.out)
          have HC0a := hid (HC3.out.on HB0a.out)
          have hcx : ∀ w', ExO (some mb) w0a w' → w'.cell? ⟨c, 0, none⟩ = some (.map (some mb)) := fun w' hx => row_cell ((hx.block c (row_lt HC0a.out.box) (by have := HCM.out.2; simp; exact this)).trans HC0a.out.box) 0
          refine reg_takeO 0 (v := ?vb0) at0 (by kernel_rfl) (by kernel_rfl) (by kernel_rfl) (by rfl) ?hyb0 hHeld ?restb0
          case hyb0 => (intro w' hSw; go_simp; try with_reducible rfl)
          try simp only [Act.put, List.setIfInBounds_toArray, List.set_cons_zero, List.set_cons_succ]
          refine reg_takeO 1 (v := ?vb1) (atS at0) (by kernel_rfl) (by kernel_rfl) (by kernel_rfl) (by rfl) ?hyb1 hHeld ?restb1
          case hyb1 => (intro w' hSw; go_simp; try with_reducible rfl)
          try simp only [Act.put, List.setIfInBounds_toArray, List.set_cons_zero, List.set_cons_succ]
          refine reg_takeO 2 (v := ?vb2) (atS (atS at0)) (by kernel_rfl) (by kernel_rfl) (by kernel_rfl) (by rfl) ?hyb2 hHeld ?restb2
          case hyb2 => (intro w' hSw; go_simp; try with_reducible rfl)
          try simp only [Act.put, List.setIfInBounds_toArray, List.set_cons_zero, List.set_cons_succ]
          refine reg_takeO 3 (v := ?vb3) (atS (atS (atS at0))) (by kernel_rfl) (by kernel_rfl) (by kernel_rfl) (by rfl) ?hyb3 hHeld ?restb3
          case hyb3 => (intro w' hSw; go_simp; try with_reducible rfl)
          try simp only [Act.put, List.setIfInBounds_toArray, List.set_cons_zero, List.set_cons_succ]
          refine reg_takeO 4 (v := ?vb4) (atS (atS (atS (atS at0)))) (by kernel_rfl) (by kernel_rfl) (by kernel_rfl) (by rfl) ?hyb4 hHeld ?restb4
          case hyb4 => (intro w' hSw; go_simp; try with_reducible rfl)
          try simp only [Act.put, List.setIfInBounds_toArray, List.set_cons_zero, List.set_cons_succ]
          refine reg_takeO 5 (v := ?vb5) (atS5 at0) (by kernel_rfl) (by kernel_rfl) (by kernel_rfl) (by rfl) ?hyb5 hHeld ?restb5
          case hyb5 => (intro w' hSw; go_simp; try with_reducible rfl)
          try simp only [Act.put, List.setIfInBounds_toArray, List.set_cons_zero, List.set_cons_succ]
          refine wpAnyH_ready (rs := [6]) (by kernel_rfl) (by simp) ?_
          refine AllReadyH.cons (atS5 (atS at0)) (fun K hK => ?_) AllReadyH.nil
          go_simp
          refine (fclone_any (HF.out.on (Bt HB3.out HB0a.out)) (by have := right_len HN2.out; have := HF.out.1; omega)).mono ?_
          rintro e w4 ⟨v4, rfl, ho4, hb4⟩
          obtain ⟨A4, c4, rfl, hr4⟩ := ho4.rd HF.out.2.2.2.1
          go_wp2_with fail
          refine hK.out _ _ (gbB hb4 _) (fun hHeld => ?_)
          clear hK K
          try simp only [Act.put, List.setIfInBounds_toArray, List.set_cons_zero, List.set_cons_succ]
          refine reg_onO (gbB hb4 _) (fun hHeld => ?_)
          refine wpAnyH_ready (rs := [7]) (by kernel_rfl) (by simp) ?_
          refine AllReadyH.cons (atS5 (atS (atS at0))) (fun K hK => ?_) AllReadyH.nil
          go_simp
          refine (begin_any 1 A4 _ c4).mono ?_
          rintro e w5 ⟨g5, rfl, hg5, hrow5, hb5⟩
          go_wp2_with fail
          refine hK.out _ _ (gbB hb5 _) (fun hHeld => ?_)
          clear hK K
          try simp only [Act.put, List.setIfInBounds_toArray, List.set_cons_zero, List.set_cons_succ]
          refine reg_onO (gbB hb5 _) (fun hHeld => ?_)
          have HC5 := hid (HC0a.out.on (Bt hb4 hb5))
          obtain ⟨w6, hrun6, hm6, ht6⟩ := HC5.out.mp.store Tryz.underlying84 (by have := HNN.out; unfold maxLen; omega) HK.out (hV 1 (some ⟨g5, 0, none⟩) 1 1)
          have hg6 : ExO (some mb) w5 w6 := ht6.grown
          refine wpAnyH_ready (rs := [8]) (by kernel_rfl) (by simp) ?_
          refine AllReadyH.cons (atS5 (atS (atS (atS at0)))) (fun K hK => ?_) AllReadyH.nil
          refine step_storeMS (by rfl) (.tmp 29) (.tmp 30) (.tmp 33) (by rfl) (by rfl) (by rfl) (by rfl) hrun6 ?_
          refine hK.out _ _ hg6 (fun hHeld => ?_)
          clear hK K
          try simp only [Act.put]
          refine wpAnyH_done (by kernel_rfl) ?_ _
          refine NoPanic.normal ?_
          have HB5 : Hid (Below w.heap.size w w5) := hid (Bt HB3.out (Bt HB0a.out (Bt hb4 hb5)))
          have HQ : Hid (CatQ w c mb n B r l (putT l ⟨nm, 1, [f], []⟩) w6) := hid (by
            have hno := atT_none HAT.out
            have hf6 : FrG (fun b => b = mb) w5 w6 := FrG.grown hg6 (.inr HC5.out.mp.isMap)
            have hok := defS_ok H.out.ok nm f
            rw [HE.out] at hok
            refine Cat.store (nm := nm) (t' := ⟨nm, 1, [f], []⟩) (p := ⟨g5, 1, [(.slice none 0 0, .slice A4 f.length c4, .slice none 0 0)]⟩) H.out ?_ hm6 hok (fun k => put_at H.out.ok.1 hno k) (fun t ht => ?_) rfl ?_ (.inl ?_)
            · exact (FrG.below HB5.out (fun b hb => by rcases hb with rfl | ⟨t0, h0, e0, _⟩; exact .inr H.out.mp.isMap; exact absurd e0 (hno t0 h0))).trans (hf6.mono (fun b e => .inl e) (fun b hb => by rcases hb with rfl | ⟨t0, h0, e0, _⟩; exact .inr HC5.out.mp.isMap; exact absurd e0 (hno t0 h0))) (fun b hb => .inl hb)
            · rcases put_mem.1 ht with rfl | ht
              · exact .inl rfl
              · exact .inr ⟨ht, hno t ht⟩
            · refine Ver.fr (Ver.one nm 1 hrow5 (hr4.on hb5)) hf6 (fun e => ?_)
              have e' : g5 = mb := e
              have := HC0a.out.mp.lt
              have := hb4.size
              omega
            · show w.heap.size ≤ g5
              have := (Bt HB3.out (Bt HB0a.out hb4)).size
              omega)
          go_wp2_with fail
          go_ret
          exact ⟨by rw [HE.out]; rfl, by rw [HE.out]; exact HQ.out⟩
end Go.Proofs.YtaegencmnmjgbaaGreat

namespace Go.Proofs.YtaegencmnmjgbaaGreat
open Go.RowKit Go.Maps
set_option linter.unusedVariables false
set_option linter.unusedSimpArgs false
theorem okTy.nums {t : Ty} (h : okTy t) : 1 ≤ t.lo ∧ t.lo ≤ 64 ∧ t.fs.length ≤ 64 ∧ 1 ≤ t.fs.length ∧ t.hi = t.lo + (t.fs.length : Int) - 1 := by
  obtain ⟨_, h1, h2, h3, _⟩ := h
  unfold Ty.hi at h2 ⊢
  omega
end Go.Proofs.YtaegencmnmjgbaaGreat

namespace Go.Proofs.YtaegencmnmjgbaaGreat
open Go.RowKit
set_option linter.unusedVariables false
set_option linter.unusedSimpArgs false
structure PS (w0 W : World) (q : Nat) (l : List Fd) (cs : List Ch) (j : Nat) (v1 v2 v3 : Value) (A : Option Addr) (n c : Nat) (T : Tb) : Prop where
  tb : TBx W q v1 v2 v3 92
  rd : RdT W W.heap.size (.agg #[v1, v2, v3]) T
  rn : RdF W W.heap.size A n c T.nw
  bl : Below w0.heap.size w0 W
  wq : w0.heap.size ≤ q
  rt : rightT T = true
  al : all8 l cs = allF T (cs.drop j)
theorem PS.on {w0 W W' : World} {q : Nat} {l : List Fd} {cs : List Ch} {j : Nat} {v1 v2 v3 : Value} {A : Option Addr} {n c : Nat} {T : Tb} (h : PS w0 W q l cs j v1 v2 v3 A n c T) (hb : Below W.heap.size W W') : PS w0 W' q l cs j v1 v2 v3 A n c T :=
  ⟨h.tb.on hb, h.rd.on hb, h.rn.on hb, h.bl.trans (hb.mono h.bl.size), h.wq, h.rt, h.al⟩
theorem mkT_nw {l : List Fd} {c : Ch} {T : Tb} (h : compB T (mkT l c) = true) : (compT T (mkT l c)).nw = (mkT l c).nw := by rw [compT_ok' h]
set_option maxRecDepth 20000 in
set_option maxHeartbeats 12000000 in
theorem p8all_any {w : World} {A : Option Addr} {n cp : Nat} {l : List Fd} (h : RdF w w.heap.size A n cp l) (hr : rightL l = true) {Ac : Option Addr} {m mc : Nat} {cs : List Ch} (hcs : RdC w w.heap.size Ac m mc cs) (hsc : ∀ c ∈ cs, c.to.nm.length ≤ 140737488351232) :
    Calls Tryz.prog 66 #[.slice A n cp, .slice Ac m mc] w fun e w' => ∃ v, e = .returned (.tuple #[v, .int .i64 (all8 l cs).2]) ∧ RdT w' w'.heap.size v (all8 l cs).1 ∧ Below w.heap.size w w' := by
  have hmi : (m : Int) ≤ 9223372036854775807 := by have := Nat.le_trans hcs.2.1 hcs.2.2.1; unfold maxLen at this; omega
  obtain ⟨w0, hw0⟩ : ∃ w0, w0 = w.alloc (.cells #[.slice none 0 0, .slice none 0 0, .slice none 0 0] 92) := ⟨_, rfl⟩
  obtain ⟨rz, hrz⟩ : ∃ rz, rz = w.heap.size := ⟨_, rfl⟩
  have HW0 := hid hw0; have HRZE := hid hrz
  have HB0 : Hid (Below w.heap.size w w0) := by rw [hw0]; exact hid (B1 _ _)
  have HTZ : Hid (TBx w0 rz (.slice none 0 0) (.slice none 0 0) (.slice none 0 0) 92) := by rw [hw0, hrz]; exact hid (tb_new _ _ _ _ _)
  have HRZ : Hid (w.heap.size ≤ rz) := hid (by omega)
  have H := hid (h.on HB0.out); have HC := hid (hcs.on HB0.out); have HSC := hid hsc
  have HML : Hid (cs.length = m) := hid hcs.1
  have HR := hid hr
  clear h hcs hsc hw0 hrz hr
  go_enter Tryz.func66, Tryz.ntmps66
  go_upto_region 1 with fail
  rw [← HW0.out, ← HRZE.out]
  go_wp2_with fail
  refine (p7same_any H.out (right_short HR.out)).mono ?_
  rintro e w1 ⟨v, rfl, ho1, hb1⟩
  have hrd1 : RdT w1 w1.heap.size v (sameT l) := by
    have h16 := right_len HR.out
    have hok : okF l := H.out.2.2.2.1
    rw [sameT_right HR.out] at ho1 ⊢
    exact ho1.rd hok hok (self_I64 (by omega))
  obtain ⟨B1', m1, d1, B2', m2, d2, B3', m3, d3, rfl, h1, h2, h3⟩ := hrd1
  obtain ⟨q, hq⟩ : ∃ q, q = w1.heap.size := ⟨_, rfl⟩
  obtain ⟨w2, hw2⟩ : ∃ w2, w2 = w1.alloc (.cells #[.slice B1' m1 d1, .slice B2' m2 d2, .slice B3' m3 d3] 92) := ⟨_, rfl⟩
  have HQ := hid hq; have HW2 := hid hw2
  have HPS : Hid (PS w0 w2 q l cs 0 (.slice B1' m1 d1) (.slice B2' m2 d2) (.slice B3' m3 d3) A n cp (sameT l)) := by
    rw [hw2, hq]
    refine hid ⟨tb_new w1 _ _ _ _, RdT.on ⟨_, _, _, _, _, _, _, _, _, rfl, h1, h2, h3⟩ (B1 _ _), ?_, Ba hb1 _, hb1.size, same_rightT HR.out, by unfold all8; rw [HR.out]; rfl⟩
    rw [sameT_right HR.out]
    exact (H.out.on hb1).on (B1 _ _)
  clear ho1 hb1 h1 h2 h3 hq hw2
  go_upto_region 2 with fail
  rw [← HW2.out, ← HQ.out]
  go_wp2_with fail
  go_loopw [0, 15] (fun s i wr => ∃ (j : Nat), j ≤ m ∧ i = .int .i64 j ∧ ∃ A n c, s = .slice A n c ∧ Hid (∃ B1 m1 d1 B2 m2 d2 B3 m3 d3 T, PS w0 wr q l cs j (.slice B1 m1 d1) (.slice B2 m2 d2) (.slice B3 m3 d3) A n c T)) (fun _ i _ => m - (intOf i).toNat)
  case atStart => exact ⟨0, by omega, rfl, A, n, cp, rfl, hid ⟨_, _, _, _, _, _, _, _, _, _, HPS.out⟩⟩
  case round =>
    obtain ⟨j, hj, rfl, Al, nl, cl, rfl, ⟨D, nd, cd, D2, nd2, cd2, D3, nd3, cd3, T, ha⟩⟩ := hrel
    have HA := hid ha
    clear ha
    by_cases hlt : j < m
    · obtain ⟨c, hc⟩ : ∃ c, cs[j]? = some c := ⟨_, List.getElem?_eq_getElem (by have := HML.out; omega)⟩
      have hs1 := HSC.out c (List.mem_of_getElem? hc)
      obtain ⟨_, hn5, b, off, Ao, no, co, rfl, hcc, hod⟩ := HC.out.at hc
      have HCK : Hid (chOk c) := hid ⟨hn5.1, hn5.2.1, hn5.2.2.1, hn5.2.2.2.1, hn5.2.2.2.2, hs1⟩
      have HOD := hid (hod.on HA.out.bl)
      have HAT : Hid (all8 l cs = _) := hid (HA.out.al.trans (allF_at hc))
      have hji : (j : Int) < m := by omega
      have hj0 : (0 : Int) ≤ j := by omega
      obtain ⟨y0, y1, y2, y3, y4, y5, y6, y7, y8⟩ := hcc wr HA.out.bl
      obtain ⟨p, hp⟩ : ∃ p, p = wr.heap.size := ⟨_, rfl⟩
      obtain ⟨w3, hw3⟩ : ∃ w3, w3 = wr.alloc (.cells #[.int .i64 c.op, .string (bs c.nm), .string (bs c.to.nm), .int .i64 c.to.k, .int .i64 c.to.g, .int .i64 c.dk, .int .u64 c.dn, .string c.dt, .slice Ao no co] 76) := ⟨_, rfl⟩
      have HP := hid hp; have HW3 := hid hw3
      have HCB : Hid (CB w3 p c Ao no co 76) := by rw [hw3, hp]; exact hid (CB.new wr c Ao no co _)
      have HA3 : Hid (PS w0 w3 q l cs j (.slice D nd cd) (.slice D2 nd2 cd2) (.slice D3 nd3 cd3) Al nl cl T) := by rw [hw3]; exact hid (HA.out.on (B1 _ _))
      have HOD3 : Hid (RdI w3 w3.heap.size Ao no co c.od) := by rw [hw3]; exact hid (HOD.out.on (B1 _ _))
      clear hcc hod hs1 hn5 hc hp hw3
      go_upto_region 5 with fail
      rw [← HW3.out, ← HP.out]
      clear y0 y1 y2 y3 y4 y5 y6 y7 y8
      obtain ⟨y0, y1, y2, y3, y4, y5, y6, y7, y8⟩ := HCB.out.cells
      go_wp2_with fail
      refine (p8make_any HA3.out.rn (right_short (rightT_iff.1 HA3.out.rt).2.1) HCK.out HOD3.out).mono ?_
      rintro e w6 ⟨v6, rfl, hv6, hb6⟩
      obtain ⟨E, ne, ce, E2, ne2, ce2, E3, ne3, ce3, rfl, i1, i2, i3⟩ := hv6
      obtain ⟨p3, hp3⟩ : ∃ p3, p3 = w6.heap.size := ⟨_, rfl⟩
      obtain ⟨w7, hw7⟩ : ∃ w7, w7 = w6.alloc (.cells #[.slice E ne ce, .slice E2 ne2 ce2, .slice E3 ne3 ce3] 92) := ⟨_, rfl⟩
      have HP3 := hid hp3; have HW7 := hid hw7
      have HV7 : Hid (TBx w7 p3 (.slice E ne ce) (.slice E2 ne2 ce2) (.slice E3 ne3 ce3) 92) := by rw [hw7, hp3]; exact hid (tb_new _ _ _ _ _)
      have HR7 : Hid (RdT w7 w7.heap.size (.agg #[.slice E ne ce, .slice E2 ne2 ce2, .slice E3 ne3 ce3]) (mkT T.nw c)) := by rw [hw7]; exact hid (RdT.on ⟨_, _, _, _, _, _, _, _, _, rfl, i1, i2, i3⟩ (B1 _ _))
      have HA7 : Hid (PS w0 w7 q l cs j (.slice D nd cd) (.slice D2 nd2 cd2) (.slice D3 nd3 cd3) Al nl cl T) := by rw [hw7]; exact hid ((HA3.out.on hb6).on (B1 _ _))
      have HPQ : Hid (q < p3) := hid (by rw [hp3]; have := HA3.out.tb.lt; have := hb6.size; omega)
      clear i1 i2 i3 hb6 hp3 hw7 y0 y1 y2 y3 y4 y5 y6 y7 y8
      go_upto_region 6 with fail
      rw [← HW7.out, ← HP3.out]
      obtain ⟨q0, q1, q2⟩ := HA7.out.tb.cells
      obtain ⟨p0, p1, p2⟩ := HV7.out.cells
      obtain ⟨z0, z1, z2⟩ := (HTZ.out.on HA7.out.bl).cells
      have fz0 := (HTZ.out.on HA7.out.bl).frozen 0; have fz1 := (HTZ.out.on HA7.out.bl).frozen 1; have fz2 := (HTZ.out.on HA7.out.bl).frozen 2
      obtain ⟨me, hme⟩ : ∃ me, me = mkE T.nw c := ⟨_, rfl⟩
      rw [← hme]
      by_cases hm0 : me = 0
      · have HM0 : Hid (mkE T.nw c = 0) := hid (by rw [← hme]; exact hm0)
        clear hme
        subst hm0
        go_wp2_with fail
        refine (p7compose_any HA7.out.rd HR7.out (rightT_short HA.out.rt) (mkT_short HM0.out)).mono ?_
        rintro e w9 ⟨v9, rfl, hv9, hb9⟩
        obtain ⟨G, ng, cg, G2, ng2, cg2, G3, ng3, cg3, rfl, g1, g2, g3⟩ := hv9
        have HR9 : Hid (RdT w9 w9.heap.size (.agg #[.slice G ng cg, .slice G2 ng2 cg2, .slice G3 ng3 cg3]) (compT T (mkT T.nw c))) := hid ⟨_, _, _, _, _, _, _, _, _, rfl, g1, g2, g3⟩
        have HA9 := hid (HA7.out.on hb9)
        have HV9 := hid (HV7.out.on hb9)
        have HN9 : Hid (RdF w9 w9.heap.size E2 ne2 ce2 (mkT T.nw c).nw) := by
          obtain ⟨_, _, _, _, _, _, _, _, _, e1, _, r2, _⟩ := HR7.out.on hb9
          cases e1; exact hid r2
        clear g1 g2 g3 hb9 q0 q1 q2 p0 p1 p2
        clear z0 z1 z2 fz0 fz1 fz2
        obtain ⟨W8, hW8⟩ : ∃ W8, W8 = ((w9.setCell ⟨q, 0, none⟩ (.slice G ng cg)).setCell ⟨q, 1, none⟩ (.slice G2 ng2 cg2)).setCell ⟨q, 2, none⟩ (.slice G3 ng3 cg3) := ⟨_, rfl⟩
        have HWW := hid hW8
        have HB8 : Hid (Below w0.heap.size w0 W8) := by rw [hW8]; exact hid (B3 HA9.out.bl HA9.out.wq _ _ _)
        have HT8 : Hid (TBx W8 q (.slice G ng cg) (.slice G2 ng2 cg2) (.slice G3 ng3 cg3) 92) := by rw [hW8]; exact hid (HA9.out.tb.set3 _ _ _)
        have HV8 : Hid (TBx W8 p3 (.slice E ne ce) (.slice E2 ne2 ce2) (.slice E3 ne3 ce3) 92) := by rw [hW8]; exact hid (HV9.out.other3 (by have := HPQ.out; omega) _ _ _)
        have HR8 : Hid (RdT W8 W8.heap.size (.agg #[.slice G ng cg, .slice G2 ng2 cg2, .slice G3 ng3 cg3]) (compT T (mkT T.nw c))) := by
          rw [hW8]; exact hid (HR9.out.box3 HA9.out.tb ⟨_, _, _, rfl⟩ ⟨_, _, _, rfl⟩ ⟨_, _, _, rfl⟩ ⟨_, _, _, rfl⟩ ⟨_, _, _, rfl⟩ ⟨_, _, _, rfl⟩)
        have HN8 : Hid (RdF W8 W8.heap.size E2 ne2 ce2 (mkT T.nw c).nw) := by
          have hx := ((HN9.out.box HA9.out.tb ⟨_, _, _, rfl⟩ ⟨_, _, _, rfl⟩ ⟨_, _, _, rfl⟩ 0 (.slice G ng cg)).box (HA9.out.tb.set0 _) ⟨_, _, _, rfl⟩ ⟨_, _, _, rfl⟩ ⟨_, _, _, rfl⟩ 1 (.slice G2 ng2 cg2)).box ((HA9.out.tb.set0 _).set1 _) ⟨_, _, _, rfl⟩ ⟨_, _, _, rfl⟩ ⟨_, _, _, rfl⟩ 2 (.slice G3 ng3 cg3)
          rw [hW8]; simpa only [size_set] using hid hx
        have HTZ8 := hid (HTZ.out.on HB8.out)
        clear hW8
        obtain ⟨q0, q1, q2⟩ := HA9.out.tb.cells
        have f0 := HA9.out.tb.frozen 0; have f1 := HA9.out.tb.frozen 1; have f2 := HA9.out.tb.frozen 2
        go_upto_region 9 with fail
        rw [← HWW.out]
        clear q0 q1 q2 f0 f1 f2
        obtain ⟨q0, q1, q2⟩ := HT8.out.cells
        obtain ⟨p0, p1, p2⟩ := HV8.out.cells
        obtain ⟨z0, z1, z2⟩ := HTZ8.out.cells
        have fz0 := HTZ8.out.frozen 0; have fz1 := HTZ8.out.frozen 1; have fz2 := HTZ8.out.frozen 2
        cases hcb : compB T (mkT T.nw c) with
        | true =>
          rw [compE_ok' hcb]
          have HCBB := hid hcb
          have HNE := hid (mkT_nw hcb)
          clear hcb
          go_wp2_with fail
          refine ⟨⟨j + 1, by omega, by go_num, _, _, _, rfl, hid ⟨_, _, _, _, _, _, _, _, _, _, HT8.out, HR8.out, by rw [HNE.out]; exact HN8.out, HB8.out, HA9.out.wq, compT_right (fun x hx => ?_) (compE_ok' HCBB.out), HAT.out.trans (by rw [if_neg (by simp [HM0.out]), if_pos HCBB.out])⟩⟩, by simp [intOf]; omega⟩
          obtain ⟨_, _, _, _, _, _, _, _, _, _, _, _, r3⟩ := HA9.out.rd
          exact (r3.2.2.2.1 x hx).2.2
        | false =>
          rw [compE_no' hcb]
          have HE : Hid (all8 l cs = (Tb.none, 70)) := hid (HAT.out.trans (by rw [if_neg (by simp [HM0.out]), hcb]; rfl))
          clear hcb
          go_wp2_with fail
          exact ret_TBpe (by rfl) (by rfl) (HTZ8.out.set3 _ _ _) (by rfl) (by rfl) ⟨_, by rw [HE.out]; rfl, by rw [HE.out]; exact RdT.nil _ _, B3 (Bt HB0.out HB8.out) HRZ.out _ _ _⟩
      · have t1 : (me != 0) = true := by simpa using hm0
        have HE : Hid (all8 l cs = (Tb.none, me)) := hid (HAT.out.trans (by rw [if_pos (by rw [← hme]; exact hm0), hme]))
        clear hme hm0
        go_wp2_with fail
        exact ret_TBpe (by rfl) (by rfl) ((HTZ.out.on HA7.out.bl).set3 _ _ _) (by rfl) (by rfl) ⟨_, by rw [HE.out]; rfl, by rw [HE.out]; exact RdT.nil _ _, B3 (Bt HB0.out HA7.out.bl) HRZ.out _ _ _⟩
    · have hjm : j = m := by omega
      have HE : Hid (all8 l cs = (T, 0)) := hid (by rw [HA.out.al, hjm, List.drop_eq_nil_of_le (Nat.le_of_eq HML.out)]; rfl)
      have hji : ¬ ((j : Int) < m) := by omega
      obtain ⟨q0, q1, q2⟩ := HA.out.tb.cells
      obtain ⟨z0, z1, z2⟩ := (HTZ.out.on HA.out.bl).cells
      have fz0 := (HTZ.out.on HA.out.bl).frozen 0; have fz1 := (HTZ.out.on HA.out.bl).frozen 1; have fz2 := (HTZ.out.on HA.out.bl).frozen 2
      clear hjm
      go_wp2_with fail
      refine ret_TBpe (by rfl) (by rfl) ((HTZ.out.on HA.out.bl).set3 _ _ _) (by rfl) (by rfl) ⟨_, by rw [HE.out]; rfl, ?_, B3 (Bt HB0.out HA.out.bl) HRZ.out _ _ _⟩
      rw [HE.out]
      exact HA.out.rd.box3 (HTZ.out.on HA.out.bl) ⟨_, _, _, rfl⟩ ⟨_, _, _, rfl⟩ ⟨_, _, _, rfl⟩ ⟨_, _, _, rfl⟩ ⟨_, _, _, rfl⟩ ⟨_, _, _, rfl⟩
end Go.Proofs.YtaegencmnmjgbaaGreat
