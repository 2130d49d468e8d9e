/-
  The versions of a history from one on; a history of one version.
  The keys of a map with names as keys; names in order.
  Names, Versions and Fields of a catalogue.
-/
import Derived.Test.YtaegencmnmjgbaaGreatM50
import Derived.Test.YtaegencmnmjgbaaGreatM48
import Derived.Test.YtaegencmnmjgbaaGreatM47
import Derived.Sort.KeysCollected
import Derived.Test.YtaegencmnmjgbaaGreatM6
import Derived.Test.YtaegencmnmjgbaaGreatM36
import Derived.Test.YtaegencmnmjgbaaGreatM40
import Derived.Shelf.SlIter.Nil
import Derived.Shelf.SortM.Plain
import Derived.Shelf.SortM.SortNone

namespace Go.Proofs.YtaegencmnmjgbaaGreat
open Go.RowKit Go.Maps
set_option linter.unusedVariables false
set_option linter.unusedSimpArgs false
def SinceQ (w : World) (o : Option Ty) (v : Int) (e : Ending) (w' : World) : Prop := ∃ A n c, e = .returned (.slice A n c) ∧ RdTb w' w'.heap.size A n c (sinceL o v) ∧ Below w.heap.size w w'
def SinceR (w : World) (lo : Int) (A0 : Option Addr) (n0 c0 : Nat) (o : Option Ty) (v : Int) (e : Ending) (w' : World) : Prop := ∃ A n c, e = .returned (.slice A n c) ∧ (∀ W, Hist W lo A0 n0 c0 o → RdTb W W.heap.size A n c (sinceL o v)) ∧ Below w.heap.size w w'
set_option maxRecDepth 20000 in
set_option maxHeartbeats 4000000 in
theorem sinceR_any {w : World} {lo : Int} {A : Option Addr} {n c : Nat} {o : Option Ty} (h : Hist w lo A n c o) (ho : ∀ t, o = some t → okTy t) (v : Int) :
    Calls Tryz.prog 33 #[hV lo A n c, .int .i64 v] w (SinceR w lo A n c o v) := by
  obtain ⟨k1, k2, k3, k4⟩ := loO_ok ho
  have eN := h.rd.1
  have eL := h.lo
  rw [← eL] at k1 k2 k4
  rw [eN] at k3 k4
  clear eN eL
  have hni : (n : Int) ≤ 64 := by omega
  have hn0 : (0 : Int) ≤ n := by omega
  have HS : Hid (sinceL o v = if v < lo ∨ lo + (n : Int) - 1 < v then [] else (verO o).drop (v - lo).toNat) := by
    unfold sinceL; rw [h.lo, ← h.rd.1]; exact hid rfl
  obtain ⟨w0, hw0⟩ : ∃ w0, w0 = w.alloc (.cells #[.int .i64 lo, .slice A n c] 83) := ⟨_, rfl⟩
  obtain ⟨p0, hp0⟩ : ∃ p0, p0 = w.heap.size := ⟨_, rfl⟩
  have HW0 := hid hw0; have HP0 := hid hp0
  have HB0 : Hid (Below w.heap.size w w0) := by rw [hw0]; exact hid (B1 _ _)
  have HX0 : Hid (HBx w0 p0 lo A n c) := by rw [hw0, hp0]; exact hid (HBx.new _ _ _ _ _)
  have H0 : Hid (Hist w0 lo A n c o) := hid (h.on HB0.out)
  have HCC : Hid (n ≤ c) := hid h.rd.2.1
  have HCM : Hid (c ≤ maxLen) := hid h.rd.2.2.1
  clear h ho hw0 hp0
  unfold hV
  go_enter Tryz.func33, Tryz.ntmps33
  go_upto_region 1 with fail
  rw [← HW0.out, ← HP0.out]
  obtain ⟨c0, c1⟩ := HX0.out.cells
  by_cases g1 : v < lo
  · have t1 : decide (v < lo) = true := decide_eq_true g1
    have HE : Hid (sinceL o v = []) := by rw [HS.out, if_pos (.inl g1)]; exact hid rfl
    clear g1
    go_wp2_with fail
    go_ret
    exact ⟨_, _, _, rfl, fun W hW => by rw [HE.out]; exact RdTb.nil _ _, HB0.out⟩
  · have t1 : decide (v < lo) = false := decide_eq_false g1
    go_wp2_with fail
    refine (newest_any ⟨k1, by omega⟩ (by omega)).mono ?_
    rintro e w1 ⟨rfl, hb1⟩
    have HB1 := hid hb1
    have HX1 := hid (HX0.out.on hb1)
    clear c0 c1 hb1
    obtain ⟨c0, c1⟩ := HX1.out.cells
    by_cases g2 : lo + (n : Int) - 1 < v
    · have t2 : decide (lo + (n : Int) - 1 < v) = true := decide_eq_true g2
      have HE : Hid (sinceL o v = []) := by rw [HS.out, if_pos (.inr g2)]; exact hid rfl
      clear g2
      go_wp2_with fail
      go_ret
      exact ⟨_, _, _, rfl, fun W hW => by rw [HE.out]; exact RdTb.nil _ _, Bt HB0.out HB1.out⟩
    · have t2 : decide (lo + (n : Int) - 1 < v) = false := decide_eq_false g2
      obtain ⟨k, hk⟩ : ∃ k : Nat, v = lo + (k : Int) := ⟨(v - lo).toNat, by omega⟩
      have hkn : k < n := by omega
      have HE : Hid (sinceL o v = (verO o).drop k) := by
        rw [HS.out, if_neg (by omega)]
        have : (v - lo).toNat = k := by omega
        rw [this]; exact hid rfl
      obtain ⟨b, off, rfl, hlt, -⟩ := H0.out.rd.2.2.2 (by omega)
      have hki : (k : Int) < n := by omega
      have hk0 : (0 : Int) ≤ k := by omega
      clear g1 g2
      go_upto_region 3 with fail
      go_region
      go_wp2_with fail
      go_ret
      have ek : (lo + (k : Int) - lo).toNat = k := by omega
      refine ⟨_, _, _, rfl, fun W hW => ?_, Bt HB0.out (Bt HB1.out (Below.drew (B0 w1)))⟩
      rw [HE.out, ek]
      exact hW.rd.drop hkn (Nat.le_refl _) (by have := HCC.out; have := HCM.out; omega) rfl
theorem since_any {w : World} {lo : Int} {A : Option Addr} {n c : Nat} {o : Option Ty} (h : Hist w lo A n c o) (ho : ∀ t, o = some t → okTy t) (v : Int) :
    Calls Tryz.prog 33 #[hV lo A n c, .int .i64 v] w (SinceQ w o v) :=
  (sinceR_any h ho v).mono fun e w' ⟨A', n', c', he, hr, hb⟩ => ⟨A', n', c', he, hr w' (h.on hb), hb⟩
def BegQ (w : World) (v : Int) (x : Value) (e : Ending) (w' : World) : Prop := ∃ g, e = .returned (hV v (some ⟨g, 0, none⟩) 1 1) ∧ w.heap.size ≤ g ∧ TRow w' g 1 [(.slice none 0 0, x, .slice none 0 0)] ∧ Below w.heap.size w w'
theorem TRow.one {w : World} {g : Nat} {x : Value} (hx : slv x) (h : w.heap[g]? = some (.cells #[.slice none 0 0, x, .slice none 0 0] 92 (0, 0))) : TRow w g 1 [(.slice none 0 0, x, .slice none 0 0)] :=
  ⟨by simp, by simp [maxLen], _, h, rfl, rfl, fun v hv => by
    simp at hv
    rcases hv with rfl | rfl | rfl
    · exact slv_nil
    · exact hx
    · exact slv_nil⟩
theorem ret_HB {fn : Func} {p : Tmp} (hf : fn.results = #[.cell p 83]) {R : Ending → World → Prop} {a : Act} {w : World} {b : Nat} {lo : Int} {A : Option Addr} {n c : Nat} (hp : a.tmps.getD p undef = .pointer (some ⟨b, 0, none⟩)) (hv : HBx w b lo A n c)
    (hd : a.defers = []) (hR : R (.returned (hV lo A n c)) w) : bodyPost Tryz.prog fn R .ret a w :=
  bodyPost_ret_by (results_cell_row hf a.tmps w b 83 _ (0, 0) _ hp hv Tryz.underlying83 rfl (by kernel_rfl)) hd hR
set_option maxHeartbeats 2000000 in
theorem begin_any {w : World} (v : Int) (A : Option Addr) (n c : Nat) :
    Calls Tryz.prog 63 #[.int .i64 v, .slice A n c] w (BegQ w v (.slice A n c)) := by
  obtain ⟨w0, hw0⟩ : ∃ w0, w0 = w.alloc (.cells #[.int .i64 0, .slice none 0 0] 83) := ⟨_, rfl⟩
  obtain ⟨p0, hp0⟩ : ∃ p0, p0 = w.heap.size := ⟨_, rfl⟩
  have HW0 := hid hw0; have HP0 := hid hp0
  have HB0 : Hid (Below w.heap.size w w0) := by rw [hw0]; exact hid (B1 _ _)
  have HX0 : Hid (HBx w0 p0 0 none 0 0) := by rw [hw0, hp0]; exact hid (HBx.new _ _ _ _ _)
  obtain ⟨g, hg⟩ : ∃ g, g = w0.heap.size := ⟨_, rfl⟩
  obtain ⟨w1, hw1⟩ : ∃ w1, w1 = (w0.setCell ⟨p0, 0, none⟩ (.int .i64 v)).setCell ⟨p0, 1, none⟩ (.slice (some ⟨g, 0, none⟩) 1 1) := ⟨_, rfl⟩
  obtain ⟨w2, hw2⟩ : ∃ w2, w2 = w1.alloc (.cells #[.slice none 0 0, .slice A n c, .slice none 0 0] 92) := ⟨_, rfl⟩
  have HW1 := hid hw1; have HG := hid hg; have HW2 := hid hw2
  have HS1 : Hid (w1.heap.size = g) := by rw [hw1, hg]; exact hid (by simp)
  have HB1 : Hid (Below w.heap.size w w1) := by rw [hw1]; exact hid ((HB0.out.setCell (p := ⟨p0, 0, none⟩) (by show w.heap.size ≤ p0; omega) _).setCell (p := ⟨p0, 1, none⟩) (by show w.heap.size ≤ p0; omega) _)
  have HX1 : Hid (HBx w1 p0 v (some ⟨g, 0, none⟩) 1 1) := by rw [hw1]; exact hid (row_set (row_set HX0.out 0 _) 1 _)
  have HR2 : Hid (w2.heap[g]? = some (.cells #[.slice none 0 0, .slice A n c, .slice none 0 0] 92 (0, 0))) := by rw [hw2, ← HS1.out]; exact hid (heap_alloc_new _ _)
  have HX2 : Hid (HBx w2 p0 v (some ⟨g, 0, none⟩) 1 1) := by rw [hw2]; exact hid (HX1.out.on (B1 _ _))
  have HB2 : Hid (Below w.heap.size w w2) := by rw [hw2]; exact hid (Ba HB1.out _)
  have HGW : Hid (w.heap.size ≤ g) := hid (by rw [hg]; exact HB0.out.size)
  clear hw0 hp0 hw1 hg hw2
  obtain ⟨c0, c1⟩ := HX0.out.cells
  have f0 := HX0.out.frozen 0
  have f1 := HX0.out.frozen 1
  have hlt := row_lt HX0.out
  go_enter Tryz.func63, Tryz.ntmps63
  go_upto_region 1 with fail
  rw [← HW0.out, ← HP0.out]
  go_wp2_with fail
  rw [← HG.out, ← HW1.out, ← HW2.out]
  exact ret_HB (by rfl) (by rfl) HX2.out (by rfl) ⟨g, rfl, HGW.out, TRow.one ⟨_, _, _, rfl⟩ HR2.out, HB2.out⟩
end Go.Proofs.YtaegencmnmjgbaaGreat

namespace Go.Proofs.YtaegencmnmjgbaaGreat
open Go.RowKit Go.Maps
set_option linter.unusedVariables false
theorem ahead_le : ∀ {a b : List UInt8}, ahead a b = true → a ≤ b
  | [], _, _ => List.nil_le _
  | x :: a, [], h => by rw [ahead_nil] at h; cases h
  | x :: a, y :: b, h => by
    rcases ahead_cons.1 h with h1 | ⟨h2, h1⟩
    · exact List.cons_le_cons_iff.2 (.inl h1)
    · exact List.cons_le_cons_iff.2 (.inr ⟨h2, ahead_le h1⟩)
theorem rise_nodup {l : List Ty} (h : rise l) : (l.map Ty.nm).Nodup := List.pairwise_map.2 (h.imp (fun h => ahead_ne h))
theorem atT_isSome {l : List Ty} {k : List UInt8} : (atT l k).isSome = true ↔ k ∈ l.map Ty.nm := by
  rw [List.mem_map]
  constructor
  · intro h
    cases ha : atT l k with
    | none => rw [ha] at h; cases h
    | some t => obtain ⟨h1, h2⟩ := atT_some ha; exact ⟨t, h1, h2⟩
  · rintro ⟨t, ht, rfl⟩
    cases ha : atT l t.nm with
    | none => exact absurd rfl (atT_none ha t ht)
    | some u => rfl
theorem rise_sorted {l : List Ty} (h : rise l) {ss : List (List UInt8)} (hp : ss.Perm (l.map Ty.nm)) : ss.mergeSort leB = l.map Ty.nm := by
  rw [mergeSort_of_perm hp]
  exact List.mergeSort_of_pairwise (List.pairwise_map.2 (h.imp (fun h => by simp only [leB, decide_eq_true_eq]; exact ahead_le h)))
theorem Ms.keys {w : World} {b n : Nat} {f : List UInt8 → Option Value} (h : Ms w b n f) : ∃ D : DataW Value, w.ownsMap Tryz.prog 9 RV b n D ∧
    ∀ ks : List (List UInt8), ks.Nodup → (∀ x, x ∈ ks ↔ (f x).isSome = true) → ks.Perm (strKeys D) ∧ Maps.size D = ks.length := by
  obtain ⟨D, ho, h1, h2⟩ := h
  refine ⟨D, ho, fun ks hn hm => ?_⟩
  obtain ⟨es, hD, hpw, _⟩ := ho.entries kS
  obtain ⟨es', hD', hko⟩ := ho.keysOf
  obtain rfl : es = es' := by rw [hD] at hD'; simpa using hD'
  subst hD
  have hstr : ∀ p ∈ es, ∃ x : List UInt8, p.1 = .string x ∧ x.length ≤ maxLen := fun p hp => by
    obtain ⟨v, hv⟩ := hko p hp; obtain ⟨x, _, hx, hl⟩ := Maps.keyOf_str Tryz.underlying9 hv; exact ⟨x, hx, hl⟩
  have hp := perm_strKeys hpw (fun p hp => by obtain ⟨x, hx, _⟩ := hstr p hp; exact ⟨x, hx⟩) hn (fun x => by
    rw [hm x]
    by_cases hx : SK x
    · rw [has_vw (h1 x hx)]
    · constructor
      · intro hs
        cases hf : f x with
        | none => rw [hf] at hs; cases hs
        | some u => exact absurd (h2 x (by rw [hf]; simp)) hx
      · intro hs
        rw [has_eq, List.any_eq_true] at hs
        obtain ⟨p, hp, hs⟩ := hs
        obtain ⟨y, hy, hl⟩ := hstr p hp
        rw [hy] at hs
        have e : y = x := by simpa [Lit.sameKey] using hs
        subst e
        exact absurd hl hx)
  refine ⟨hp, ?_⟩
  have := hp.length_eq
  rw [this]
  simp [strKeys, Maps.size]
end Go.Proofs.YtaegencmnmjgbaaGreat

namespace Go.Proofs.YtaegencmnmjgbaaGreat
open Go.RowKit Go.Maps Go.Sort Go.Shelf
set_option linter.unusedVariables false
set_option linter.unusedSimpArgs false
def stCel (s : List UInt8) : List Value := [.string (bs s)]
def stP (w : World) (B : Nat) (s : List UInt8) : Prop := s.length ≤ 100000
theorem stPB : PB stP := ⟨fun h _ => h, fun h _ => h⟩
abbrev RdSt := RdG (some 9) 1 stCel stP
abbrev OwSt := OwG 9 1 stCel
theorem stLen (s : List UInt8) : (stCel s).length = 1 := rfl
theorem cells_st (l : List (List UInt8)) : l.map encStr = cellsG stCel l := by
  induction l with
  | nil => rfl
  | cons a l ih => rw [cellsG_cons, List.map_cons, ih]; rfl
theorem sortsS (m : Nat) : AnyZ.SortsIn Tryz.prog Tryz.sortedS_ren Fence.wide m :=
  ⟨fun blk off cap ss W hH hblk hsz => callsIn_wide.2 (AnyM.slices_Sort_string Tryz.sortS blk off cap ss W hH hblk hsz),
   fun p cap W => callsIn_wide.2 (AnyM.slices_Sort_string_none Tryz.sortS p cap W)⟩
set_option maxHeartbeats 4000000 in
theorem keysP_any (w : World) (b : Nat) : Calls Tryz.prog 53 #[.map (some b)] w fun e w' => e = .returned (.func (.func 87) #[] #[.pointer (some ⟨w.heap.size, 0, none⟩)]) ∧ w' = w.alloc (.cells #[.map (some b)] 84) :=
  (callsIn_wide (n := 5)).1 (AnyZ.keys_in Tryz.keysS Fence.wide 5 trivial rfl (some b) w)
set_option maxHeartbeats 4000000 in
theorem sortedP_any {w : World} {b nn : Nat} {D0 : DataW Value} (hown : w.ownsMap Tryz.prog 9 RV b nn D0) (hmax : Maps.size D0 ≤ 1000) :
    Calls Tryz.prog 52 #[.func (.func 87) #[] #[.pointer (some ⟨w.heap.size, 0, none⟩)]] (w.alloc (.cells #[.map (some b)] 84)) fun e w' => ∃ (v : Value) (ss : List (List UInt8)), e = .returned v ∧ ss.Perm (strKeys D0) ∧
      w'.ownsRow (w.heap.size + 1) 9 1 v ss.length ((ss.mergeSort leB).map encStr) ∧ Below (w.heap.size + 1) (w.alloc (.cells #[.map (some b)] 84)) w' := by
  have hbl := hown.lt
  have hseq : SeqGives Fence.wide 2 Tryz.prog 87 #[.pointer (some ⟨w.heap.size, 0, none⟩)] encStr (fun ss => ss.Perm (strKeys D0)) (Maps.size D0) (w.alloc (.cells #[.map (some b)] 84)) :=
    AnyZ.keys_gives (ρ := Tryz.keysS_ren) { Tryz.keysS with } Fence.wide _ trivial rfl (by omega) w.heap.size b nn D0 _ (by simp) (by simp) (by
      obtain ⟨es, clock, hb, Ft, hs, hD⟩ := hown
      exact ⟨es, clock, (Below.heap_alloc _ _ b hbl).trans hb, Ft, hs, hD⟩)
  have cS := AnyZ.sorted_in Tryz.sortedS Fence.wide 5 trivial trivial trivial trivial rfl (by omega) (sortsS _) (enters_of Tryz.func86 (by kernel_rfl) rfl) 87 #[.pointer (some ⟨w.heap.size, 0, none⟩)] trivial (enters_of Tryz.func87 (by kernel_rfl) rfl) _ _ (by unfold maxLen; omega) (by omega) _ hseq
  change CallsIn _ _ Tryz.prog 52 _ _ _ at cS
  refine (callsIn_wide.1 cS).mono ?_
  rintro e w' ⟨v, ss, rfl, hS, hrow, hnil, hb⟩
  have hrow2 := hrow
  have hb2 := hb
  simp only [World.size_alloc] at hrow2 hb2
  exact ⟨v, ss, rfl, hS, hrow2, hb2⟩
set_option maxHeartbeats 4000000 in
theorem names_any {w : World} {c mb n B : Nat} {r : List UInt8 → Pl} {l : List Ty} (h : Cat w c mb n B r l) :
    Calls Tryz.prog 19 #[.pointer (some ⟨c, 0, none⟩)] w fun e w' => ∃ A m cp, e = .returned (.slice A m cp) ∧ RdSt w' w'.heap.size A m cp (l.map Ty.nm) ∧ Below w.heap.size w w' := by
  have c0 : w.cell? ⟨c, 0, none⟩ = some (.map (some mb)) := row_cell h.box 0
  obtain ⟨D, ho, hk⟩ := h.mp.keys
  obtain ⟨hp, hsz⟩ := hk (l.map Ty.nm) (rise_nodup h.ok.1) (fun x => by rw [← atT_isSome]; unfold catF; cases atT l x <;> rfl)
  rw [List.length_map] at hsz
  have h16 := h.ok.2.1
  have HS := hid (sortedP_any ho (by omega))
  have HRS := hid h.ok.1
  have HPM := hid hp
  have HNM : Hid (∀ s ∈ l.map Ty.nm, s.length ≤ 100000) := hid (fun s hs => by
    obtain ⟨t, ht, rfl⟩ := List.mem_map.1 hs
    have := name_short (h.ok.2.2 t ht).1
    omega)
  clear ho hk hp hsz h16
  go_enter Tryz.func19, Tryz.ntmps19
  go_wp2_with fail
  refine (keysP_any w mb).mono ?_
  rintro e w1 ⟨rfl, rfl⟩
  go_wp2_with fail
  refine HS.out.mono ?_
  rintro e w2 ⟨v, ss, rfl, hS, hrow, hb⟩
  have hm : ss.mergeSort leB = l.map Ty.nm := rise_sorted HRS.out (hS.trans HPM.out.symm)
  have hlen : ss.length = (l.map Ty.nm).length := (hS.trans HPM.out.symm).length_eq
  rw [hm, hlen, cells_st] at hrow
  have hrow' : OwSt w2 (w.heap.size + 1) v (l.map Ty.nm) := hrow
  obtain ⟨A, cp, rfl, hrd⟩ := hrow'.rd (P := stP) stLen (fun a ha => HNM.out a ha)
  rw [List.length_map] at hrd
  have HRD := hid hrd
  clear hrow hrow' hrd hm hlen hS
  go_wp2_with fail
  go_ret
  exact ⟨_, _, _, rfl, HRD.out, (B1 w _).trans (hb.mono (by omega))⟩
theorem run_loadHB {w : World} {b : Nat} {lo : Int} {A : Option Addr} {n c : Nat} (h : HBx w b lo A n c) : (loadVar 83 ⟨b, 0, none⟩).run Tryz.prog w = .ok (.agg #[.int .i64 lo, .slice A n c]) w :=
  run_loadVar_row w b 83 83 #[.int .i64 lo, .slice A n c] (0, 0) _ h Tryz.underlying83 rfl (by kernel_rfl)
def versV (o : Option Ty) : Value := match o with | none => .tuple #[.int .i64 0, .int .i64 0, .int .i64 90] | some t => .tuple #[.int .i64 t.lo, .int .i64 t.hi, .int .i64 0]
set_option maxHeartbeats 4000000 in
theorem versions_any {w : World} {c mb n B : Nat} {r : List UInt8 → Pl} {l : List Ty} (h : Cat w c mb n B r l) (k : List UInt8) (hk : SK k) :
    Calls Tryz.prog 13 #[.pointer (some ⟨c, 0, none⟩), .string (bs k)] w fun e w' => e = .returned (versV (atT l k)) ∧ Below w.heap.size w w' := by
  have H := hid h; have HK := hid hk
  clear h hk
  go_enter Tryz.func13, Tryz.ntmps13
  go_wp2_with fail
  refine (has_any H.out k HK.out).mono ?_
  rintro e w1 ⟨rfl, hb1⟩
  have HB1 := hid hb1
  have HC := hid (H.out.on hb1)
  clear hb1
  cases ha : atT l k with
  | none =>
    go_wp2_with fail
    go_ret3
    exact ⟨by rw [ha]; rfl, HB1.out⟩
  | some t =>
    have ht := HC.out.okO k t ha
    obtain ⟨lo, A, m, cp, e1, e2, e3⟩ := HC.out.look k
    have hl := HC.out.mp.look Tryz.underlying84 (Tryz.zeroValue83 w1) HK.out
    change (Instr.lookup 84 (.map (some mb)) (.string (bs k)) false).run Tryz.prog w1 = .ok ((catF l r k).getD (hV 0 none 0 0)) w1 at hl
    rw [e1] at hl
    rw [ha] at e2
    obtain ⟨k1, k2, k3, k4⟩ := loO_ok (o := some t) (fun u hu => by cases hu; exact ht)
    rw [← e2.lo] at k1 k2
    rw [e2.rd.1] at k3
    have HA := hid ha
    have HLO : Hid (lo = t.lo) := hid e2.lo
    have HM : Hid ((m : Int) = t.ts.length + 1) := hid (by have := e2.rd.1; rw [← this]; show ((verL t).length : Int) = _; rw [verL_length]; omega)
    have HHI : Hid (lo + (m : Int) - 1 = t.hi) := hid (by rw [HLO.out, HM.out]; unfold Ty.hi; have := ht.2.2.2.1; omega)
    have c0 : w1.cell? ⟨c, 0, none⟩ = some (.map (some mb)) := row_cell HC.out.box 0
    obtain ⟨w2, hw2⟩ : ∃ w2, w2 = w1.alloc (.cells #[.int .i64 lo, .slice A m cp] 83) := ⟨_, rfl⟩
    obtain ⟨p, hp⟩ : ∃ p, p = w1.heap.size := ⟨_, rfl⟩
    have HW2 := hid hw2; have HP := hid hp
    have HX2 : Hid (HBx w2 p lo A m cp) := by rw [hw2, hp]; exact hid (HBx.new _ _ _ _ _)
    have HB2 : Hid (Below w1.heap.size w1 w2) := by rw [hw2]; exact hid (B1 _ _)
    unfold hV at hl
    clear e1 e2 e3 hw2 hp ht ha k4
    go_upto_region 4 with fail
    rw [← HW2.out, ← HP.out]
    refine reg_begin (by kernel_rfl) (fun w0a hx0a hHeld => ?_)
    have x9 : ∀ w', Ext w0a w' → HBx w' p lo A m cp := fun w' h => (HX2.out.on (Bt (B0 _) hx0a)).on h
    have x0 := fun w' h => (x9 w' h).cells.1
    have x1 := fun w' h => (x9 w' h).cells.2
    have y1 := fun w' (h : Ext w0a w') => run_loadHB (x9 w' h)
    clear x9
    refine reg_take 0 (v := ?vb0) at0 (by kernel_rfl) (by kernel_rfl) (by kernel_rfl) (by rfl) ?hyb0 hHeld ?restb0
    case hyb0 => (intro w' hSw; go_simp; try with_reducible rfl)
    try simp only [Act.put, List.setIfInBounds_toArray, List.set_cons_zero, List.set_cons_succ]
    refine reg_take 1 (v := ?vb1) (atS at0) (by kernel_rfl) (by kernel_rfl) (by kernel_rfl) (by rfl) ?hyb1 hHeld ?restb1
    case hyb1 => (intro w' hSw; go_simp; try with_reducible rfl)
    try simp only [Act.put, List.setIfInBounds_toArray, List.set_cons_zero, List.set_cons_succ]
    refine reg_take 2 (v := ?vb2) (atS (atS at0)) (by kernel_rfl) (by kernel_rfl) (by kernel_rfl) (by rfl) ?hyb2 hHeld ?restb2
    case hyb2 => (intro w' hSw; go_simp; try with_reducible rfl)
    try simp only [Act.put, List.setIfInBounds_toArray, List.set_cons_zero, List.set_cons_succ]
    refine wpAnyH_ready (rs := [3]) (by kernel_rfl) (by simp) ?_
    refine AllReadyH.cons (atS (atS (atS at0))) (fun K hK => ?_) AllReadyH.nil
    go_simp
    refine (newest_any ⟨k1, by omega⟩ (by omega)).mono ?_
    rintro e w4 ⟨rfl, hb4⟩
    go_wp2_with fail
    refine hK.out _ _ hb4 (fun hHeld => ?_)
    clear hK K
    try simp only [Act.put, List.setIfInBounds_toArray, List.set_cons_zero, List.set_cons_succ]
    refine reg_on hb4 (fun hHeld => ?_)
    refine reg_take 4 (v := ?vb4) (atS (atS (atS (atS at0)))) (by kernel_rfl) (by kernel_rfl) (by kernel_rfl) (by rfl) ?hyb4 hHeld ?restb4
    case hyb4 => (intro w' hSw; go_simp; try with_reducible rfl)
    try simp only [Act.put, List.setIfInBounds_toArray, List.set_cons_zero, List.set_cons_succ]
    refine reg_take 5 (v := ?vb5) (atS5 at0) (by kernel_rfl) (by kernel_rfl) (by kernel_rfl) (by rfl) ?hyb5 hHeld ?restb5
    case hyb5 => (intro w' hSw; go_simp; try with_reducible rfl)
    try simp only [Act.put, List.setIfInBounds_toArray, List.set_cons_zero, List.set_cons_succ]
    refine reg_take 6 (v := ?vb6) (atS5 (atS at0)) (by kernel_rfl) (by kernel_rfl) (by kernel_rfl) (by rfl) ?hyb6 hHeld ?restb6
    case hyb6 => (intro w' hSw; go_simp; try with_reducible rfl)
    try simp only [Act.put, List.setIfInBounds_toArray, List.set_cons_zero, List.set_cons_succ]
    refine wpAnyH_done (by kernel_rfl) ?_ _
    refine NoPanic.normal ?_
    clear x0 x1 y1
    go_wp2_with fail
    go_ret3
    refine ⟨?_, Bt HB1.out (Bt HB2.out (Bt hx0a hb4))⟩
    rw [HHI.out, HLO.out, HA.out]; rfl
theorem since_none {o : Option Ty} (ho : ∀ t, o = some t → okTy t) {v : Int} (h : sinceL o v = []) : fieldsT o v = ([], 90) := by
  unfold fieldsT
  cases o with
  | none => rfl
  | some t =>
    have hl := (ho t rfl).2.2.2.1
    unfold sinceL at h
    change (if v < t.lo ∨ t.lo + ((verL t).length : Int) - 1 < v then [] else (verL t).drop (v - t.lo).toNat) = [] at h
    rw [verL_length] at h
    have e : t.lo + ((t.ts.length + 1 : Nat) : Int) - 1 = t.hi := by unfold Ty.hi; omega
    rw [e] at h
    by_cases c : v < t.lo ∨ t.hi < v
    · exact if_pos c
    · rw [if_neg c] at h
      have := congrArg List.length h
      rw [List.length_drop, verL_length, List.length_nil] at this
      unfold Ty.hi at c e
      omega
theorem since_some {o : Option Ty} (ho : ∀ t, o = some t → okTy t) {v : Int} {T : Tb} {rest : List Tb} (h : sinceL o v = T :: rest) : ∃ t, o = some t ∧ t.lo ≤ v ∧ v ≤ t.hi ∧ t.fs[(v - t.lo).toNat]? = some T.nw ∧ fieldsT o v = (T.nw, 0) ∧ rest = t.ts.drop (v - t.lo).toNat := by
  unfold fieldsT
  cases o with
  | none => simp [sinceL, verO] at h
  | some t =>
    have hl := (ho t rfl).2.2.2.1
    unfold sinceL at h
    change (if v < t.lo ∨ t.lo + ((verL t).length : Int) - 1 < v then [] else (verL t).drop (v - t.lo).toNat) = _ at h
    rw [verL_length] at h
    have e : t.lo + ((t.ts.length + 1 : Nat) : Int) - 1 = t.hi := by unfold Ty.hi; omega
    rw [e] at h
    by_cases c : v < t.lo ∨ t.hi < v
    · rw [if_pos c] at h; cases h
    · rw [if_neg c] at h
      have h0 : (verL t)[(v - t.lo).toNat]? = some T := by
        have := congrArg (fun l => l[0]?) h
        simpa [List.getElem?_drop] using this
      have h1 := verL_nw (ho t rfl) h0
      refine ⟨t, rfl, by omega, by omega, h1, ?_, ?_⟩
      · dsimp only; rw [if_neg c, h1]; rfl
      · have := congrArg List.tail h
        rw [List.tail_cons, List.tail_drop] at this
        rw [← this]; rfl
def FieldsQ (w : World) (o : Option Ty) (v : Int) (e : Ending) (w' : World) : Prop := ∃ A n c, e = .returned (.tuple #[.slice A n c, .int .i64 (fieldsT o v).2]) ∧ RdF w' w'.heap.size A n c (fieldsT o v).1 ∧ Below w.heap.size w w'
set_option maxRecDepth 20000 in
set_option maxHeartbeats 4000000 in
theorem fields_any {w : World} {c mb n B : Nat} {r : List UInt8 → Pl} {l : List Ty} (h : Cat w c mb n B r l) (k : List UInt8) (hk : SK k) (v : Int) :
    Calls Tryz.prog 14 #[.pointer (some ⟨c, 0, none⟩), .string (bs k), .int .i64 v] w (FieldsQ w (atT l k) v) := by
  obtain ⟨lo, A, m, cp, e1, e2, e3⟩ := h.look k
  have hl := h.mp.look Tryz.underlying84 (Tryz.zeroValue83 w) hk
  change (Instr.lookup 84 (.map (some mb)) (.string (bs k)) false).run Tryz.prog w = .ok ((catF l r k).getD (hV 0 none 0 0)) w at hl
  rw [e1] at hl
  have c0 : w.cell? ⟨c, 0, none⟩ = some (.map (some mb)) := row_cell h.box 0
  have HOK := hid (h.okO k)
  have HH := hid e2
  clear e1 e2 e3 h
  go_enter Tryz.func14, Tryz.ntmps14
  go_wp2_with fail
  refine (since_any HH.out HOK.out v).mono ?_
  rintro e w1 ⟨A1, n1, c1, rfl, hrd, hb1⟩
  have HB1 := hid hb1
  have HN := hid hrd.1
  cases hs : sinceL (atT l k) v with
  | nil =>
    rw [hs] at HN
    have hn1 : n1 = 0 := HN.out.symm
    subst hn1
    have HE := hid (since_none HOK.out hs)
    clear hs hrd hb1
    go_wp2_with fail
    go_ret2
    refine ⟨_, _, _, by rw [HE.out]; rfl, by rw [HE.out]; exact RdF.nil _ _, HB1.out⟩
  | cons T rest =>
    obtain ⟨t, ho, h1, h2, h3, h4, h5⟩ := since_some HOK.out hs
    rw [hs] at hrd
    have hn0 : 0 < n1 := by have := hrd.1; rw [List.length_cons] at this; omega
    have hni : ((n1 : Int) == 0) = false := by simp; omega
    obtain ⟨_, b, off, rfl, hlt, v1, v2, v3, hr, hc⟩ := hrd.at (i := 0) (T := T) rfl
    rw [Nat.zero_mul, Nat.add_zero] at hc
    obtain ⟨B1', m1, d1, B2', m2, d2, B3', m3, d3, er, r1, r2, r3⟩ := hr
    cases er
    obtain ⟨d0, dd1, dd2⟩ := hc w1 (B0 _)
    have H2 := hid r2
    have HE := hid h4
    have hcap : n1 ≤ c1 := hrd.2.1
    have HM2 : Hid (m2 ≤ 1000) := hid (by
      have := right_len ((HOK.out t ho).2.2.2.2.1 _ (List.mem_of_getElem? h3))
      have := r2.1; omega)
    clear hs hrd hb1 ho h1 h2 h3 h4 h5 hc r1 r2 r3 hlt HH
    go_wp2_with fail
    refine (fclone_any H2.out (by have := HM2.out; omega)).mono ?_
    rintro e w2 ⟨u, rfl, ho2, hb2⟩
    obtain ⟨A2, c2, rfl, hrd2⟩ := ho2.rd H2.out.2.2.2.1
    have HR2 := hid hrd2
    have HB2 := hid hb2
    clear ho2 hrd2 hb2
    go_wp2_with fail
    go_ret2
    exact ⟨_, _, _, by rw [HE.out]; rfl, by rw [HE.out]; exact HR2.out, Bt HB1.out HB2.out⟩
end Go.Proofs.YtaegencmnmjgbaaGreat
