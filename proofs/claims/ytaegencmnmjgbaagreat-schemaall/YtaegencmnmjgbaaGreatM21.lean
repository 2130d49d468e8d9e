/-
  The program's Find, Right, step, up of layer 6.
  A range over a function: what is asked of the value that is ranged over, and of the loop's body; regions of a round by the laws of plain regions.
-/
import Derived.Test.YtaegencmnmjgbaaGreatM20
import Derived.Test.YtaegencmnmjgbaaGreatM11
import Derived.Test.YtaegencmnmjgbaaGreatM3
import Derived.RangeFuncNested
import Derived.RangeFuncLeaves
import Derived.Shelf.Abstract
import Derived.OwnWalkIn
import Derived.TacticsInMore
import Derived.LoopNIn
import Derived.LoopIn

namespace Go.Proofs.YtaegencmnmjgbaaGreat
open Go.RowKit
set_option linter.unusedVariables false
set_option maxHeartbeats 2000000 in
theorem p6find_any {w : World} {A : Option Addr} {n c : Nat} {l : List Fd} (h : RdF w w.heap.size A n c l) (nm : List UInt8) :
    Calls Tryz.prog 102 #[.slice A n c, .string (bs nm)] w fun e w' => e = .returned (.int .i64 (findI l nm)) ∧ Below w.heap.size w w' := by
  have HL := hid h.1
  have hnm : (n : Int) ≤ 9223372036854775807 := by have := Nat.le_trans h.2.1 h.2.2.1; unfold maxLen at this; omega
  have H := hid h; clear h
  go_enter Tryz.func102, Tryz.ntmps102
  go_wp2_with fail
  go_loopw [9] (fun i wr => ∃ j : Nat, j ≤ n ∧ i = .int .i64 j ∧ Hid (∀ m, m < j → ∀ f, l[m]? = some f → f.nm ≠ nm) ∧ Hid (Below w.heap.size w wr)) (fun i _ => n - (intOf i).toNat)
  case atStart => exact ⟨0, by omega, rfl, hid (fun m hm => absurd hm (by omega)), B0 w⟩
  case round =>
    obtain ⟨j, hj, rfl, HN, HB⟩ := hrel
    by_cases hlt : j < n
    · have hjl : j < l.length := by have := HL.out; omega
      obtain ⟨f, hf⟩ : ∃ f, l[j]? = some f := ⟨_, List.getElem?_eq_getElem hjl⟩
      obtain ⟨_, hk64, hg64, hnl, b, off, rfl, hc⟩ := H.out.at hf
      obtain ⟨c0, cc1, cc2⟩ := hc wr HB.out
      have HF := hid hf
      have HB2 : Hid (∀ o : Obj, Below w.heap.size w (wr.alloc o)) := fun o => Ba HB.out o
      have hji : (j : Int) < n := by omega
      have hj0 : (0 : Int) ≤ j := by omega
      clear hc hjl hf hk64 hg64 hnl
      by_cases he : f.nm = nm
      · have t1 : (f.nm == nm) = true := by simpa using he
        have t2 : decide (f.nm = nm) = true := by simpa using he
        have HE : Hid (findI l nm = (j : Int)) := findI_some (findN_some HF.out he HN.out)
        clear he
        go_wp2_with fail
        go_ret
        exact ⟨by rw [HE.out]; rfl, HB2.out _⟩
      · have t1 : (f.nm == nm) = false := by rw [beq_eq_false_iff_ne]; exact he
        have t2 : decide (f.nm = nm) = false := by simpa using he
        have HE := hid he
        clear he
        go_wp2_with fail
        go_roundw
        case rel => exact ⟨j + 1, by omega, by simp, hid (fun m hm f' hf' => by
          by_cases e : m = j
          · subst e; rw [HF.out] at hf'; cases hf'; exact HE.out
          · exact HN.out m (by omega) f' hf'), HB2.out _⟩
        case measure => simp [intOf]; omega
    · obtain rfl : j = n := by omega
      have HE : Hid (findI l nm = -1) := findI_none (findN_no fun f hf => by
        obtain ⟨i, hi⟩ := List.mem_iff_getElem?.1 hf
        refine HN.out i ?_ f hi
        have := HL.out
        by_cases c : i < l.length
        · omega
        · rw [List.getElem?_eq_none (by omega)] at hi; cases hi)
      go_wp2_with fail
      go_ret
      exact ⟨by rw [HE.out]; rfl, HB.out⟩
def upI (n s : Int) : Int := (n + s - 1) / s * s
theorem up_any (n s : Int) (w : World) (h0 : 0 ≤ n) (h1 : n ≤ 100000) (h2 : 1 ≤ s) (h3 : s ≤ 64) :
    Calls Tryz.prog 127 #[.int .i64 n, .int .i64 s] w fun e w' => e = .returned (.int .i64 (upI n s)) ∧ w = w' := by
  have q1 : IntKind.i64.wrap (n + s) = n + s := by rw [IntKind.wrap_i64]; omega
  have q2 : IntKind.i64.wrap (n + s - 1) = n + s - 1 := by rw [IntKind.wrap_i64]; omega
  have q3 : (n + s - 1).tdiv s = (n + s - 1) / s := Int.tdiv_eq_ediv_of_nonneg (by omega)
  obtain ⟨d, hd⟩ : ∃ d, d = (n + s - 1) / s := ⟨_, rfl⟩
  have hd0 : 0 ≤ d := by rw [hd]; exact Int.ediv_nonneg (by omega) (by omega)
  have hd1 : d ≤ 100064 := by rw [hd]; exact Int.le_trans (Int.ediv_le_self _ (by omega)) (by omega)
  have hm : d * s ≤ n + s - 1 := by rw [hd]; exact Int.ediv_mul_le _ (by omega)
  have hm0 : 0 ≤ d * s := Int.mul_nonneg hd0 (by omega)
  rw [← hd] at q3
  have q4 : IntKind.i64.wrap d = d := by rw [IntKind.wrap_i64]; omega
  have q5 : IntKind.i64.wrap (d * s) = d * s := by rw [IntKind.wrap_i64]; omega
  have s0 : (s == 0) = false := by rw [beq_eq_false_iff_ne]; omega
  have s1 : s ≠ 0 := by omega
  have HE : Hid (upI n s = d * s) := by show _ = _; unfold upI; rw [← hd]
  clear hd hm hm0
  go_enter Tryz.func127, Tryz.ntmps127
  go_wp2_with fail
  go_ret
  exact ⟨by rw [HE.out]; rfl, rfl⟩
def stepF (f : Fd) : Int := if f.k = 12 then 1 else f.long
theorem step_any (f : Fd) (w : World) :
    Calls Tryz.prog 161 #[.agg #[.string (bs f.nm), .int .i64 f.k, .int .i64 f.g]] w fun e w' => e = .returned (.int .i64 (stepF f)) ∧ Below w.heap.size w w' := by
  by_cases h12 : f.k = 12
  · have t1 : (f.k == 12) = true := by rw [h12]; rfl
    have HE : Hid (stepF f = 1) := by show _ = _; unfold stepF; rw [if_pos h12]
    clear h12
    go_enter Tryz.func161, Tryz.ntmps161
    go_wp2_with fail
    go_ret
    exact ⟨by rw [HE.out]; rfl, B1 _ _⟩
  · have t1 : (f.k == 12) = false := by simpa using h12
    have HE : Hid (stepF f = longF f.k f.g) := by show _ = _; unfold stepF; rw [if_neg h12]; rfl
    clear h12
    go_enter Tryz.func161, Tryz.ntmps161
    go_wp2_with fail
    refine (klong_any (bs f.nm) f.k f.g _).mono ?_
    rintro e w1 ⟨rfl, hb1⟩
    go_wp2_with fail
    go_ret
    exact ⟨by rw [HE.out]; rfl, Bt (B1 _ _) hb1⟩
theorem step_bd {f : Fd} (h : f.may = true) : 1 ≤ stepF f ∧ stepF f ≤ 64 := by
  unfold stepF
  by_cases c : f.k = 12
  · rw [if_pos c]; omega
  · rw [if_neg c]; exact long_pos h
theorem up_place (a : Int) (f : Fd) : upI a (stepF f) = placeF a f := by
  unfold upI stepF placeF
  by_cases c : f.k = 12
  · rw [if_pos c, if_pos c]; omega
  · rw [if_neg c, if_neg c]
theorem up_up8 (n : Int) : upI n 8 = up8 n := by unfold upI up8; congr 2; omega
set_option maxHeartbeats 4000000 in
theorem p6right_any {w : World} {A : Option Addr} {n c : Nat} {l : List Fd} (h : RdF w w.heap.size A n c l) (hs : short l) :
    Calls Tryz.prog 65 #[.slice A n c] w fun e w' => e = .returned (.bool (rightL l)) ∧ Below w.heap.size w w' := by
  have HL := hid h.1
  have H := hid h; have HS := hid hs; clear h hs
  by_cases h16 : 16 < n
  · have d0 : decide ((16 : Int) < (n : Int)) = true := decide_eq_true (by omega)
    have HE : Hid (rightL l = false) := by
      show _ = _
      cases hr : rightL l with
      | false => rfl
      | true => have := right_len hr; have := HL.out; omega
    clear h16
    go_enter Tryz.func65, Tryz.ntmps65
    go_wp2_with fail
    go_ret
    exact ⟨by rw [HE.out]; rfl, B0 _⟩
  have d0 : decide ((16 : Int) < (n : Int)) = false := decide_eq_false (by omega)
  have hn16 : n ≤ 16 := by omega
  clear h16
  go_enter Tryz.func65, Tryz.ntmps65
  go_wp2_with fail
  go_loopw [10] (fun i wr => ∃ j : Nat, j ≤ n ∧ i = .int .i64 j ∧ Hid (∀ m, m < j → ∀ f, l[m]? = some f → nameB f.nm = true ∧ f.may = true ∧ findN l f.nm = some m) ∧ Hid (Below w.heap.size w wr)) (fun i _ => n - (intOf i).toNat)
  case atStart => exact ⟨0, by omega, rfl, hid (fun m hm => absurd hm (by omega)), B0 w⟩
  case round =>
    obtain ⟨j, hj, rfl, HA, HB⟩ := hrel
    by_cases hlt : j < n
    · have hjl : j < l.length := by have := HL.out; omega
      obtain ⟨f, hf⟩ : ∃ f, l[j]? = some f := ⟨_, List.getElem?_eq_getElem hjl⟩
      obtain ⟨_, hk64, hg64, hnl, b, off, rfl, hc⟩ := H.out.at hf
      have HF := hid hf
      have hsf : f.nm.length ≤ 140737488351232 := HS.out f (List.mem_of_getElem? hf)
      have HSF := hid hsf
      obtain ⟨c0, c1, c2⟩ := hc wr HB.out
      have hji : (j : Int) < n := by omega
      have hj0 : (0 : Int) ≤ j := by omega
      obtain ⟨wv, hwv⟩ : ∃ wv, wv = wr.alloc (.cells #[.string (bs f.nm), .int .i64 f.k, .int .i64 f.g] 68) := ⟨_, rfl⟩
      obtain ⟨q, hq⟩ : ∃ q, q = wr.heap.size := ⟨_, rfl⟩
      have HWV := hid hwv; have HQ := hid hq
      have HFB : Hid (FB wv q (bs f.nm) f.k f.g) := by rw [hwv, hq]; exact fb_new wr _ _ _
      have HBV : Hid (Below w.heap.size w wv) := by rw [hwv]; exact Ba HB.out _
      obtain ⟨nb, hnb⟩ : ∃ nb, nb = nameB f.nm := ⟨_, rfl⟩
      have HNB := hid hnb
      clear hc hjl hf hsf hnb hk64 hg64 hnl hwv hq
      go_wp2_with fail
      rw [← HWV.out, ← HQ.out]
      refine (p6name_any f.nm HSF.out).mono ?_
      rintro e w1 ⟨rfl, hb1⟩
      rw [← HNB.out]
      have HB1 := hid (Bt HBV.out hb1)
      have HF1 := hid (HFB.out.on hb1)
      obtain ⟨v0, v1, v2⟩ := HF1.out.cells
      clear hb1 c0 c1 c2
      cases nb with
      | false =>
        have HE : Hid (rightL l = false) := right_no HF.out (by rw [← HNB.out]; simp)
        go_wp2_with fail
        go_ret
        exact ⟨by rw [HE.out]; rfl, HB1.out⟩
      | true =>
        go_wp2_with fail
        refine (klong_any (bs f.nm) f.k f.g w1).mono ?_
        rintro e w2 ⟨rfl, hb2⟩
        have HB2 := hid (Bt HB1.out hb2)
        have HF2 := hid (HF1.out.on hb2)
        obtain ⟨v0, v1, v2⟩ := HF2.out.cells
        clear hb2
        obtain ⟨L, hL⟩ : ∃ L, L = longF f.k f.g := ⟨_, rfl⟩
        rw [← hL]
        by_cases hm : f.may = true
        · have hl0 : L ≠ 0 := by rw [hL]; exact long_may hm
          have t0 : (L == 0) = false := by rw [beq_eq_false_iff_ne]; exact hl0
          obtain ⟨r, hr, hrj⟩ := findN_le HF.out
          have HR := hid hr; have HM := hid hm
          clear hr hm hl0 hL
          go_wp2_with fail
          refine (p6find_any (H.out.on HB2.out) f.nm).mono ?_
          rintro e w3 ⟨rfl, hb3⟩
          rw [findI_some HR.out]
          have HB3 := hid (Bt HB2.out hb3)
          clear hb3 v0 v1 v2
          by_cases hqq : r = j
          · subst hqq
            have t1 : ((r : Int) != (r : Int)) = false := by simp
            go_wp2_with fail
            go_roundw
            case rel => exact ⟨r + 1, by omega, by simp, hid (fun m hm f' hf' => by
              by_cases e : m = r
              · subst e; rw [HF.out] at hf'; cases hf'; exact ⟨HNB.out.symm, HM.out, HR.out⟩
              · exact HA.out m (by omega) f' hf'), HB3⟩
            case measure => simp [intOf]; omega
          · have t1 : ((r : Int) != (j : Int)) = true := by rw [bne_iff_ne]; omega
            have HE : Hid (rightL l = false) := right_no HF.out (by rw [HR.out]; intro h; have := h.2.2; cases this; exact hqq rfl)
            clear hqq
            go_wp2_with fail
            go_ret
            exact ⟨by rw [HE.out]; rfl, HB3.out⟩
        · have hl0 : L = 0 := by rw [hL]; exact long_zero (Bool.eq_false_iff.2 hm)
          have HE : Hid (rightL l = false) := right_no HF.out (by intro h; exact hm h.2.1)
          subst hl0
          clear hm hL
          go_wp2_with fail
          go_ret
          exact ⟨by rw [HE.out]; rfl, HB2.out⟩
    · obtain rfl : j = n := by omega
      have HE : Hid (rightL l = true) := by
        show _ = _
        rw [rightL_iff]
        refine ⟨by have := HL.out; omega, fun i f hi => ?_⟩
        refine HA.out i ?_ f hi
        have := HL.out
        by_cases cc : i < l.length
        · omega
        · rw [List.getElem?_eq_none (by omega)] at hi; cases hi
      go_wp2_with fail
      go_ret
      exact ⟨by rw [HE.out]; rfl, HB.out⟩
end Go.Proofs.YtaegencmnmjgbaaGreat

namespace Go.Proofs.YtaegencmnmjgbaaGreat
open Go.RowKit
set_option linter.unusedVariables false
section
variable {P : Program} {ops : Array Oper} {Q : Exit → Act → World → Prop} {l n : Nat}
theorem calls_in {m : Nat} {f : FuncId} {args : Array Value} {w : World} {R : Ending → World → Prop} (h : Calls P f args w R) : CallsIn (Fence.wide.inRound l) m P f args w R :=
  CallsIn.inRound l (callsIn_wide.2 h)
end
def Iter {α : Type} (P : Program) (g : Nat) (lb : Array Value) (encs : α → Array Value) (xs : List α) (Kp : World → World → Prop) (w : World) : Prop :=
  ∀ (l : Nat) (J Jx : Nat → World → Prop) (W : World), Below w.heap.size w W → OwnFrom W.heap.size J → OwnFrom W.heap.size Jx →
    (∀ k x W1, xs[k]? = some x → J k W1 → YieldAt Fence.wide 0 P l (encs x) W1 fun e W' =>
      KeepsFrom W.heap.size W1 W' ∧ ((e = .returned (.bool true) ∧ J (k + 1) W' ∧ Kp W1 W') ∨ (e = .returned (.bool false) ∧ Jx k W'))) →
    J 0 W →
    Calls P g (#[.func (.yield l) #[] #[]] ++ lb) W fun e W' => (∃ v, e = .returned v) ∧ (J xs.length W' ∨ ∃ k, k < xs.length ∧ Jx k W')
theorem Iter.later {α : Type} {P : Program} {g : Nat} {lb : Array Value} {encs : α → Array Value} {xs : List α} {Kp : World → World → Prop} {w w' : World} (h : Iter P g lb encs xs Kp w) (hb : Below w.heap.size w w') : Iter P g lb encs xs Kp w' :=
  fun l J Jx W hW hJ hJx hY h0 => h l J Jx W (hb.trans (hW.mono hb.size)) hJ hJx hY h0
theorem yield_any {P : Program} {l m m' : Nat} {args : Array Value} {W : World} {R : Ending → World → Prop} (h : YieldAt Fence.wide m P l args W R) : YieldAt Fence.wide m' P l args W R := by
  obtain ⟨fn, tmps, assign, body, hy, hR⟩ := h
  exact ⟨fn, tmps, assign, body, hy, hR.1, fun c cs _ => hR.2 c cs (room_wide _)⟩
theorem kf_mono {B B' : Nat} {W W' : World} (h : KeepsFrom B W W') (hB : B ≤ B') : KeepsFrom B' W W' := ⟨h.size, fun k o hk ho hc => h.same k o (Nat.le_trans hB hk) ho hc⟩
theorem kf_below {B : Nat} {W W' : World} (h : Below W.heap.size W W') : KeepsFrom B W W' := ⟨h.size, fun k o _ hk _ => (h.block k (Array.getElem?_eq_some_iff.1 hk).1).trans hk⟩
def rPost (B : Nat) (Kp : World → World → Prop) (I : Nat → World → Prop) (Ix : Code → Nat → World → Prop) (k : Nat) (W : World) : Exit → Act → World → Prop
  | .normal, _, W' => KeepsFrom B W W' ∧ Kp W W' ∧ I (k + 1) W'
  | .ret, _, W' => KeepsFrom B W W' ∧ Ix .ret k W'
  | .exit id, _, W' => KeepsFrom B W W' ∧ Ix (.exit id) k W'
  | .goto t, _, W' => KeepsFrom B W W' ∧ Ix (.goto t) k W'
  | _, _, _ => False
theorem belowKb {n₀ m : Nat} (hn : n₀ ≤ m) (W : World) (l : Nat) (o o' : Obj) (hl : m ≤ l) (h : W.heap[l]? = some o) (_ : o.isCells = false) : Below n₀ W (W.putObj l o') :=
  (Below.refl n₀ W).grown (grownBy_putObj' W l o') (by have := (Array.getElem?_eq_some_iff.1 h).1; omega) (fun k e => by cases e; omega)
theorem KeepsFrom.put {B : Nat} {W : World} {l : Nat} (o : Obj) (h : l < B) : KeepsFrom B W (W.putObj l o) := KeepsFrom.of_grownBy (grownBy_putObj' W l o) (fun j e => by cases e; exact h)
theorem range_any {α : Type} {P : Program} {n : Nat} {g : Operand} {ps : Array Tmp} {assign body : Code} {Q : Exit → Act → World → Prop} {a : Act} {w : World} {gf : Nat} {lb : Array Value}
    (hg : a.eval g = .func (.func gf) #[] lb) (eg : ∀ args w, (callFunc gf args).run P w = .ok (.enter gf args) w)
    {encs : α → Array Value} {xs : List α} {Kp : World → World → Prop} (hit : Iter P gf lb encs xs Kp w) (hKt : ∀ {A B C : World}, Kp A B → Kp B C → Kp A C)
    (hKb : ∀ (W : World) (l : Nat) (o o' : Obj), w.heap.size ≤ l → W.heap[l]? = some o → o.isCells = false → Kp W (W.putObj l o')) (hps : ∀ x, (encs x).size = ps.size)
    (I : Nat → World → Prop) (Ix : Code → Nat → World → Prop) (hI : OwnFrom w.heap.size I) (hIx : ∀ c, OwnFrom w.heap.size (Ix c)) (h0 : I 0 w)
    (hround : ∀ (l k : Nat) (x : α) (W : World), xs[k]? = some x → I k W → w.heap.size < l → l < W.heap.size →
      assign.wpIn (Fence.wide.inRound l) n P (Exit.then (fun a' W' => KeepsFrom w.heap.size W W' ∧ Kp W W' ∧ I k W' ∧
          ∀ W2, W'.grownBy W2 (some l) → I k W2 → body.wpIn (Fence.wide.inRound l) n P (rPost w.heap.size Kp I Ix k W2) a' W2) (fun _ _ _ => False))
        { tmps := (ps.zip (encs x)).foldl (fun t (p, v) => t.setIfInBounds p v) a.tmps, defers := [] } W)
    (hdone : ∀ (D : Nat) (W : World), w.heap.size ≤ D → I xs.length W → W.heap[D]? = some (.deferred (some [])) → Q .normal { a with defers := { target := .collected D, args := #[] } :: a.defers } W)
    (hstop : ∀ (D : Nat) (c : Code) (k : Nat) (W : World), w.heap.size ≤ D → k < xs.length → Ix c k W → W.heap[D]? = some (.deferred (some [])) → c.wpIn Fence.wide n P Q { a with defers := { target := .collected D, args := #[] } :: a.defers } W) :
    (Code.rangeFunc g ps assign body).wpIn Fence.wide n P Q a w := by
  refine wpIn_rangeFunc fun fn hfn => ?_
  -- the two blocks that the loop lays
  let rec0 : LoopState → Option Code → Loop := fun st pe => { state := st, pending := pe, fn := fn, tmps := a.tmps, params := ps, assign := assign, body := body, defers := w.heap.size }
  obtain ⟨W1, hW1⟩ : ∃ W1, W1 = (w.alloc (.deferred (some []))).alloc (.loop (rec0 .ready none)) := ⟨_, rfl⟩
  have hsz : W1.heap.size = w.heap.size + 2 := by rw [hW1]; simp
  have hL : W1.heap[w.heap.size + 1]? = some (.loop (rec0 .ready none)) := by
    rw [hW1]; have := World.alloc_heap_new (w.alloc (.deferred (some []))) (.loop (rec0 .ready none)); rwa [World.size_alloc] at this
  have hD : W1.heap[w.heap.size]? = some (.deferred (some [])) := by
    rw [hW1]; exact (Below.heap_alloc _ _ _ (by simp)).trans (World.alloc_heap_new w _)
  have hB1 : Below w.heap.size w W1 := by rw [hW1]; exact ((Below.refl _ w).alloc (Nat.le_refl _) _).alloc (by simp) _
  -- what the two blocks hold between two rounds, and where a round has left the loop
  let J : Nat → World → Prop := fun k W => I k W ∧ W.heap[w.heap.size + 1]? = some (.loop (rec0 .ready none)) ∧ W.heap[w.heap.size]? = some (.deferred (some []))
  let Jx : Nat → World → Prop := fun k W => ∃ c, Ix c k W ∧ W.heap[w.heap.size + 1]? = some (.loop (rec0 .done (some c))) ∧ W.heap[w.heap.size]? = some (.deferred (some []))
  have two : ∀ {A C : World} {row : Option Nat} {j : Nat} {o : Obj}, A.grownBy C row → (∀ r, row = some r → W1.heap.size ≤ r ∧ ∃ o : Obj, A.heap[r]? = some o ∧ o.isCells = false) → j < W1.heap.size → A.heap[j]? = some o → C.heap[j]? = some o :=
    fun hgr hr hj ho => (hgr.block _ (Array.getElem?_eq_some_iff.1 ho).1 (fun e => by have := (hr _ e.symm).1; omega)).trans ho
  have hJ : OwnFrom W1.heap.size J := fun k A C row hs hgr hr =>
    ⟨hI k A C row hs.1 hgr (fun r e => ⟨by have := (hr r e).1; omega, (hr r e).2⟩), two hgr hr (by omega) hs.2.1, two hgr hr (by omega) hs.2.2⟩
  have hJx : OwnFrom W1.heap.size Jx := fun k A C row hs hgr hr => by
    obtain ⟨c, h1, h2, h3⟩ := hs
    exact ⟨c, hIx c k A C row h1 hgr (fun r e => ⟨by have := (hr r e).1; omega, (hr r e).2⟩), two hgr hr (by omega) h2, two hgr hr (by omega) h3⟩
  refine ⟨w.heap.size + 1, [{ target := .collected w.heap.size, args := #[] }], W1, { target := .fn (.func gf) lb, args := #[.func (.yield (w.heap.size + 1)) #[] #[]] }, W1, gf,
    #[.func (.yield (w.heap.size + 1)) #[] #[]] ++ lb, W1, ?_, ?_, fun _ _ => trivial, ?_, (fun h => by cases h), ?_⟩
  · rw [hW1]; exact run_enterLoop_outer _ _ _ _ _
  · simp only [resolve, hg]; simp [go_sem]
  · simp [invoke, go_sem, eg]
  refine callsIn_wide.2 ((hit (w.heap.size + 1) J Jx W1 hB1 hJ hJx ?_ ⟨by rw [hW1]; exact hI.alloc _ (hI.alloc _ h0), hL, hD⟩).mono ?_)
  · -- a round
    rintro k x W hx ⟨hi, hl, hd⟩
    have hlt : w.heap.size + 1 < W.heap.size := (Array.getElem?_eq_some_iff.1 hl).1
    refine yield_any (m := n) ⟨fn, _, assign, body, run_yield hl (hps x), roundIn_of_wpIn trivial (wpIn_mono (hround (w.heap.size + 1) k x W hx hi (by omega) hlt) ?_)⟩
    rintro e a' W' he
    cases e with
    | normal =>
      obtain ⟨hk1, hb1, hi1, hbody⟩ := he
      have hl1 := hk1.same _ _ (by omega) hl rfl
      have hd1 := hk1.same _ _ (Nat.le_refl _) hd rfl
      have hlt1 : w.heap.size + 1 < W'.heap.size := (Array.getElem?_eq_some_iff.1 hl1).1
      refine ⟨_, run_beginRound hl1 rfl, ?_⟩
      obtain ⟨W2, hW2⟩ : ∃ W2, W2 = W'.putObj (w.heap.size + 1) (.loop { rec0 .ready none with state := .busy }) := ⟨_, rfl⟩
      have hg2 : W'.grownBy W2 (some (w.heap.size + 1)) := by rw [hW2]; exact grownBy_putObj' _ _ _
      have hi2 : I k W2 := by rw [hW2]; exact hI.putObj _ hi1 (by omega) hl1 rfl
      have hl2 : W2.heap[w.heap.size + 1]? = some (.loop (rec0 .busy none)) := by rw [hW2]; exact World.putObj_heap_same hlt1
      have hd2 : W2.heap[w.heap.size]? = some (.deferred (some [])) := by rw [hW2]; exact (World.putObj_heap_other (by omega)).trans hd1
      have hb2 : Kp W' W2 := by rw [hW2]; exact hKb _ _ _ _ (by omega) hl1 rfl
      rw [← hW2]
      refine wpIn_mono (hbody W2 hg2 hi2) ?_
      have hkA : KeepsFrom W1.heap.size W W2 := (kf_mono hk1 (by omega)).trans (by rw [hW2]; exact KeepsFrom.put _ (by omega))
      have hkZ : ∀ (o : Obj) (W3 : World), KeepsFrom w.heap.size W2 W3 → KeepsFrom W1.heap.size W (W3.putObj (w.heap.size + 1) o) := fun o W3 h3 =>
        (hkA.trans (kf_mono h3 (by omega))).trans (KeepsFrom.put _ (by omega))
      have fin : ∀ (jump : Option Code) (W3 : World), KeepsFrom w.heap.size W2 W3 →
          (Instr.endRound (w.heap.size + 1) jump).run P W3 = .ok (.bool jump.isNone) (W3.putObj (w.heap.size + 1) (.loop (rec0 (if jump.isNone then .ready else .done) jump))) ∧
          W3.heap[w.heap.size + 1]? = some (.loop (rec0 .busy none)) ∧
          (W3.putObj (w.heap.size + 1) (.loop (rec0 (if jump.isNone then .ready else .done) jump))).heap[w.heap.size + 1]? = some (.loop (rec0 (if jump.isNone then .ready else .done) jump)) ∧
          (W3.putObj (w.heap.size + 1) (.loop (rec0 (if jump.isNone then .ready else .done) jump))).heap[w.heap.size]? = some (.deferred (some [])) := fun jump W3 hk3 => by
        have hl3 := hk3.same _ _ (by omega) hl2 rfl
        exact ⟨run_endRound jump hl3, hl3, World.putObj_heap_same (Array.getElem?_eq_some_iff.1 hl3).1, (World.putObj_heap_other (by omega)).trans (hk3.same _ _ (Nat.le_refl _) hd2 rfl)⟩
      rintro e a3 W3 hp
      cases e with
      | normal =>
        obtain ⟨hk3, hb3, hi3⟩ := hp
        obtain ⟨hr, hl3, hl4, hd4⟩ := fin none W3 hk3
        have hlt3 : w.heap.size + 1 < W3.heap.size := (Array.getElem?_eq_some_iff.1 hl3).1
        exact ⟨_, _, hr, hkZ _ _ hk3, .inl ⟨rfl, ⟨hI.putObj _ hi3 (by omega) hl3 rfl, hl4, hd4⟩, hKt (hKt (hKt hb1 hb2) hb3) (hKb _ _ _ _ (by omega) hl3 rfl)⟩⟩
      | ret =>
        obtain ⟨hk3, hi3⟩ := hp
        obtain ⟨hr, hl3, hl4, hd4⟩ := fin (some .ret) W3 hk3
        exact ⟨_, _, hr, hkZ _ _ hk3, .inr ⟨rfl, .ret, (hIx _).putObj _ hi3 (by omega) hl3 rfl, hl4, hd4⟩⟩
      | exit id =>
        obtain ⟨hk3, hi3⟩ := hp
        obtain ⟨hr, hl3, hl4, hd4⟩ := fin (some (.exit id)) W3 hk3
        exact ⟨_, _, hr, hkZ _ _ hk3, .inr ⟨rfl, .exit id, (hIx _).putObj _ hi3 (by omega) hl3 rfl, hl4, hd4⟩⟩
      | goto t =>
        obtain ⟨hk3, hi3⟩ := hp
        obtain ⟨hr, hl3, hl4, hd4⟩ := fin (some (.goto t)) W3 hk3
        exact ⟨_, _, hr, hkZ _ _ hk3, .inr ⟨rfl, .goto t, (hIx _).putObj _ hi3 (by omega) hl3 rfl, hl4, hd4⟩⟩
      | panic ch => exact hp.elim
      | outgrown => exact hp.elim
    | _ => exact he.elim
  · -- behind the iterator
    rintro e W2 ⟨⟨v, rfl⟩, (⟨hi, hl, hd⟩ | ⟨k, hk, c, hi, hl, hd⟩)⟩
    · exact ⟨none, _, run_endLoop hl (by simp [rec0]), hdone _ _ (Nat.le_refl _) (hI.putObj _ hi (by omega) hl rfl) ((World.putObj_heap_other (by omega)).trans hd)⟩
    · exact ⟨some c, _, run_endLoop hl (by simp [rec0]), hstop _ c k _ (Nat.le_refl _) hk ((hIx c).putObj _ hi (by omega) hl rfl) ((World.putObj_heap_other (by omega)).trans hd)⟩
end Go.Proofs.YtaegencmnmjgbaaGreat
