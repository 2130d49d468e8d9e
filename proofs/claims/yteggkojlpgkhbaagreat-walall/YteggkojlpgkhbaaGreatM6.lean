/-
  Contracts of crc: Sum, Seal, Open.
  A range over a function: what is asked of the value that is ranged over, and of the loop's body; regions of a round by the laws of plain regions.
-/
import Derived.Test.YteggkojlpgkhbaaGreatM5
import Derived.Test.YteggkojlpgkhbaaGreatReg
import Derived.RangeFuncNested
import Derived.RangeFuncLeaves
import Derived.Shelf.Abstract
import Derived.OwnWalkIn
import Derived.TacticsInMore
import Derived.LoopNIn
import Derived.LoopIn

namespace Go.Proofs.YteggkojlpgkhbaaGreat
open Go.RowKit
set_option linter.unusedVariables false

/-- All bytes of the first k parts. -/
def flat (ps : List (Value × List UInt8)) (k : Nat) : List UInt8 := ((ps.take k).map (·.2)).flatten
theorem flat_succ {ps : List (Value × List UInt8)} {k : Nat} (h : k < ps.length) : flat ps (k + 1) = flat ps k ++ ps[k].2 := by
  unfold flat; rw [List.take_succ_eq_append_getElem h, List.map_append, List.flatten_append, List.map_singleton, List.flatten_singleton]

set_option maxHeartbeats 1000000 in
theorem sum_any (g k c : Nat) (ps : List (Value × List UInt8)) (w : World) (hk : ps.length = k) (hkc : k ≤ c) (hcm : k ≤ 1000) (hg : g < w.heap.size) (hcells : ∀ i (h : i < ps.length), w.cell? ⟨g, i, none⟩ = some ps[i].1)
    (hrd : ∀ i (h : i < ps.length), ∃ A n cap, ps[i].1 = .slice A n cap ∧ Rd w w.heap.size A n cap ps[i].2) :
    Calls Tryz.prog 67 #[.slice (some ⟨g, 0, none⟩) k c] w fun e w' => e = .returned (.int .i64 (crcB 0#16 (flat ps k)).toNat) ∧ Below w.heap.size w w' := by
  have HK := hid hk; have HC := hid hcells; have HR := hid hrd
  clear hk hcells hrd
  have H0 : Hid (lowB 0 = 0#16) := show _ = _ by decide
  go_enter Tryz.func67, Tryz.ntmps67
  go_wp2_with fail
  refine (register_any 0 _).mono ?_
  rintro e w1 ⟨rfl, rfl⟩
  rw [H0.out]
  go_wp2_with fail
  go_loopw [4, 10] (fun s i wr => ∃ j : Nat, j ≤ k ∧ i = .int .i64 j ∧ s = .int .i64 (crcB 0#16 (flat ps j)).toNat ∧ Hid (Rg wr w.heap.size (crcB 0#16 (flat ps j))) ∧ Below w.heap.size w wr) (fun _ i _ => k - (intOf i).toNat)
  case atStart => exact ⟨0, by omega, rfl, by simp [flat, crcB], show Rg _ _ _ from rg_new w 0#16, B1 _ _⟩
  case round =>
    obtain ⟨j, hj, rfl, rfl, hr, hb⟩ := hrel
    by_cases hlt : j < k
    · have hjl : j < ps.length := by have := HK.out; omega
      obtain ⟨A, n, cap, hv, hrd⟩ := HR.out j hjl
      have hcell : wr.cell? ⟨g, j, none⟩ = some (.slice A n cap) := (hb.cell (p := ⟨g, j, none⟩) hg).trans ((HC.out j hjl).trans (by rw [hv]))
      have HF : Hid (crcB 0#16 (flat ps (j + 1)) = crcB (crcB 0#16 (flat ps j)) ps[j].2) := show _ = _ by rw [flat_succ hjl, crcB_append]
      have HD := hid hrd
      obtain ⟨l, hl⟩ : ∃ l, l = ps[j].2 := ⟨_, rfl⟩
      rw [← hl] at HF HD
      obtain ⟨x, hx⟩ : ∃ x, x = crcB 0#16 (flat ps j) := ⟨_, rfl⟩
      rw [← hx] at HF hr ⊢
      clear hv hrd hjl hl hx
      go_wp2_with fail
      refine (move_any A n cap w.heap.size l x _ (HD.out.below hb) hr.out).mono ?_
      rintro e w2 ⟨rfl, hr2, hb2⟩
      have HR2 := hid hr2; clear hr2
      rw [← HF.out] at HR2 ⊢
      go_wp2_with fail
      exact ⟨⟨j + 1, by omega, by go_num, rfl, HR2, hb.trans hb2⟩, by simp [intOf]; omega⟩
    · obtain rfl : j = k := by omega
      go_wp2_with fail
      go_ret
      exact ⟨rfl, hb⟩

theorem sum1 {A : Option Addr} {n cap : Nat} {l : List UInt8} {w : World} {g : Nat} (hg : g = w.heap.size) (h : Rd w w.heap.size A n cap l) :
    Calls Tryz.prog 67 #[.slice (some ⟨g, 0, none⟩) 1 1] (w.alloc (.cells #[.slice A n cap] 22)) fun e w' => e = .returned (.int .i64 (crcB 0#16 l).toNat) ∧ Below w.heap.size w w' := by
  subst hg
  refine (sum_any w.heap.size 1 1 [(.slice A n cap, l)] _ rfl (Nat.le_refl _) (by omega) (by simp) ?_ ?_).mono ?_
  · intro i hi
    rw [row_cell (heap_alloc_new w _)]
    have : i = 0 := by simp at hi; omega
    subst this; rfl
  · intro i hi
    have : i = 0 := by simp at hi; omega
    subst this
    exact ⟨A, n, cap, rfl, h.on (B1 w _)⟩
  · rintro e w' ⟨rfl, hb⟩
    refine ⟨by simp [flat], Bt (B1 w _) hb⟩
theorem sum2 {A A2 : Option Addr} {n cap n2 cap2 : Nat} {l l2 : List UInt8} {w : World} {g : Nat} (hg : g = w.heap.size) (h : Rd w w.heap.size A n cap l) (h2 : Rd w w.heap.size A2 n2 cap2 l2) :
    Calls Tryz.prog 67 #[.slice (some ⟨g, 0, none⟩) 2 2] (w.alloc (.cells #[.slice A n cap, .slice A2 n2 cap2] 22)) fun e w' => e = .returned (.int .i64 (crcB 0#16 (l ++ l2)).toNat) ∧ Below w.heap.size w w' := by
  subst hg
  refine (sum_any w.heap.size 2 2 [(.slice A n cap, l), (.slice A2 n2 cap2, l2)] _ rfl (Nat.le_refl _) (by omega) (by simp) ?_ ?_).mono ?_
  · intro i hi
    rw [row_cell (heap_alloc_new w _)]
    have : i = 0 ∨ i = 1 := by simp at hi; omega
    rcases this with rfl | rfl <;> rfl
  · intro i hi
    have : i = 0 ∨ i = 1 := by simp at hi; omega
    rcases this with rfl | rfl
    · exact ⟨A, n, cap, rfl, h.on (B1 w _)⟩
    · exact ⟨A2, n2, cap2, rfl, h2.on (B1 w _)⟩
  · rintro e w' ⟨rfl, hb⟩
    refine ⟨by simp [flat], Bt (B1 w _) hb⟩
theorem sum3 {A A2 A3 : Option Addr} {n cap n2 cap2 n3 cap3 : Nat} {l l2 l3 : List UInt8} {w : World} {g : Nat} (hg : g = w.heap.size) (h : Rd w w.heap.size A n cap l) (h2 : Rd w w.heap.size A2 n2 cap2 l2) (h3 : Rd w w.heap.size A3 n3 cap3 l3) :
    Calls Tryz.prog 67 #[.slice (some ⟨g, 0, none⟩) 3 3] (w.alloc (.cells #[.slice A n cap, .slice A2 n2 cap2, .slice A3 n3 cap3] 22)) fun e w' => e = .returned (.int .i64 (crcB 0#16 (l ++ (l2 ++ l3))).toNat) ∧ Below w.heap.size w w' := by
  subst hg
  refine (sum_any w.heap.size 3 3 [(.slice A n cap, l), (.slice A2 n2 cap2, l2), (.slice A3 n3 cap3, l3)] _ rfl (Nat.le_refl _) (by omega) (by simp) ?_ ?_).mono ?_
  · intro i hi
    rw [row_cell (heap_alloc_new w _)]
    have : i = 0 ∨ i = 1 ∨ i = 2 := by simp at hi; omega
    rcases this with rfl | rfl | rfl <;> rfl
  · intro i hi
    have : i = 0 ∨ i = 1 ∨ i = 2 := by simp at hi; omega
    rcases this with rfl | rfl | rfl
    · exact ⟨A, n, cap, rfl, h.on (B1 w _)⟩
    · exact ⟨A2, n2, cap2, rfl, h2.on (B1 w _)⟩
    · exact ⟨A3, n3, cap3, rfl, h3.on (B1 w _)⟩
  · rintro e w' ⟨rfl, hb⟩
    refine ⟨by simp [flat], Bt (B1 w _) hb⟩

/-- The sum as two bytes. -/
def sumL (l : List UInt8) : List UInt8 := le (crcB 0#16 l).toNat 2
theorem sumL_length (l : List UInt8) : (sumL l).length = 2 := le_length _ _
theorem sum_fits (x : BitVec 16) : fits (x.toNat : Int) 2 false = true := by
  have := x.isLt
  simp [fits, show isW 2 = true from rfl, pw2]; omega
theorem sum_U64 (x : BitVec 16) : U64 (x.toNat : Int) := by
  have := x.isLt
  unfold U64; rw [pw8]; omega

/-- Whether the last two bytes are the sum of those ahead. -/
def openB (l : List UInt8) : Bool := decide (2 ≤ l.length) && decide (l = l.take (l.length - 2) ++ sumL (l.take (l.length - 2)))
/-- What Open answers. -/
def openL (l : List UInt8) : List UInt8 := if openB l then l.take (l.length - 2) else []

theorem num_inj : ∀ {a b : List UInt8}, a.length = b.length → num a = num b → a = b
  | [], [], _, _ => rfl
  | c :: a, d :: b, h, e => by
    have h1 := c.toNat_lt; have h2 := d.toNat_lt
    simp only [num] at e
    have e1 : c.toNat = d.toNat := by omega
    have e2 : num a = num b := by omega
    rw [UInt8.toNat_inj.1 e1, num_inj (by simpa using h) e2]
  | [], _ :: _, h, _ => by simp at h
  | _ :: _, [], h, _ => by simp at h
theorem emod_pwk (m : Int) (h0 : 0 ≤ m) (k : Nat) : m % pw (k + 1 : Nat) = m % pw k + pw k * (m / pw k % 256) := by
  rw [pw_succ]
  obtain ⟨m, rfl⟩ := Int.eq_ofNat_of_zero_le h0
  obtain ⟨q, hq⟩ := Int.eq_ofNat_of_zero_le (Int.le_of_lt (pw_pos k))
  rw [hq]
  have h := Nat.mod_mul (x := m) (a := q) (b := 256)
  have h2 := congrArg (fun z : Nat => (z : Int)) h
  simp only [Int.natCast_add, Int.natCast_mul, Int.natCast_emod, Int.natCast_ediv] at h2
  exact h2
theorem num_lek (nn : Int) (h0 : 0 ≤ nn) (k : Nat) : num (le nn k) = nn % pw k := by
  induction k with
  | zero => simp [le, num, pw]
  | succ k ih =>
    have h1 : 0 ≤ nn / pw k % 256 := Int.emod_nonneg _ (by decide)
    have h2 : nn / pw k % 256 < 256 := Int.emod_lt_of_pos _ (by decide)
    have e : (byteAt nn k).toNat = (nn / pw k % 256).toNat := by unfold byteAt; rw [UInt8.toNat_ofNat']; omega
    rw [le, num_append, ih, le_length]
    simp only [num, e]
    rw [Int.toNat_of_nonneg h1, Int.mul_zero, Int.add_zero, emod_pwk nn h0 k]
theorem num_sumL (l : List UInt8) : num (sumL l) = (crcB 0#16 l).toNat := by
  have := (crcB 0#16 l).isLt
  unfold sumL
  rw [num_lek _ (by omega), show ((2 : Nat) : Int) = 2 from rfl, pw2]; omega
theorem openB_iff {l : List UInt8} {m : Nat} (h : l.length = m + 2) : openB l = decide (num (l.drop m) = (crcB 0#16 (l.take m)).toNat) := by
  unfold openB
  rw [Bool.eq_iff_iff]
  have e : l.length - 2 = m := by omega
  simp only [e, Bool.and_eq_true, decide_eq_true_eq]
  rw [← num_sumL]
  constructor
  · rintro ⟨_, h2⟩
    have h3 : l.drop m = (l.take m ++ sumL (l.take m)).drop m := congrArg (List.drop m) h2
    have h4 : (l.take m).length = m := by simp; omega
    rw [List.drop_left' h4] at h3
    rw [h3]
  · intro h2
    have h3 := num_inj (by simp [sumL_length]; omega) h2
    refine ⟨by omega, ?_⟩
    rw [← h3, List.take_append_drop]
theorem openB_short {l : List UInt8} (h : l.length < 2) : openB l = false := by
  unfold openB; simp; omega
theorem open_sealed (l : List UInt8) : openB (l ++ sumL l) = true := by
  rw [openB_iff (m := l.length) (by simp [sumL_length])]
  simp [num_sumL]
theorem openL_sealed (l : List UInt8) : openL (l ++ sumL l) = l := by
  unfold openL; rw [open_sealed]; simp [sumL_length]

end Go.Proofs.YteggkojlpgkhbaaGreat

namespace Go.Proofs.YteggkojlpgkhbaaGreat
open Go.RowKit
set_option linter.unusedVariables false

/-! ### Regions in a round -/
/-- Left at its end, and no other way. -/
def Only (Q : Exit → Act → World → Prop) : Exit → Act → World → Prop
  | .normal, a, w => Q .normal a w
  | _, _, _ => False
def noDefer (ops : Array Oper) : Bool := ops.all fun o => match o.op with | .defer _ => false | _ => true

section
variable {P : Program} {ops : Array Oper} {Q : Exit → Act → World → Prop} {l n : Nat}
theorem noDefer_at (h : noDefer ops = true) {i : Nat} {o : Oper} (hi : ops[i]? = some o) : ∀ c, o.op ≠ .defer c := by
  intro c hc
  unfold noDefer at h
  rw [Array.all_eq_true] at h
  obtain ⟨hlt, he⟩ := Array.getElem?_eq_some_iff.1 hi
  have := h i hlt
  rw [he, hc] at this
  cases this
theorem calls_in {m : Nat} {f : FuncId} {args : Array Value} {w : World} {R : Ending → World → Prop} (h : Calls P f args w R) : CallsIn (Fence.wide.inRound l) m P f args w R :=
  CallsIn.inRound l (callsIn_wide.2 h)
theorem rows_in {m : Nat} {row : String} {args : Array Value} {w : World} {R : Value → World → Prop} (h : Rows P row args w R) : RowsIn (Fence.wide.inRound l) m P row args w R := by
  intro c cs _
  obtain ⟨v, w', r, s⟩ := h c cs
  exact ⟨v, w', r, stepsIn_wide.2 s⟩
theorem op_in {o : Oper} {a : Act} {w : World} {K : Act → World → Prop} (hd : ∀ c, o.op ≠ .defer c) (h : o.wp P a w K (Only Q)) : o.wpIn (Fence.wide.inRound l) n P a w K Q := by
  refine ⟨fun _ _ => trivial, ?_⟩
  rw [Oper.semAt_eq _ _ _ hd]
  unfold Oper.wp at h
  revert h
  generalize (execOp a.eval o).run P w = r
  intro h
  cases r with
  | ok x w' =>
    cases x with
    | value v => exact h
    | skip => exact h
    | defer d => exact h
    | enter f args =>
      refine ⟨(fun hh => by cases hh), calls_in (Calls.mono h fun e w'' he => ?_)⟩
      cases e with
      | returned v => exact he
      | panicked c => exact he.elim
      | outgrown => obtain ⟨_, _, hf⟩ := he; exact hf.elim
    | row row args => exact ⟨(fun hh => by cases hh), rows_in h⟩
    | _ => exact h.elim
  | halt x w' =>
    cases x with
    | panic v => exact (h : False).elim
    | _ => exact h.elim
theorem ops_in (hd : noDefer ops = true) : ∀ (is : List Nat) (a : Act) (w : World), wpOps P ops (Only Q) is a w → wpOpsIn (Fence.wide.inRound l) n P ops Q is a w
  | [], a, w, h => h
  | i :: is, a, w, h => by
    rw [wpOps_cons] at h
    rw [wpOpsIn_cons]
    unfold wpOp at h
    unfold wpOpIn
    cases ho : ops[i]? with
    | none => rw [ho] at h; exact ops_in hd is a w h
    | some o =>
      rw [ho] at h
      simp only at h ⊢
      split
      · rename_i hw
        rw [if_pos hw] at h
        rcases h with h | ⟨_, _, _, hf⟩
        · exact op_in (noDefer_at hd ho) (Oper.wp_mono (fun a' w' => ops_in hd is a' w') h)
        · exact hf.elim
      · rename_i hw
        rw [if_neg hw] at h
        exact ⟨fun _ _ => trivial, ops_in hd is _ _ h⟩
/-- The beginning of a region of a round that draws its order. -/
theorem wpAny_in (hd : noDefer ops = true) {id : Nat} {a : Act} {w : World} (hm : P.follows .mixedOrders = true)
    (h : wpAny P .any ops (Only Q) ops.size (Array.replicate ops.size false) a w.drew) : (Code.region id ops true).wpIn (Fence.wide.inRound l) n P Q a w :=
  wpIn_region_draw fun t => by
    simp only [Region.schedule, hm, Bool.true_or, if_true]
    exact ops_in hd _ _ _ (wpAny_sound ops.size t _ a _ h)
theorem reg_beginI (hd : noDefer ops = true) {id : Nat} {a : Act} {w : World} (hm : P.follows .mixedOrders = true)
    (h : ∀ w0, Ext w w0 → Ext w0 w0 → wpAnyH P .any ops (NoPanic (Only Q)) (Ext w0) ops.size (Array.replicate ops.size false) a w0) : (Code.region id ops true).wpIn (Fence.wide.inRound l) n P Q a w := by
  have h1 := wpAny_of_held _ _ _ _ (h w.drew (Below.drew (B0 w)) (Ext.refl _))
  have e : NoPanic (Only Q) = Only Q := by funext e a w; cases e <;> rfl
  rw [e] at h1
  exact wpAny_in hd hm h1
theorem reg_beginBI (B : Nat) (hd : noDefer ops = true) {id : Nat} {a : Act} {w : World} (hm : P.follows .mixedOrders = true)
    (h : ∀ w0, Hid (w0.heap = w.heap) → ExB B w w0 → ExB B w0 w0 → wpAnyH P .any ops (NoPanic (Only Q)) (ExB B w0) ops.size (Array.replicate ops.size false) a w0) : (Code.region id ops true).wpIn (Fence.wide.inRound l) n P Q a w := by
  have h1 := wpAny_of_held _ _ _ _ (h w.drew (hid rfl) (Below.drew (Below.refl _ _)) (ExB.refl _ _))
  have e : NoPanic (Only Q) = Only Q := by funext e a w; cases e <;> rfl
  rw [e] at h1
  exact wpAny_in hd hm h1
/-- A straight region of a round. -/
theorem reg_lineI (hd : noDefer ops = true) {id : Nat} {a : Act} {w : World} (h : wpOps P ops (Only Q) (List.range ops.size) a w) : (Code.region id ops false).wpIn (Fence.wide.inRound l) n P Q a w :=
  wpIn_region (ops_in hd _ _ _ h)
theorem Only.normal {a : Act} {w : World} (h : Q .normal a w) : Only Q .normal a w := h
end

/-! ### The value that is ranged over, and the loop -/
/-- It yields xs, one behind the other, as long as it is told to go on; a round that goes on keeps Kp. -/
def Iter {α : Type} (P : Program) (g : Nat) (lb : Array Value) (encs : α → Array Value) (xs : List α) (Kp : World → World → Prop) (w : World) : Prop :=
  ∀ (l : Nat) (J Jx : Nat → World → Prop) (W : World), Below w.heap.size w W → OwnFrom W.heap.size J → OwnFrom W.heap.size Jx →
    (∀ k x W1, xs[k]? = some x → J k W1 → YieldAt Fence.wide 0 P l (encs x) W1 fun e W' =>
      KeepsFrom W.heap.size W1 W' ∧ ((e = .returned (.bool true) ∧ J (k + 1) W' ∧ Kp W1 W') ∨ (e = .returned (.bool false) ∧ Jx k W'))) →
    J 0 W →
    Calls P g (#[.func (.yield l) #[] #[]] ++ lb) W fun e W' => (∃ v, e = .returned v) ∧ (J xs.length W' ∨ ∃ k, k < xs.length ∧ Jx k W')
theorem Iter.later {α : Type} {P : Program} {g : Nat} {lb : Array Value} {encs : α → Array Value} {xs : List α} {Kp : World → World → Prop} {w w' : World} (h : Iter P g lb encs xs Kp w) (hb : Below w.heap.size w w') : Iter P g lb encs xs Kp w' :=
  fun l J Jx W hW hJ hJx hY h0 => h l J Jx W (hb.trans (hW.mono hb.size)) hJ hJx hY h0
theorem Iter.less {α : Type} {P : Program} {g : Nat} {lb : Array Value} {encs : α → Array Value} {xs : List α} {Kp Kp' : World → World → Prop} {w : World} (h : Iter P g lb encs xs Kp w) (hK : ∀ W W', Kp' W W' → Kp W W') : Iter P g lb encs xs Kp' w :=
  fun l J Jx W hW hJ hJx hY h0 => h l J Jx W hW hJ hJx (fun k x W1 hx hj => by
    obtain ⟨fn, tmps, assign, body, hy, hR⟩ := hY k x W1 hx hj
    exact ⟨fn, tmps, assign, body, hy, hR.mono fun e W' he => ⟨he.1, he.2.imp (fun h => ⟨h.1, h.2.1, hK _ _ h.2.2⟩) id⟩⟩) h0
theorem yield_any {P : Program} {l m m' : Nat} {args : Array Value} {W : World} {R : Ending → World → Prop} (h : YieldAt Fence.wide m P l args W R) : YieldAt Fence.wide m' P l args W R := by
  obtain ⟨fn, tmps, assign, body, hy, hR⟩ := h
  exact ⟨fn, tmps, assign, body, hy, hR.1, fun c cs _ => hR.2 c cs (room_wide _)⟩

theorem kf_mono {B B' : Nat} {W W' : World} (h : KeepsFrom B W W') (hB : B ≤ B') : KeepsFrom B' W W' := ⟨h.size, fun k o hk ho hc => h.same k o (Nat.le_trans hB hk) ho hc⟩
theorem kf_below {B : Nat} {W W' : World} (h : Below W.heap.size W W') : KeepsFrom B W W' := ⟨h.size, fun k o _ hk _ => (h.block k (Array.getElem?_eq_some_iff.1 hk).1).trans hk⟩
/-- How the body of a round may be left. -/
def rPost (B : Nat) (Kp : World → World → Prop) (I : Nat → World → Prop) (Ix : Code → Nat → World → Prop) (k : Nat) (W : World) : Exit → Act → World → Prop
  | .normal, _, W' => KeepsFrom B W W' ∧ Kp W W' ∧ I (k + 1) W'
  | .ret, _, W' => KeepsFrom B W W' ∧ Ix .ret k W'
  | .exit id, _, W' => KeepsFrom B W W' ∧ Ix (.exit id) k W'
  | .goto t, _, W' => KeepsFrom B W W' ∧ Ix (.goto t) k W'
  | _, _, _ => False

theorem belowKt {n₀ : Nat} {A B C : World} (h : Below n₀ A B) (k : Below n₀ B C) : Below n₀ A C := h.trans k
theorem belowKb {n₀ m : Nat} (hn : n₀ ≤ m) (W : World) (l : Nat) (o o' : Obj) (hl : m ≤ l) (h : W.heap[l]? = some o) (_ : o.isCells = false) : Below n₀ W (W.putObj l o') :=
  (Below.refl n₀ W).grown (grownBy_putObj' W l o') (by have := (Array.getElem?_eq_some_iff.1 h).1; omega) (fun k e => by cases e; omega)
theorem KeepsFrom.put {B : Nat} {W : World} {l : Nat} (o : Obj) (h : l < B) : KeepsFrom B W (W.putObj l o) := KeepsFrom.of_grownBy (grownBy_putObj' W l o) (fun j e => by cases e; exact h)

theorem range_any {α : Type} {P : Program} {n : Nat} {g : Operand} {ps : Array Tmp} {assign body : Code} {Q : Exit → Act → World → Prop} {a : Act} {w : World} {gf : Nat} {lb : Array Value}
    (hg : a.eval g = .func (.func gf) #[] lb) (eg : ∀ args w, (callFunc gf args).run P w = .ok (.enter gf args) w)
    {encs : α → Array Value} {xs : List α} {Kp : World → World → Prop} (hit : Iter P gf lb encs xs Kp w) (hKt : ∀ {A B C : World}, Kp A B → Kp B C → Kp A C)
    (hKb : ∀ (W : World) (l : Nat) (o o' : Obj), w.heap.size ≤ l → W.heap[l]? = some o → o.isCells = false → Kp W (W.putObj l o')) (hps : ∀ x, (encs x).size = ps.size)
    (I : Nat → World → Prop) (Ix : Code → Nat → World → Prop) (hI : OwnFrom w.heap.size I) (hIx : ∀ c, OwnFrom w.heap.size (Ix c)) (h0 : I 0 w)
    (hround : ∀ (l k : Nat) (x : α) (W : World), xs[k]? = some x → I k W → w.heap.size < l → l < W.heap.size →
      assign.wpIn (Fence.wide.inRound l) n P (Exit.then (fun a' W' => KeepsFrom w.heap.size W W' ∧ Kp W W' ∧ I k W' ∧
          ∀ W2, W'.grownBy W2 (some l) → I k W2 → body.wpIn (Fence.wide.inRound l) n P (rPost w.heap.size Kp I Ix k W2) a' W2) (fun _ _ _ => False))
        { tmps := (ps.zip (encs x)).foldl (fun t (p, v) => t.setIfInBounds p v) a.tmps, defers := [] } W)
    (hdone : ∀ (D : Nat) (W : World), w.heap.size ≤ D → I xs.length W → W.heap[D]? = some (.deferred (some [])) → Q .normal { a with defers := { target := .collected D, args := #[] } :: a.defers } W)
    (hstop : ∀ (D : Nat) (c : Code) (k : Nat) (W : World), w.heap.size ≤ D → k < xs.length → Ix c k W → W.heap[D]? = some (.deferred (some [])) → c.wpIn Fence.wide n P Q { a with defers := { target := .collected D, args := #[] } :: a.defers } W) :
    (Code.rangeFunc g ps assign body).wpIn Fence.wide n P Q a w := by
  refine wpIn_rangeFunc fun fn hfn => ?_
  -- the two blocks that the loop lays
  let rec0 : LoopState → Option Code → Loop := fun st pe => { state := st, pending := pe, fn := fn, tmps := a.tmps, params := ps, assign := assign, body := body, defers := w.heap.size }
  obtain ⟨W1, hW1⟩ : ∃ W1, W1 = (w.alloc (.deferred (some []))).alloc (.loop (rec0 .ready none)) := ⟨_, rfl⟩
  have hsz : W1.heap.size = w.heap.size + 2 := by rw [hW1]; simp
  have hL : W1.heap[w.heap.size + 1]? = some (.loop (rec0 .ready none)) := by
    rw [hW1]; have := World.alloc_heap_new (w.alloc (.deferred (some []))) (.loop (rec0 .ready none)); rwa [World.size_alloc] at this
  have hD : W1.heap[w.heap.size]? = some (.deferred (some [])) := by
    rw [hW1]; exact (Below.heap_alloc _ _ _ (by simp)).trans (World.alloc_heap_new w _)
  have hB1 : Below w.heap.size w W1 := by rw [hW1]; exact ((Below.refl _ w).alloc (Nat.le_refl _) _).alloc (by simp) _
  -- what the two blocks hold between two rounds, and where a round has left the loop
  let J : Nat → World → Prop := fun k W => I k W ∧ W.heap[w.heap.size + 1]? = some (.loop (rec0 .ready none)) ∧ W.heap[w.heap.size]? = some (.deferred (some []))
  let Jx : Nat → World → Prop := fun k W => ∃ c, Ix c k W ∧ W.heap[w.heap.size + 1]? = some (.loop (rec0 .done (some c))) ∧ W.heap[w.heap.size]? = some (.deferred (some []))
  have two : ∀ {A C : World} {row : Option Nat} {j : Nat} {o : Obj}, A.grownBy C row → (∀ r, row = some r → W1.heap.size ≤ r ∧ ∃ o : Obj, A.heap[r]? = some o ∧ o.isCells = false) → j < W1.heap.size → A.heap[j]? = some o → C.heap[j]? = some o :=
    fun hgr hr hj ho => (hgr.block _ (Array.getElem?_eq_some_iff.1 ho).1 (fun e => by have := (hr _ e.symm).1; omega)).trans ho
  have hJ : OwnFrom W1.heap.size J := fun k A C row hs hgr hr =>
    ⟨hI k A C row hs.1 hgr (fun r e => ⟨by have := (hr r e).1; omega, (hr r e).2⟩), two hgr hr (by omega) hs.2.1, two hgr hr (by omega) hs.2.2⟩
  have hJx : OwnFrom W1.heap.size Jx := fun k A C row hs hgr hr => by
    obtain ⟨c, h1, h2, h3⟩ := hs
    exact ⟨c, hIx c k A C row h1 hgr (fun r e => ⟨by have := (hr r e).1; omega, (hr r e).2⟩), two hgr hr (by omega) h2, two hgr hr (by omega) h3⟩
  refine ⟨w.heap.size + 1, [{ target := .collected w.heap.size, args := #[] }], W1, { target := .fn (.func gf) lb, args := #[.func (.yield (w.heap.size + 1)) #[] #[]] }, W1, gf,
    #[.func (.yield (w.heap.size + 1)) #[] #[]] ++ lb, W1, ?_, ?_, fun _ _ => trivial, ?_, (fun h => by cases h), ?_⟩
  · rw [hW1]; exact run_enterLoop_outer _ _ _ _ _
  · simp only [resolve, hg]; simp [go_sem]
  · simp [invoke, go_sem, eg]
  refine callsIn_wide.2 ((hit (w.heap.size + 1) J Jx W1 hB1 hJ hJx ?_ ⟨by rw [hW1]; exact hI.alloc _ (hI.alloc _ h0), hL, hD⟩).mono ?_)
  · -- a round
    rintro k x W hx ⟨hi, hl, hd⟩
    have hlt : w.heap.size + 1 < W.heap.size := (Array.getElem?_eq_some_iff.1 hl).1
    refine yield_any (m := n) ⟨fn, _, assign, body, run_yield hl (hps x), roundIn_of_wpIn trivial (wpIn_mono (hround (w.heap.size + 1) k x W hx hi (by omega) hlt) ?_)⟩
    rintro e a' W' he
    cases e with
    | normal =>
      obtain ⟨hk1, hb1, hi1, hbody⟩ := he
      have hl1 := hk1.same _ _ (by omega) hl rfl
      have hd1 := hk1.same _ _ (Nat.le_refl _) hd rfl
      have hlt1 : w.heap.size + 1 < W'.heap.size := (Array.getElem?_eq_some_iff.1 hl1).1
      refine ⟨_, run_beginRound hl1 rfl, ?_⟩
      obtain ⟨W2, hW2⟩ : ∃ W2, W2 = W'.putObj (w.heap.size + 1) (.loop { rec0 .ready none with state := .busy }) := ⟨_, rfl⟩
      have hg2 : W'.grownBy W2 (some (w.heap.size + 1)) := by rw [hW2]; exact grownBy_putObj' _ _ _
      have hi2 : I k W2 := by rw [hW2]; exact hI.putObj _ hi1 (by omega) hl1 rfl
      have hl2 : W2.heap[w.heap.size + 1]? = some (.loop (rec0 .busy none)) := by rw [hW2]; exact World.putObj_heap_same hlt1
      have hd2 : W2.heap[w.heap.size]? = some (.deferred (some [])) := by rw [hW2]; exact (World.putObj_heap_other (by omega)).trans hd1
      have hb2 : Kp W' W2 := by rw [hW2]; exact hKb _ _ _ _ (by omega) hl1 rfl
      rw [← hW2]
      refine wpIn_mono (hbody W2 hg2 hi2) ?_
      have hkA : KeepsFrom W1.heap.size W W2 := (kf_mono hk1 (by omega)).trans (by rw [hW2]; exact KeepsFrom.put _ (by omega))
      have hkZ : ∀ (o : Obj) (W3 : World), KeepsFrom w.heap.size W2 W3 → KeepsFrom W1.heap.size W (W3.putObj (w.heap.size + 1) o) := fun o W3 h3 =>
        (hkA.trans (kf_mono h3 (by omega))).trans (KeepsFrom.put _ (by omega))
      have fin : ∀ (jump : Option Code) (W3 : World), KeepsFrom w.heap.size W2 W3 →
          (Instr.endRound (w.heap.size + 1) jump).run P W3 = .ok (.bool jump.isNone) (W3.putObj (w.heap.size + 1) (.loop (rec0 (if jump.isNone then .ready else .done) jump))) ∧
          W3.heap[w.heap.size + 1]? = some (.loop (rec0 .busy none)) ∧
          (W3.putObj (w.heap.size + 1) (.loop (rec0 (if jump.isNone then .ready else .done) jump))).heap[w.heap.size + 1]? = some (.loop (rec0 (if jump.isNone then .ready else .done) jump)) ∧
          (W3.putObj (w.heap.size + 1) (.loop (rec0 (if jump.isNone then .ready else .done) jump))).heap[w.heap.size]? = some (.deferred (some [])) := fun jump W3 hk3 => by
        have hl3 := hk3.same _ _ (by omega) hl2 rfl
        exact ⟨run_endRound jump hl3, hl3, World.putObj_heap_same (Array.getElem?_eq_some_iff.1 hl3).1, (World.putObj_heap_other (by omega)).trans (hk3.same _ _ (Nat.le_refl _) hd2 rfl)⟩
      rintro e a3 W3 hp
      cases e with
      | normal =>
        obtain ⟨hk3, hb3, hi3⟩ := hp
        obtain ⟨hr, hl3, hl4, hd4⟩ := fin none W3 hk3
        have hlt3 : w.heap.size + 1 < W3.heap.size := (Array.getElem?_eq_some_iff.1 hl3).1
        exact ⟨_, _, hr, hkZ _ _ hk3, .inl ⟨rfl, ⟨hI.putObj _ hi3 (by omega) hl3 rfl, hl4, hd4⟩, hKt (hKt (hKt hb1 hb2) hb3) (hKb _ _ _ _ (by omega) hl3 rfl)⟩⟩
      | ret =>
        obtain ⟨hk3, hi3⟩ := hp
        obtain ⟨hr, hl3, hl4, hd4⟩ := fin (some .ret) W3 hk3
        exact ⟨_, _, hr, hkZ _ _ hk3, .inr ⟨rfl, .ret, (hIx _).putObj _ hi3 (by omega) hl3 rfl, hl4, hd4⟩⟩
      | exit id =>
        obtain ⟨hk3, hi3⟩ := hp
        obtain ⟨hr, hl3, hl4, hd4⟩ := fin (some (.exit id)) W3 hk3
        exact ⟨_, _, hr, hkZ _ _ hk3, .inr ⟨rfl, .exit id, (hIx _).putObj _ hi3 (by omega) hl3 rfl, hl4, hd4⟩⟩
      | goto t =>
        obtain ⟨hk3, hi3⟩ := hp
        obtain ⟨hr, hl3, hl4, hd4⟩ := fin (some (.goto t)) W3 hk3
        exact ⟨_, _, hr, hkZ _ _ hk3, .inr ⟨rfl, .goto t, (hIx _).putObj _ hi3 (by omega) hl3 rfl, hl4, hd4⟩⟩
      | panic ch => exact hp.elim
      | outgrown => exact hp.elim
    | _ => exact he.elim
  · -- behind the iterator
    rintro e W2 ⟨⟨v, rfl⟩, (⟨hi, hl, hd⟩ | ⟨k, hk, c, hi, hl, hd⟩)⟩
    · exact ⟨none, _, run_endLoop hl (by simp [rec0]), hdone _ _ (Nat.le_refl _) (hI.putObj _ hi (by omega) hl rfl) ((World.putObj_heap_other (by omega)).trans hd)⟩
    · exact ⟨some c, _, run_endLoop hl (by simp [rec0]), hstop _ c k _ (Nat.le_refl _) hk ((hIx c).putObj _ hi (by omega) hl rfl) ((World.putObj_heap_other (by omega)).trans hd)⟩

end Go.Proofs.YteggkojlpgkhbaaGreat
