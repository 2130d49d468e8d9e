/-
  The contracts of pmem's functions that turn a device: Flush, Write.
-/
import Derived.Test.YteggkojlpgkhbaaGreatM2
import Derived.Test.YteggkojlpgkhbaaGreatReg
namespace Go.Proofs.YteggkojlpgkhbaaGreat
open Go.RowKit Go.Maps
set_option linter.unusedVariables false

/-! ### Regions that draw: one block may turn -/
def ExO (r : Option Nat) (w w' : World) : Prop := w.grownBy w' r
theorem ExO.refl (r : Option Nat) (w : World) : ExO r w w := grown_refl w r
theorem ExO.trans {r : Option Nat} {a b c : World} (h : ExO r a b) (k : ExO r b c) : ExO r a c := World.grownBy.trans h k
section
variable {P : Program} {md : Region.Mode} {ops : Array Oper} {Q : Exit → Act → World → Prop}
theorem reg_beginO (r : Option Nat) {id : Nat} {a : Act} {w : World} (hm : P.follows .mixedOrders = true)
    (h : ∀ w0, Hid (w0.heap = w.heap) → ExO r w w0 → ExO r w0 w0 → wpAnyH P .any ops (NoPanic Q) (ExO r w0) ops.size (Array.replicate ops.size false) a w0) : (Code.region id ops true).wp P Q a w :=
  wp_region_noPanic <| wp_region_held_drew (S := ExO r w.drew) hm (ExO.refl _ _) (fun _ => h w.drew (hid rfl) ⟨rfl, rfl, rfl, Nat.le_refl _, fun _ _ _ => rfl⟩ (ExO.refl _ _))
theorem reg_onO {r : Option Nat} {w w1 : World} {fuel : Nat} {listed : Array Bool} {a : Act} (h : ExO r w w1) (k : ExO r w1 w1 → wpAnyH P md ops Q (ExO r w1) fuel listed a w1) : wpAnyH P md ops Q (ExO r w) fuel listed a w1 :=
  held_weaken (fun _ h' => h.trans h') _ _ _ _ (k (ExO.refl _ _))
theorem reg_takeO (i : Nat) {r : Option Nat} {oi : Oper} {v : Value} {fuel : Nat} {listed : Array Bool} {a : Act} {w w1 : World} (hi : ops[i]? = some oi)
    (hs : Region.noSelect ops = true) (hf : Region.free md ops listed i = true) (hr : (Region.ready md ops listed).contains i = true)
    (hy : Region.wanted oi (yielded ops a.tmps) = true) (hv : ∀ w', ExO r w1 w' → (execOp a.eval oi).run P w' = .ok (.value v) w') (hS : ExO r w1 w)
    (h : wpAnyH P md ops (NoPanic Q) (ExO r w1) fuel (listed.setIfInBounds i true) (a.put oi.dst v) w) : wpAnyH P md ops (NoPanic Q) (ExO r w1) (fuel + 1) listed a w :=
  wpAnyH_take hi hs hf hr (fun _ _ _ h => h) (Or.inl ⟨hy, hv⟩) hS h
end
theorem step_storeM {w w' : World} {o : Oper} {a : Act} {K : Act → World → Prop} {Q : Exit → Act → World → Prop} {y : Nat → Option Bool} {t : TypeId} {vm vx vv : Value} (hgd : o.guard = none) (m x v : Operand)
    (hop : o.op = .mapUpdate t m x v) (hm : a.eval m = vm) (hx : a.eval x = vx) (hv : a.eval v = vv)
    (hrun : (Instr.mapUpdate t vm vx vv).run Tryz.prog w = .ok () w') (hk : K (a.put o.dst undef) w') :
    if Region.wanted o y = true then Oper.wp Tryz.prog o a w K Q else K (a.put o.dst undef) w := by
  simp only [Region.wanted, hgd, if_true]
  unfold Oper.wp
  simp [execOp, hop, hm, hx, hv, hrun, Result.andThen]
  exact hk

/-! ### A device, one block of which has turned -/
section
variable {w w' : World} {B d g cap lb fb : Nat} {S S' : List UInt8} {L L' : Int → Option (List UInt8)} {F F' : Int → Bool}
theorem Dev.dl (h : Dev w B d g cap lb fb S L F) : d ≠ lb := fun e => by
  obtain ⟨n, hm⟩ := h.loose; obtain ⟨es, c, hb⟩ := hm.isMap
  have := h.hd; rw [e, hb] at this; cases this
theorem Dev.df (h : Dev w B d g cap lb fb S L F) : d ≠ fb := fun e => by
  obtain ⟨n, hm⟩ := h.flush; obtain ⟨es, c, hb⟩ := hm.isMap
  have := h.hd; rw [e, hb] at this; cases this
theorem Dev.gl (h : Dev w B d g cap lb fb S L F) : g ≠ lb := fun e => by
  obtain ⟨n, hm⟩ := h.loose; obtain ⟨es, c, hb⟩ := hm.isMap
  obtain ⟨cur, h1, _⟩ := h.row; rw [e, hb] at h1; cases h1
theorem Dev.gf (h : Dev w B d g cap lb fb S L F) : g ≠ fb := fun e => by
  obtain ⟨n, hm⟩ := h.flush; obtain ⟨es, c, hb⟩ := hm.isMap
  obtain ⟨cur, h1, _⟩ := h.row; rw [e, hb] at h1; cases h1
theorem Dev.dg (h : Dev w B d g cap lb fb S L F) : d ≠ g := fun e => by
  obtain ⟨cur, h1, _⟩ := h.row; have := h.hd; rw [e, h1] at this; cases this
theorem Dev.setL (h : Dev w B d g cap lb fb S L F) (hg : w.grownBy w' (some lb)) (hm : ∃ n, Mp w' lb n (lfun L')) (hk : ∀ k x, L' k = some x → 0 ≤ k ∧ k * 8 + 8 ≤ S.length ∧ x.length = 8) : Dev w' B d g cap lb fb S L' F :=
  { h with
    hd := (hg.block d h.dlt (by have := h.dl; simp [this])).trans h.hd
    row := h.row.cong (hg.block g h.glt (by have := h.gl; simp [this]))
    loose := hm
    flush := by obtain ⟨n, hf⟩ := h.flush; exact ⟨n, hf.kept hg (by have := h.ne; simp; omega)⟩
    keyL := hk }
theorem Dev.setF (h : Dev w B d g cap lb fb S L F) (hg : w.grownBy w' (some fb)) (hm : ∃ n, Mp w' fb n (ffun F')) (hk : ∀ k, F' k = true → 0 ≤ k ∧ k * 8 + 8 ≤ S.length) : Dev w' B d g cap lb fb S L F' :=
  { h with
    hd := (hg.block d h.dlt (by have := h.df; simp [this])).trans h.hd
    row := h.row.cong (hg.block g h.glt (by have := h.gf; simp [this]))
    flush := hm
    loose := by obtain ⟨n, hf⟩ := h.loose; exact ⟨n, hf.kept hg (by have := h.ne; simp; omega)⟩
    keyF := hk }
theorem Dev.setS (h : Dev w B d g cap lb fb S L F) (hg : w.grownBy w' (some g)) (hr : Row w' g cap S') (hs : S'.length = S.length) : Dev w' B d g cap lb fb S' L F :=
  { h with
    hd := by rw [hs]; exact (hg.block d h.dlt (by have := h.dg; simp [this])).trans h.hd
    row := hr
    loose := by obtain ⟨n, hf⟩ := h.loose; exact ⟨n, hf.kept hg (by have := h.gl; simp; omega)⟩
    flush := by obtain ⟨n, hf⟩ := h.flush; exact ⟨n, hf.kept hg (by have := h.gf; simp; omega)⟩
    len := by rw [hs]; exact h.len
    keyL := by rw [hs]; exact h.keyL
    keyF := by rw [hs]; exact h.keyF }
/-- .. with few entries. -/
theorem Dev.mpL (h : Dev w B d g cap lb fb S L F) : Mp w lb 8192 (lfun L) := by
  obtain ⟨n, hm⟩ := h.loose
  refine hm.small fun k hk => ?_
  cases hl : L k with
  | none => simp [lfun, hl] at hk
  | some x => have := h.keyL k x hl; have := h.len.2; omega
theorem Dev.mpF (h : Dev w B d g cap lb fb S L F) : Mp w fb 8192 (ffun F) := by
  obtain ⟨n, hm⟩ := h.flush
  refine hm.small fun k hk => ?_
  cases hl : F k with
  | false => simp [ffun, hl] at hk
  | true => have := h.keyF k hl; have := h.len.2; omega
/-- Nothing has turned but the device's row and its two maps; new blocks may be there. -/
structure Fr (g lb fb : Nat) (w w' : World) : Prop where
  os : w'.os = w.os
  tape : w'.tape = w.tape
  output : w'.output = w.output
  size : w.heap.size ≤ w'.heap.size
  block : ∀ i, i < w.heap.size → i ≠ g → i ≠ lb → i ≠ fb → w'.heap[i]? = w.heap[i]?
theorem Fr.refl (g lb fb : Nat) (w : World) : Fr g lb fb w w := ⟨rfl, rfl, rfl, Nat.le_refl _, fun _ _ _ _ _ => rfl⟩
section
variable {g lb fb : Nat} {a b c : World}
theorem Fr.by (h : Fr g lb fb a b) {r : Option Nat} (hg : b.grownBy c r) (hr : ∀ j, r = some j → j = g ∨ j = lb ∨ j = fb ∨ a.heap.size ≤ j) : Fr g lb fb a c :=
  ⟨hg.os.trans h.os, hg.tape.trans h.tape, hg.output.trans h.output, Nat.le_trans h.size hg.size, fun i hi h1 h2 h3 =>
    (hg.block i (Nat.lt_of_lt_of_le hi h.size) (fun e => by rcases hr i e.symm with h4 | h4 | h4 | h4 <;> omega)).trans (h.block i hi h1 h2 h3)⟩
theorem Fr.row (h : Fr g lb fb a b) (hg : b.grownBy c (some g)) : Fr g lb fb a c := h.by hg fun j hj => by cases hj; exact .inl rfl
theorem Fr.l (h : Fr g lb fb a b) (hg : b.grownBy c (some lb)) : Fr g lb fb a c := h.by hg fun j hj => by cases hj; exact .inr (.inl rfl)
theorem Fr.f (h : Fr g lb fb a b) (hg : b.grownBy c (some fb)) : Fr g lb fb a c := h.by hg fun j hj => by cases hj; exact .inr (.inr (.inl rfl))
theorem Fr.n {r : Nat} (h : Fr g lb fb a b) (hg : b.grownBy c (some r)) (hr : a.heap.size ≤ r) : Fr g lb fb a c := h.by hg fun j hj => by cases hj; exact .inr (.inr (.inr hr))
theorem Fr.alloc (h : Fr g lb fb a b) (o : Obj) : Fr g lb fb a (b.alloc o) := h.by (World.grownBy_alloc b o none) fun j hj => by cases hj
theorem Fr.then (h : Fr g lb fb a b) (hb : Below b.heap.size b c) : Fr g lb fb a c :=
  ⟨hb.os.trans h.os, hb.tape.trans h.tape, hb.output.trans h.output, Nat.le_trans h.size hb.size, fun i hi h1 h2 h3 => (hb.block i (Nat.lt_of_lt_of_le hi h.size)).trans (h.block i hi h1 h2 h3)⟩
theorem Fr.trans (h : Fr g lb fb a b) (k : Fr g lb fb b c) : Fr g lb fb a c :=
  ⟨k.os.trans h.os, k.tape.trans h.tape, k.output.trans h.output, Nat.le_trans h.size k.size, fun i hi h1 h2 h3 => (k.block i (Nat.lt_of_lt_of_le hi h.size) h1 h2 h3).trans (h.block i hi h1 h2 h3)⟩
end
theorem Dev.below (h : Dev w B d g cap lb fb S L F) (hf : Fr g lb fb w w') : Below B w w' :=
  ⟨hf.os, hf.tape, hf.output, hf.size, fun i hi => hf.block i (by have := h.Bg; have := h.glt; omega) (by have := h.Bg; omega) (by have := h.Bl; omega) (by have := h.Bf; omega)⟩
theorem below_grown {B : Nat} {a b c : World} {r : Nat} (h : Below B a b) (hg : b.grownBy c (some r)) (hr : B ≤ r) (hB : B ≤ a.heap.size) : Below B a c :=
  h.grown hg (Nat.le_trans hB h.size) (fun j hj => by cases hj; exact hr)
end

def z8 : List UInt8 := zeros 8
theorem zero61 (w : World) : (zeroValue 119).run Tryz.prog w = .ok (arr z8) w := Tryz.zeroValue119 w
theorem info61 : (Tryz.prog.info? 119).map (·.size) = some 8 := by kernel_rfl
theorem arr_all (x : List UInt8) : (x.map bv).toArray.all (·.oneCell') = true := by
  rw [Array.all_eq_true_iff_forall_mem]; intro v hv
  obtain ⟨c, _, rfl⟩ := List.mem_map.1 (by simpa using hv); rfl

theorem arr8 : ∀ {y : List UInt8}, y.length = 8 → ∃ n0 n1 n2 n3 n4 n5 n6 n7 : Int, arr y = .agg #[.int .u8 n0, .int .u8 n1, .int .u8 n2, .int .u8 n3, .int .u8 n4, .int .u8 n5, .int .u8 n6, .int .u8 n7]
  | [a0, a1, a2, a3, a4, a5, a6, a7], _ => ⟨a0.toNat, a1.toNat, a2.toNat, a3.toNat, a4.toNat, a5.toNat, a6.toNat, a7.toNat, rfl⟩

/-- What is flushed behind a Flush of the words from a to b. -/
def flF (F : Int → Bool) (L : Int → Option (List UInt8)) (a b : Int) : Int → Bool := fun k => F k || (decide (a ≤ k ∧ k < b) && (L k).isSome)

set_option maxHeartbeats 1000000 in
theorem flush_ok {w : World} {B d g cap lb fb : Nat} {S : List UInt8} {L : Int → Option (List UInt8)} {F : Int → Bool} (h : Dev w B d g cap lb fb S L F) (at_ long : Int) (ha : I64 at_) (hl : I64 long) (he : hE S.length at_ long = 0) :
    Calls Tryz.prog 52 #[.pointer (some ⟨d, 0, none⟩), .int .i64 at_, .int .i64 long] w fun e w' => e = .returned (.int .i64 0) ∧ Dev w' B d g cap lb fb S L (flF F L (spA at_ long) (spB at_ long)) ∧ Fr g lb fb w w' := by
  have hh := dholds_any h at_ long ha hl
  rw [he] at hh
  obtain ⟨h0, h1, h2⟩ := hE_ok he
  have hlen := h.len.2
  have hsp := span_any at_ long h0 h1 (by omega) w
  obtain ⟨a, hA⟩ : ∃ a, a = spA at_ long := ⟨_, rfl⟩
  obtain ⟨b, hb⟩ : ∃ b, b = spB at_ long := ⟨_, rfl⟩
  have hab : 0 ≤ a ∧ a ≤ b ∧ b ≤ 8192 := by subst hA; subst hb; unfold spA spB; split <;> omega
  rw [← hA, ← hb] at hsp ⊢
  obtain ⟨ha0, hab1, hb1⟩ := hab
  have HH := hid hh; have HS := hid hsp; have HD := hid h
  clear hh hsp h hA hb he h0 h1 h2 hlen ha hl
  go_enter Tryz.func52, Tryz.ntmps52
  go_wp2_with fail
  refine HH.out.mono ?_
  rintro e w1 ⟨rfl, rfl⟩
  go_wp2_with fail
  refine HS.out.mono ?_
  rintro e w2 ⟨rfl, rfl⟩
  go_wp2_with fail
  go_loopw [10] (fun i wr => ∃ k : Int, a ≤ k ∧ k ≤ b ∧ i = .int .i64 k ∧ Hid (Dev wr B d g cap lb fb S L (flF F L a k)) ∧ Hid (Fr g lb fb w2 wr)) (fun i _ => (b - intOf i).toNat)
  case atStart =>
    refine ⟨a, by omega, hab1, rfl, ?_, Fr.refl _ _ _ _⟩
    have e : flF F L a a = F := by funext k; simp [flF]; omega
    rw [e]; exact HD
  case round =>
    obtain ⟨k, hk1, hk2, rfl, hr, hbw⟩ := hrel
    by_cases hlt : k < b
    · have hki : I64 k := i64_iff.2 (by omega)
      have hc1 := hr.out.c1
      have hc2 : ∀ o, (wr.alloc o).cell? ⟨d, 2, none⟩ = some (.map (some fb)) := fun o => (hr.out.alloc o).c2
      have hlk := (hr.out.mpL).look_ok Tryz.underlying115 (zero61 wr) hki
      obtain ⟨y, hy, hy8⟩ : ∃ y, ((lfun L k).getD (arr z8)) = arr y ∧ y.length = 8 := by
        cases hl : L k with
        | none => exact ⟨z8, by simp [lfun, hl], rfl⟩
        | some x => exact ⟨x, by simp [lfun, hl], (hr.out.keyL k x hl).2.2⟩
      have hsome : (lfun L k).isSome = (L k).isSome := by simp [lfun]
      obtain ⟨n0, n1, n2, n3, n4, n5, n6, n7, hn⟩ := arr8 hy8
      rw [hy, hsome, hn] at hlk
      have HR := hid hr.out
      clear hy hy8 hn hsome
      cases hq : (L k).isSome with
      | false =>
        rw [hq] at hlk
        go_wp2_with fail
        refine ⟨⟨k + 1, by omega, by omega, rfl, ?_, Fr.alloc hbw.out _⟩, by simp [intOf]; omega⟩
        have e : flF F L a (k + 1) = flF F L a k := by
          funext j; by_cases hj : j = k
          · subst hj; simp [flF, hq]
          · have : (a ≤ j ∧ j < k + 1) ↔ (a ≤ j ∧ j < k) := by omega
            simp [flF, this]
        rw [e]; exact HR.out.alloc _
      | true =>
        rw [hq] at hlk
        go_wp2_with (at_mapUpdate; refine wpList_storeM (v := .bool true) rfl _ _ _ 116 rfl 4 Tryz.underlying116 (HR.out.mpF.alloc _) rfl (by decide) rfl rfl hki ?_; intro w3 hm3 ht3)
        have hg3 := ht3.grown
        have HD3 : Hid (Dev w3 B d g cap lb fb S L (flF F L a (k + 1))) := by
          refine (HR.out.alloc _).setF hg3 ⟨_, hm3.ext fun j => ?_⟩ fun j hj => ?_
          · by_cases e : j = k
            · subst e; simp [upd, ffun, flF, hq, hk1]; intro _; omega
            · have : (a ≤ j ∧ j < k + 1) ↔ (a ≤ j ∧ j < k) := by omega
              simp [upd, ffun, flF, e, this]
          · by_cases e : j = k
            · subst e
              cases hl : L j with
              | none => rw [hl] at hq; cases hq
              | some x => have := HR.out.keyL j x hl; exact ⟨this.1, this.2.1⟩
            · refine HR.out.keyF j ?_
              have : (a ≤ j ∧ j < k + 1) ↔ (a ≤ j ∧ j < k) := by omega
              simpa [flF, this] using hj
        have HB3 : Hid (Fr g lb fb w2 w3) := Fr.f (Fr.alloc hbw.out _) hg3
        clear hm3 ht3 hg3
        go_wp2_with fail
        exact ⟨⟨k + 1, by omega, by omega, rfl, HD3, HB3⟩, by simp [intOf]; omega⟩
    · obtain rfl : k = b := by omega
      go_wp2_with fail
      go_ret
      exact ⟨rfl, hr.out, hbw.out⟩

set_option maxHeartbeats 400000 in
theorem flush_bad {w : World} {B d g cap lb fb : Nat} {S : List UInt8} {L : Int → Option (List UInt8)} {F : Int → Bool} (h : Dev w B d g cap lb fb S L F) (at_ long : Int) (ha : I64 at_) (hl : I64 long) (he : hE S.length at_ long ≠ 0) :
    Calls Tryz.prog 52 #[.pointer (some ⟨d, 0, none⟩), .int .i64 at_, .int .i64 long] w fun e w' => e = .returned (.int .i64 (hE S.length at_ long)) ∧ w' = w := by
  have hh := dholds_any h at_ long ha hl
  obtain ⟨x, hx⟩ : ∃ x, x = hE S.length at_ long := ⟨_, rfl⟩
  rw [← hx] at hh he ⊢
  have HH := hid hh
  clear h hh hx ha hl
  go_enter Tryz.func52, Tryz.ntmps52
  go_wp2_with fail
  refine HH.out.mono ?_
  rintro e w1 ⟨rfl, rfl⟩
  go_wp2_with fail
  go_ret
  exact ⟨rfl, rfl⟩

/-- The word of that number. -/
def wordOf (S : List UInt8) (k : Int) : List UInt8 := (S.drop (k * 8).toNat).take 8
def wrL (S : List UInt8) (L : Int → Option (List UInt8)) (a b : Int) : Int → Option (List UInt8) := fun k => if a ≤ k ∧ k < b then some ((L k).getD (wordOf S k)) else L k
def wrF (F : Int → Bool) (a b : Int) : Int → Bool := fun k => F k && !decide (a ≤ k ∧ k < b)
theorem wordOf_length {S : List UInt8} {k : Int} (h0 : 0 ≤ k) (h : k * 8 + 8 ≤ S.length) : (wordOf S k).length = 8 := by
  unfold wordOf; rw [List.length_take, List.length_drop]; omega

theorem Row.load {w : World} {g cap : Nat} {S : List UInt8} (h : Row w g cap S) {k : Int} {m : Nat} (hm : (m : Int) = k * 8) (h8 : m + 8 ≤ S.length) :
    (Instr.loadAt 119 (.pointer (some ⟨g, m, none⟩))).run Tryz.prog w = .ok (arr (wordOf S k)) w := by
  have e : (k * 8).toNat = m := by omega
  have hl := wordOf_length (S := S) (k := k) (by omega) (by omega)
  refine run_loadAt_mid (P := Tryz.prog) w g m 119 ((wordOf S k).map bv) _ ?_ Tryz.underlying119 rfl (by rw [List.length_map, hl]; exact info61)
  intro j v hj
  have hj8 : j < 8 := by
    rcases Nat.lt_or_ge j 8 with h1 | h1
    · exact h1
    · rw [List.getElem?_eq_none (by simp [hl]; exact h1)] at hj; cases hj
  obtain ⟨b, off, eA, _, hc⟩ := h.rd.2.2.2.2 (by omega)
  cases eA
  have := hc (m + j) (by omega)
  rw [Nat.zero_add] at this
  rw [this, ← hj]
  simp only [List.getElem?_map, wordOf, e]
  rw [List.getElem?_take_of_lt hj8, List.getElem?_drop, List.getElem?_eq_getElem (by omega)]
  rfl

theorem Row.cells8 {w : World} {g cap : Nat} {S : List UInt8} (h : Row w g cap S) {k : Int} {m : Nat} (hm : (m : Int) = k * 8) (h8 : m + 8 ≤ S.length) :
    ∃ p0 p1 p2 p3 p4 p5 p6 p7 : Int, arr (wordOf S k) = .agg #[.int .u8 p0, .int .u8 p1, .int .u8 p2, .int .u8 p3, .int .u8 p4, .int .u8 p5, .int .u8 p6, .int .u8 p7] ∧ ∀ w' : World, w'.heap[g]? = w.heap[g]? → w'.cell? ⟨g, m, none⟩ = some (.int .u8 p0) ∧ w'.cell? ⟨g, m + 1, none⟩ = some (.int .u8 p1) ∧ w'.cell? ⟨g, m + 2, none⟩ = some (.int .u8 p2) ∧ w'.cell? ⟨g, m + 3, none⟩ = some (.int .u8 p3) ∧ w'.cell? ⟨g, m + 4, none⟩ = some (.int .u8 p4) ∧ w'.cell? ⟨g, m + 5, none⟩ = some (.int .u8 p5) ∧ w'.cell? ⟨g, m + 6, none⟩ = some (.int .u8 p6) ∧ w'.cell? ⟨g, m + 7, none⟩ = some (.int .u8 p7) := by
  have e : (k * 8).toNat = m := by omega
  have hl := wordOf_length (S := S) (k := k) (by omega) (by omega)
  have hc : ∀ (w' : World), w'.heap[g]? = w.heap[g]? → ∀ j (hj : j < 8), w'.cell? ⟨g, m + j, none⟩ = ((wordOf S k)[j]?).map bv := by
    intro w' hw j hj
    obtain ⟨b, off, eA, _, hc⟩ := (h.cong hw).rd.2.2.2.2 (by omega)
    cases eA
    have := hc (m + j) (by omega)
    rw [Nat.zero_add] at this
    rw [this]
    simp only [wordOf, e]
    rw [List.getElem?_take_of_lt hj, List.getElem?_drop, List.getElem?_eq_getElem (by omega)]
    rfl
  revert hc hl
  generalize wordOf S k = y
  intro hl hc
  match y, hl with
  | [a0, a1, a2, a3, a4, a5, a6, a7], _ =>
    exact ⟨a0.toNat, a1.toNat, a2.toNat, a3.toNat, a4.toNat, a5.toNat, a6.toNat, a7.toNat, rfl, fun w' hw => ⟨hc w' hw 0 (by omega), hc w' hw 1 (by omega), hc w' hw 2 (by omega), hc w' hw 3 (by omega), hc w' hw 4 (by omega), hc w' hw 5 (by omega), hc w' hw 6 (by omega), hc w' hw 7 (by omega)⟩⟩
theorem arrayAt8 (w : World) (ad : Addr) (c : Nat) : (Instr.arrayAt 119 (.slice (some ad) 8 c)).run Tryz.prog w = .ok (.pointer (some ad)) w := by
  simp [Instr.arrayAt, run_underlying Tryz.underlying119, Result.andThen]
theorem wpList_copyM {w w' : World} {ops : Array Oper} {rest : List Oper} {o : Oper} {a : Act} {Q : Exit → Act → World → Prop} {v1 v2 v : Value} (hg : o.guard = none) (m x : Operand) (hop : o.op = Op.call { callee := Callee.builtin Builtin.copy, args := #[m, x], argTypes := #[22, 22] })
    (hm : a.eval m = v1) (hx : a.eval x = v2) (hrun : (Builtin.copy_ #[22, 22] o.type #[v1, v2]).run Tryz.prog w = .ok v w')
    (hK : wpList Tryz.prog ops Q rest (a.put o.dst v) w') : wpList Tryz.prog ops Q (o :: rest) a w := by
  refine wpList_plain hg fun K' hK' => ?_
  unfold Oper.wp
  simp [execOp, hop, resolve, invoke, builtin, hm, hx, hrun, Result.andThen]
  exact hK' _ _ hK
theorem wrL_step {S : List UInt8} {L : Int → Option (List UInt8)} {a k j : Int} (e : j ≠ k) : wrL S L a (k + 1) j = wrL S L a k j := by
  unfold wrL
  by_cases h : a ≤ j ∧ j < k
  · rw [if_pos h, if_pos (by omega)]
  · rw [if_neg h, if_neg (by omega)]
theorem Fr.heap {g lb fb : Nat} {r : Option Nat} {w1 w w0 : World} (h : Fr g lb fb w1 w) (hh : w0.heap = w.heap) (hx : ExO r w w0) : Fr g lb fb w1 w0 :=
  h.then ⟨hx.os, hx.tape, hx.output, hx.size, fun i _ => by rw [hh]⟩
theorem Rd.keptMap {w w' : World} {A : Option Addr} {n c r : Nat} {l : List UInt8} (h : Rd w w.heap.size A n c l) (hg : w.grownBy w' (some r)) (hm : ∃ es k, w.heap[r]? = some (.map es k)) : Rd w' w'.heap.size A n c l :=
  ⟨h.1, h.2.1, h.2.2.1, h.2.2.2.1, fun hn => by
    obtain ⟨b, off, e, hlt, hc⟩ := h.2.2.2.2 hn
    have hbr : b ≠ r := by
      intro e; subst e
      obtain ⟨es, k, hm⟩ := hm
      have h0 := hc 0 (by have := h.1; omega)
      simp [World.cell?, hm] at h0
    refine ⟨b, off, e, Nat.lt_of_lt_of_le hlt hg.size, fun i hi => ?_⟩
    rw [← hc i hi]
    unfold World.cell?
    rw [hg.block b hlt (by simp [hbr])]⟩
theorem wrF_step {F : Int → Bool} {a k : Int} (hk1 : a ≤ k) (j : Int) : cut (ffun (wrF F a k)) k j = ffun (wrF F a (k + 1)) j := by
  by_cases e : j = k
  · subst e; simp [cut, ffun, wrF, hk1]; intro _; omega
  · have : wrF F a (k + 1) j = wrF F a k j := by
      have : decide (a ≤ j ∧ j < k + 1) = decide (a ≤ j ∧ j < k) := decide_eq_decide.2 (by omega)
      unfold wrF; rw [this]
    simp only [cut, ffun, this, if_neg e]
theorem wrF_less {F : Int → Bool} {a k j : Int} (h : wrF F a (k + 1) j = true) : wrF F a k j = true := by
  simp only [wrF, Bool.and_eq_true, Bool.not_eq_true', decide_eq_false_iff_not] at h ⊢
  exact ⟨h.1, by omega⟩

/-- copy of bytes into the row. -/
theorem Row.copy {w : World} {g cap : Nat} {S : List UInt8} (h : Row w g cap S) {B off m k : Nat} {A : Option Addr} {n c : Nat} {l : List UInt8} (hr : Rd w B A n c l) (hn : n ≤ m) (ho : off + n ≤ S.length) (ty : TypeId) :
    ∃ w', (Builtin.copy_ #[22, 22] ty #[.slice (some ⟨g, off, none⟩) m k, .slice A n c]).run Tryz.prog w = .ok (goInt n) w' ∧ Row w' g cap (setL S off l) ∧ w.grownBy w' (some g) := by
  have hl := hr.1
  obtain ⟨cur, hg, hs, hc, hm, ht⟩ := h
  by_cases h0 : n = 0
  · subst h0
    have : l = [] := List.eq_nil_of_length_eq_zero hl
    subst this
    refine ⟨w, ?_, ?_, grown_refl _ _⟩
    · rw [run_copy_none (P := Tryz.prog) _ 22 22 ty 5 _ A m k 0 c Tryz.underlying22 size8 (by simp)]
      simp
    · have e : setL S off [] = S := by simp [setL, splice]
      rw [e]; exact ⟨cur, hg, hs, hc, hm, ht⟩
  · obtain ⟨b, o2, e, hlt, hcc⟩ := hr.2.2.2.2 (by omega)
    subst e
    refine ⟨w.setRow g (splice cur.toList off (l.map bv)).toArray, ?_, ?_, ?_⟩
    · rw [run_copy_row (P := Tryz.prog) w 22 22 ty 5 g off m k ⟨b, o2, none⟩ n c cur 5 (l.map bv) Tryz.underlying22 size8 hg (by rw [List.length_map, hl]; exact (Nat.min_eq_left hn).symm) hr.cells (by simp; omega) bv_mem]
      simp [hl, splice]
    · refine ⟨(splice cur.toList off (l.map bv)).toArray, ?_, ?_, ?_, hm, ?_⟩
      · simp [World.setRow, Array.getElem?_modify, hg]
      · rw [List.size_toArray, length_splice _ _ _ (by simp; omega)]; simp [hs]
      · rw [setL_length _ _ _ (by omega)]; exact hc
      · rw [setL_length _ _ _ (by omega), List.toList_toArray]
        have e0 : cur.toList = S.map bv ++ cur.toList.drop S.length := by rw [← ht, List.take_append_drop]
        rw [e0, splice_append _ _ _ _ (by simp; omega), List.take_append_of_le_length (by rw [length_splice _ _ _ (by simp; omega)]; simp), List.take_of_length_le (by rw [length_splice _ _ _ (by simp; omega)]; simp), splice_map]
        rfl
    · exact ⟨rfl, rfl, rfl, by simp [World.setRow], fun i hi hne => by simp [World.setRow, Array.getElem?_modify]; intro e; exact absurd (by rw [e]) hne⟩

set_option maxRecDepth 8000 in
set_option maxHeartbeats 2000000 in
theorem write_ok {w : World} {B d g cap lb fb : Nat} {S : List UInt8} {L : Int → Option (List UInt8)} {F : Int → Bool} (h : Dev w B d g cap lb fb S L F) (at_ : Int) (ha : I64 at_) {A : Option Addr} {n c : Nat} {l : List UInt8} (hrd : Rd w w.heap.size A n c l) (he : hE S.length at_ n = 0) :
    Calls Tryz.prog 51 #[.pointer (some ⟨d, 0, none⟩), .int .i64 at_, .slice A n c] w fun e w' => e = .returned (.int .i64 0) ∧ Dev w' B d g cap lb fb (setL S at_.toNat l) (wrL S L (spA at_ n) (spB at_ n)) (wrF F (spA at_ n) (spB at_ n)) ∧ Fr g lb fb w w' := by
  have hn2 : n ≤ maxLen := Nat.le_trans hrd.2.1 hrd.2.2.1
  have hl : I64 n := i64_iff.2 (by unfold maxLen at hn2; omega)
  have hh := dholds_any h at_ n ha hl
  rw [he] at hh
  obtain ⟨h0, h1, h2⟩ := hE_ok he
  have hlen := h.len.2
  have hsp := span_any at_ n h0 h1 (by omega) w
  obtain ⟨a, hA⟩ : ∃ a, a = spA at_ n := ⟨_, rfl⟩
  obtain ⟨b, hb⟩ : ∃ b, b = spB at_ n := ⟨_, rfl⟩
  have hab : 0 ≤ a ∧ a ≤ b ∧ b ≤ 8192 ∧ b * 8 ≤ S.length := by have := h.len.1; subst hA; subst hb; unfold spA spB; split <;> omega
  rw [← hA, ← hb] at hsp ⊢
  obtain ⟨ha0, hab1, hb1, hb2⟩ := hab
  have HH := hid hh; have HS := hid hsp; have HD := hid h; have HR := hid hrd; have HE := hid he; have HL := hid hlen; have H2 := hid h2; have Hb2 := hid hb2
  clear hh hsp h hA hb he h1 h2 hlen ha hl hrd hn2 hb2
  go_enter Tryz.func51, Tryz.ntmps51
  go_wp2_with fail
  refine HH.out.mono ?_
  rintro e w1 ⟨rfl, rfl⟩
  go_wp2_with fail
  refine HS.out.mono ?_
  rintro e w2 ⟨rfl, rfl⟩
  go_wp2_with fail
  go_loopw [10] (fun i wr => ∃ k : Int, a ≤ k ∧ k ≤ b ∧ i = .int .i64 k ∧ Hid (Dev wr B d g cap lb fb S (wrL S L a k) (wrF F a k)) ∧ Hid (Fr g lb fb w2 wr) ∧ Hid (Rd wr wr.heap.size A n c l)) (fun i _ => (b - intOf i).toNat)
  case atStart =>
    refine ⟨a, by omega, hab1, rfl, ?_, Fr.refl _ _ _ _, HR⟩
    have e1 : wrL S L a a = L := by funext k; simp only [wrL]; rw [if_neg (by omega)]
    have e2 : wrF F a a = F := by funext k; simp only [wrF]; rw [decide_eq_false (by omega)]; simp
    rw [e1, e2]; exact HD
  case round =>
    obtain ⟨k, hk1, hk2, rfl, hr, hbw, hsr⟩ := hrel
    by_cases hlt : k < b
    · have hki : I64 k := i64_iff.2 (by omega)
      have hc1 := hr.out.c1
      have hLk : wrL S L a k k = L k := by simp only [wrL]; rw [if_neg (by omega)]
      have hlk := (hr.out.mpL).look_ok Tryz.underlying115 (zero61 wr) hki
      obtain ⟨y, hy, hy8⟩ : ∃ y, ((lfun (wrL S L a k) k).getD (arr z8)) = arr y ∧ y.length = 8 := by
        cases hl : L k with
        | none => exact ⟨z8, by simp [lfun, hLk, hl], rfl⟩
        | some x => exact ⟨x, by simp [lfun, hLk, hl], (HD.out.keyL k x hl).2.2⟩
      have hsome : (lfun (wrL S L a k) k).isSome = (L k).isSome := by simp [lfun, hLk]
      obtain ⟨n0, n1, n2, n3, n4, n5, n6, n7, hn⟩ := arr8 hy8
      rw [hy, hsome, hn] at hlk
      have HR := hid hr.out
      have HLk := hid hLk
      clear hy hy8 hn hsome hLk
      cases hq : (L k).isSome with
      | true =>
        rw [hq] at hlk
        have hc2 : ∀ o, (wr.alloc o).cell? ⟨d, 2, none⟩ = some (.map (some fb)) := fun o => (hr.out.alloc o).c2
        go_wp2_with (at_delete; refine wpList_dropM (k := k) rfl _ _ 116 rfl 4 Tryz.underlying116 (HR.out.mpF.alloc _) rfl rfl hki ?_; intro w3 hm3 ht3)
        have hg3 := ht3.grown
        have HD3 : Hid (Dev w3 B d g cap lb fb S (wrL S L a (k + 1)) (wrF F a (k + 1))) := by
          have e1 : wrL S L a (k + 1) = wrL S L a k := by
            funext j; by_cases hj : j = k
            · subst hj; rw [HLk.out]; simp only [wrL]; rw [if_pos (by omega)]
              cases hl : L j with
              | none => rw [hl] at hq; cases hq
              | some x => rfl
            · exact wrL_step hj
          rw [e1]
          exact (HR.out.alloc _).setF hg3 ⟨_, hm3.ext fun j => wrF_step hk1 j⟩ fun j hj => HR.out.keyF j (wrF_less hj)
        have HB3 : Hid (Fr g lb fb w2 w3) := Fr.f (Fr.alloc hbw.out _) hg3
        have HS3 : Hid (Rd w3 w3.heap.size A n c l) := (hsr.out.on (B1 wr _)).keptMap hg3 (HR.out.mpF.alloc _).isMap
        clear hm3 ht3 hg3
        go_wp2_with fail
        exact ⟨⟨k + 1, by omega, by omega, rfl, HD3, HB3, HS3⟩, by simp [intOf]; omega⟩
      | false =>
        rw [hq] at hlk
        have hLn : L k = none := by cases hl : L k with | none => rfl | some x => rw [hl] at hq; cases hq
        obtain ⟨m, hm⟩ : ∃ m : Nat, (m : Int) = k * 8 := ⟨(k * 8).toNat, by omega⟩
        have HM := hid hm; clear hm
        have HM8 : Hid (m + 8 ≤ S.length) := show _ ≤ _ by have := HM.out; have := Hb2.out; omega
        go_wp2_with fail
        refine reg_beginO (some lb) (by kernel_rfl) (fun w0 hh0 hx0 hHeld => ?_)
        have HD0 := hid ((HR.out.alloc _).cong (w' := w0) (by rw [hh0.out]) (by rw [hh0.out]) (by rw [hh0.out]) (by rw [hh0.out]))
        have hcx : ∀ w', ExO (some lb) w0 w' → w'.cell? ⟨d, 1, none⟩ = some (.map (some lb)) := fun w' hx => by rw [row_cell ((hx.block d HD0.out.dlt (by have := HD0.out.dl; simp [this])).trans HD0.out.hd)]; rfl
        have hat : ∀ w', (Instr.arrayAt 119 (.slice (some ⟨g, m, none⟩) 8 (cap - m))).run Tryz.prog w' = .ok (.pointer (some ⟨g, m, none⟩)) w' := fun w' => arrayAt8 w' _ _
        obtain ⟨p0, p1, p2, p3, p4, p5, p6, p7, hpe, hpc⟩ := HD0.out.row.cells8 HM.out HM8.out
        have hpg : ∀ w', ExO (some lb) w0 w' → w'.heap[g]? = w0.heap[g]? := fun w' hx => hx.block g HD0.out.glt (by have := HD0.out.gl; simp [this])
        have hp0 : ∀ w', ExO (some lb) w0 w' → w'.cell? ⟨g, m, none⟩ = some (.int .u8 p0) := fun w' hx => (hpc w' (hpg w' hx)).1
        have hp1 : ∀ w', ExO (some lb) w0 w' → w'.cell? ⟨g, m + 1, none⟩ = some (.int .u8 p1) := fun w' hx => (hpc w' (hpg w' hx)).2.1
        have hp2 : ∀ w', ExO (some lb) w0 w' → w'.cell? ⟨g, m + 2, none⟩ = some (.int .u8 p2) := fun w' hx => (hpc w' (hpg w' hx)).2.2.1
        have hp3 : ∀ w', ExO (some lb) w0 w' → w'.cell? ⟨g, m + 3, none⟩ = some (.int .u8 p3) := fun w' hx => (hpc w' (hpg w' hx)).2.2.2.1
        have hp4 : ∀ w', ExO (some lb) w0 w' → w'.cell? ⟨g, m + 4, none⟩ = some (.int .u8 p4) := fun w' hx => (hpc w' (hpg w' hx)).2.2.2.2.1
        have hp5 : ∀ w', ExO (some lb) w0 w' → w'.cell? ⟨g, m + 5, none⟩ = some (.int .u8 p5) := fun w' hx => (hpc w' (hpg w' hx)).2.2.2.2.2.1
        have hp6 : ∀ w', ExO (some lb) w0 w' → w'.cell? ⟨g, m + 6, none⟩ = some (.int .u8 p6) := fun w' hx => (hpc w' (hpg w' hx)).2.2.2.2.2.2.1
        have hp7 : ∀ w', ExO (some lb) w0 w' → w'.cell? ⟨g, m + 7, none⟩ = some (.int .u8 p7) := fun w' hx => (hpc w' (hpg w' hx)).2.2.2.2.2.2.2
        have HPE := hid hpe; clear hpe hpc hpg
        refine reg_takeO 0 (v := ?vb0) at0 (by kernel_rfl) (by kernel_rfl) (by kernel_rfl) (by rfl) ?hyb0 hHeld ?restb0
        case hyb0 => (intro w' hSw; go_simp; try with_reducible rfl)
        try simp only [Act.put, List.setIfInBounds_toArray, List.set_cons_zero, List.set_cons_succ]
        refine reg_takeO 1 (v := ?vb1) (atS at0) (by kernel_rfl) (by kernel_rfl) (by kernel_rfl) (by rfl) ?hyb1 hHeld ?restb1
        case hyb1 => (intro w' hSw; go_simp; try with_reducible rfl)
        try simp only [Act.put, List.setIfInBounds_toArray, List.set_cons_zero, List.set_cons_succ]
        refine reg_takeO 2 (v := ?vb2) (atS (atS at0)) (by kernel_rfl) (by kernel_rfl) (by kernel_rfl) (by rfl) ?hyb2 hHeld ?restb2
        case hyb2 => (intro w' hSw; go_simp; try with_reducible rfl)
        try simp only [Act.put, List.setIfInBounds_toArray, List.set_cons_zero, List.set_cons_succ]
        refine reg_takeO 3 (v := ?vb3) (atS (atS (atS at0))) (by kernel_rfl) (by kernel_rfl) (by kernel_rfl) (by rfl) ?hyb3 hHeld ?restb3
        case hyb3 => (intro w' hSw; go_simp; try with_reducible rfl)
        try simp only [Act.put, List.setIfInBounds_toArray, List.set_cons_zero, List.set_cons_succ]
        refine reg_takeO 4 (v := ?vb4) (atS (atS (atS (atS at0)))) (by kernel_rfl) (by kernel_rfl) (by kernel_rfl) (by rfl) ?hyb4 hHeld ?restb4
        case hyb4 => (intro w' hSw; go_simp; try with_reducible rfl)
        try simp only [Act.put, List.setIfInBounds_toArray, List.set_cons_zero, List.set_cons_succ]
        refine reg_takeO 5 (v := ?vb5) (atS5 at0) (by kernel_rfl) (by kernel_rfl) (by kernel_rfl) (by rfl) ?hyb5 hHeld ?restb5
        case hyb5 => (intro w' hSw; go_simp; try with_reducible rfl)
        try simp only [Act.put, List.setIfInBounds_toArray, List.set_cons_zero, List.set_cons_succ]
        refine reg_takeO 6 (v := ?vb6) (atS5 (atS at0)) (by kernel_rfl) (by kernel_rfl) (by kernel_rfl) (by rfl) ?hyb6 hHeld ?restb6
        case hyb6 => (intro w' hSw; go_simp; try with_reducible rfl)
        try simp only [Act.put, List.setIfInBounds_toArray, List.set_cons_zero, List.set_cons_succ]
        refine wpAnyH_ready (rs := [7]) (by kernel_rfl) (by simp) ?_
        refine AllReadyH.cons (atS5 (atS (atS at0))) (fun K hK => ?_) AllReadyH.nil
        go_simp
        refine (word_any HD0.out k m HM.out HM8.out).mono ?_
        rintro e w4 ⟨rfl, rfl⟩
        go_wp2_with fail
        refine hK.out _ _ (ExO.refl _ _) (fun hHeld => ?_)
        clear hK K
        try simp only [Act.put, List.setIfInBounds_toArray, List.set_cons_zero, List.set_cons_succ]
        obtain ⟨w5, hrun5, hm5, ht5⟩ := HD0.out.mpL.store Tryz.underlying115 (by decide) hki (.agg #[.int .u8 p0, .int .u8 p1, .int .u8 p2, .int .u8 p3, .int .u8 p4, .int .u8 p5, .int .u8 p6, .int .u8 p7])
        rw [← HPE.out] at hm5
        have hg5 : ExO (some lb) w4 w5 := ht5.grown
        refine reg_takeO 8 (v := ?vb8) (atS5 (atS (atS (atS at0)))) (by kernel_rfl) (by kernel_rfl) (by kernel_rfl) (by rfl) ?hyb8 hHeld ?restb8
        case hyb8 => (intro w' hSw; go_simp; try with_reducible rfl)
        try simp only [Act.put, List.setIfInBounds_toArray, List.set_cons_zero, List.set_cons_succ]
        refine reg_takeO 9 (v := ?vb9) (atS5 (atS (atS (atS (atS at0))))) (by kernel_rfl) (by kernel_rfl) (by kernel_rfl) (by rfl) ?hyb9 hHeld ?restb9
        case hyb9 => (intro w' hSw; go_simp; try with_reducible rfl)
        try simp only [Act.put, List.setIfInBounds_toArray, List.set_cons_zero, List.set_cons_succ]
        refine wpAnyH_ready (rs := [10]) (by kernel_rfl) (by simp) ?_
        refine AllReadyH.cons (atS5 (atS5 at0)) (fun K hK => ?_) AllReadyH.nil
        refine step_storeM (by rfl) (.tmp 48) (.tmp 49) (.tmp 54) (by rfl) (by rfl) (by rfl) (by rfl) hrun5 ?_
        refine hK.out _ _ hg5 (fun hHeld => ?_)
        clear hK K
        try simp only [Act.put]
        refine wpAnyH_done (by kernel_rfl) ?_ _
        refine NoPanic.normal ?_
        have HD5 : Hid (Dev w5 B d g cap lb fb S (wrL S L a (k + 1)) (wrF F a k)) := by
          refine HD0.out.setL hg5 ⟨_, hm5.ext fun j => ?_⟩ fun j x hj => ?_
          · by_cases e : j = k
            · subst e
              show (if j = j then some (arr (wordOf S j)) else _) = Option.map arr (if a ≤ j ∧ j < j + 1 then some ((L j).getD (wordOf S j)) else L j)
              rw [if_pos rfl, if_pos (show a ≤ j ∧ j < j + 1 by omega), hLn]; rfl
            · simp only [upd, if_neg e, lfun, wrL_step e]
          · by_cases e : j = k
            · subst e
              simp only [wrL] at hj
              rw [if_pos (by omega), hLn] at hj
              cases hj
              have := HM.out; have := HM8.out
              exact ⟨by omega, by omega, wordOf_length (by omega) (by omega)⟩
            · rw [wrL_step e] at hj; exact HR.out.keyL j x hj
        have HB5 : Hid (Fr g lb fb w2 w5) := Fr.l ((Fr.alloc hbw.out _).heap hh0.out hx0) hg5
        have HS5 : Hid (Rd w5 w5.heap.size A n c l) := ((hsr.out.on (B1 wr _)).keptMap hx0 (HR.out.mpL.alloc _).isMap).keptMap hg5 HD0.out.mpL.isMap
        clear hm5 ht5 hg5 hrun5 hp0 hp1 hp2 hp3 hp4 hp5 hp6 hp7 HPE hat hcx HD0
        have hc25 := HD5.out.c2
        go_wp2_with (at_delete; refine wpList_dropM (k := k) rfl _ _ 116 rfl 4 Tryz.underlying116 HD5.out.mpF rfl rfl hki ?_; intro w3 hm3 ht3)
        have hg3 := ht3.grown
        have HD3 : Hid (Dev w3 B d g cap lb fb S (wrL S L a (k + 1)) (wrF F a (k + 1))) := HD5.out.setF hg3 ⟨_, hm3.ext fun j => wrF_step hk1 j⟩ fun j hj => HR.out.keyF j (wrF_less hj)
        have HB3 : Hid (Fr g lb fb w2 w3) := Fr.f HB5.out hg3
        have HS3 : Hid (Rd w3 w3.heap.size A n c l) := HS5.out.keptMap hg3 HD5.out.mpF.isMap
        clear hm3 ht3 hg3
        go_wp2_with fail
        exact ⟨⟨k + 1, by omega, by omega, rfl, HD3, HB3, HS3⟩, by simp [intOf]; omega⟩
    · obtain rfl : k = b := by omega
      have hc0 := hr.out.c0
      obtain ⟨N, hN⟩ : ∃ N, N = S.length := ⟨_, rfl⟩
      have hatN : at_ ≤ N := by have := H2.out; omega
      have HN := hid hN
      rw [← hN] at hc0; clear hN
      by_cases hq : cap = at_.toNat
      · subst hq
        have hn0 : n = 0 := by obtain ⟨cur, _, _, hc, _⟩ := HD.out.row; have := H2.out; omega
        have hl0 : l = [] := List.eq_nil_of_length_eq_zero (HR.out.1.trans hn0)
        subst hn0
        have hrun : ∀ ty, (Builtin.copy_ #[22, 22] ty #[.slice (some ⟨g, 0, none⟩) (N - at_.toNat) 0, .slice A 0 c]).run Tryz.prog wr = .ok (goInt (0 : Nat)) wr := fun ty => by
          rw [run_copy_none (P := Tryz.prog) _ 22 22 ty 5 _ A _ _ 0 c Tryz.underlying22 size8 (by simp)]
          simp
        go_wp2_with fail
        go_ret
        refine ⟨rfl, ?_, hbw.out⟩
        have e : setL S at_.toNat [] = S := by simp [setL, splice]
        rw [e]; exact hr.out
      · obtain ⟨w6, hrun, hrow, hg6⟩ := hr.out.row.copy (off := at_.toNat) (m := N - at_.toNat) (k := cap - at_.toNat) hsr.out (by have := H2.out; have := HN.out; omega) (by have := H2.out; have := HN.out; omega) 3
        have HD6 : Hid (Dev w6 B d g cap lb fb (setL S at_.toNat l) (wrL S L a k) (wrF F a k)) := hr.out.setS hg6 hrow (setL_length _ _ _ (by have := H2.out; have := HR.out.1; omega))
        have HB6 : Hid (Fr g lb fb w2 w6) := Fr.row hbw.out hg6
        clear hrow hg6
        go_wp2_with fail
        go_ret
        exact ⟨rfl, HD6.out, HB6.out⟩

set_option maxHeartbeats 400000 in
theorem write_bad {w : World} {B d g cap lb fb : Nat} {S : List UInt8} {L : Int → Option (List UInt8)} {F : Int → Bool} (h : Dev w B d g cap lb fb S L F) (at_ : Int) (ha : I64 at_) {A : Option Addr} {n c : Nat} (hl : I64 n) (he : hE S.length at_ n ≠ 0) :
    Calls Tryz.prog 51 #[.pointer (some ⟨d, 0, none⟩), .int .i64 at_, .slice A n c] w fun e w' => e = .returned (.int .i64 (hE S.length at_ n)) ∧ w' = w := by
  have hh := dholds_any h at_ n ha hl
  obtain ⟨x, hx⟩ : ∃ x, x = hE S.length at_ n := ⟨_, rfl⟩
  rw [← hx] at hh he ⊢
  have HH := hid hh
  clear h hh hx ha hl
  go_enter Tryz.func51, Tryz.ntmps51
  go_wp2_with fail
  refine HH.out.mono ?_
  rintro e w1 ⟨rfl, rfl⟩
  go_wp2_with fail
  go_ret
  exact ⟨rfl, rfl⟩
end Go.Proofs.YteggkojlpgkhbaaGreat
