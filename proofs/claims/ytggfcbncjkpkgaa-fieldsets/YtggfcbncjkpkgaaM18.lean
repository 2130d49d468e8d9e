/-
  The bytes of fields, read: mathematics; rows of fields of the call's own; the document's Decode of layer 6.
  The document's Decode and Same of layer 6.
-/
import Derived.Test.YtggfcbncjkpkgaaM17

namespace Go.Proofs.Ytggfcbncjkpkgaa
open Go.RowKit
set_option linter.unusedVariables false

theorem le1 (x : Int) : le x 1 = [byteAt x 0] := rfl
theorem byteAt0 {x : Int} (h0 : 0 ≤ x) (h : x < 256) : ((byteAt x 0).toNat : Int) = x := by
  have h1 : pw ((0 : Nat) : Int) = 1 := rfl
  unfold byteAt
  rw [h1, UInt8.toNat_ofNat']
  omega
theorem encP_split {l : List Fd} {j : Nat} {f : Fd} (h : l[j]? = some f) : encP l = encP (l.take j) ++ (encF f ++ encP (l.drop (j + 1))) := by
  have hi : j < l.length := by
    by_cases c : j < l.length
    · exact c
    · rw [List.getElem?_eq_none (by omega)] at h; cases h
  have hd : l.drop j = f :: l.drop (j + 1) := by
    rw [List.drop_eq_getElem_cons hi]
    rw [List.getElem?_eq_getElem hi] at h
    cases h; rfl
  have e : encP l = encP (l.take j) ++ encP (l.drop j) := by
    unfold encP; rw [← List.flatten_append, ← List.map_append, List.take_append_drop]
  rw [e, hd]
  rfl
/-- What stands at a field's place among the bytes. -/
theorem dec_at {s : List UInt8} {l : List Fd} (hr : rightL l = true) (hs : encA l = s) {j : Nat} {f : Fd} (hf : l[j]? = some f) {z : Nat} (hz : z = 1 + (encP (l.take j)).length) :
    ∃ R, s.drop z = encF f ++ R ∧ s.length = z + (encF f).length + R.length ∧ R = encP (l.drop (j + 1)) := by
  refine ⟨encP (l.drop (j + 1)), ?_, ?_, rfl⟩
  · rw [← hs]
    unfold encA
    rw [encP_split hf, ← List.append_assoc, List.drop_append_of_le_length (by simp [le_length]; omega), List.drop_of_length_le (by simp [le_length]; omega), List.nil_append]
  · rw [← hs]
    unfold encA
    rw [encP_split hf]
    simp only [List.length_append, le_length]
    omega
theorem dec_step {s : List UInt8} {l : List Fd} (hr : rightL l = true) (hs : encA l = s) {j : Nat} (hj : j ≤ l.length) {z : Nat} (hz : z = 1 + (encP (l.take j)).length) (hlt : z < s.length) :
    ∃ f, l[j]? = some f ∧ s[z].toNat = f.nm.length ∧ z + f.nm.length + 2 < s.length ∧ (s.drop (z + 1)).take f.nm.length = f.nm ∧ (∀ h : z + 1 + f.nm.length < s.length, (s[z + 1 + f.nm.length].toNat : Int) = f.k) ∧ (∀ h : z + 2 + f.nm.length < s.length, (s[z + 2 + f.nm.length].toNat : Int) = f.g) ∧ z + 3 + f.nm.length = 1 + (encP (l.take (j + 1))).length := by
  have hjl : j < l.length := by
    by_cases c : j < l.length
    · exact c
    · obtain rfl : j = l.length := by omega
      rw [List.take_length] at hz
      have : s.length = 1 + (encP l).length := by rw [← hs]; unfold encA; rw [List.length_append, le_length]
      omega
  have hf : l[j]? = some l[j] := List.getElem?_eq_getElem hjl
  generalize l[j] = f at hf
  obtain ⟨R, h1, h2, _⟩ := dec_at hr hs hf hz
  obtain ⟨a1, a2, a3, a4, a5, a6⟩ := right_at hr hf
  rw [encF_length] at h2
  have hD : s.drop z = byteAt f.nm.length 0 :: (f.nm ++ (byteAt f.k 0 :: byteAt f.g 0 :: R)) := by rw [h1]; unfold encF; simp [le1]
  have hget : ∀ i, s[z + i]? = (byteAt f.nm.length 0 :: (f.nm ++ (byteAt f.k 0 :: byteAt f.g 0 :: R)))[i]? := fun i => by rw [← hD, List.getElem?_drop]
  refine ⟨f, hf, ?_, by omega, ?_, fun h => ?_, fun h => ?_, ?_⟩
  · have h3 := hget 0
    rw [Nat.add_zero, List.getElem?_eq_getElem hlt] at h3
    simp at h3
    rw [h3]
    have := byteAt0 (x := f.nm.length) (by omega) (by omega)
    omega
  · have h3 : s.drop (z + 1) = f.nm ++ (byteAt f.k 0 :: byteAt f.g 0 :: R) := by
      rw [← List.drop_drop, hD]; rfl
    rw [h3, List.take_left']; rfl
  · have h3 := hget (1 + f.nm.length)
    rw [← Nat.add_assoc, List.getElem?_eq_getElem h, Nat.add_comm 1, List.getElem?_cons_succ, List.getElem?_append_right (by omega), Nat.sub_self] at h3
    simp at h3
    rw [h3]; exact byteAt0 a3 (by omega)
  · have h3 := hget (2 + f.nm.length)
    rw [← Nat.add_assoc, List.getElem?_eq_getElem h, show 2 + f.nm.length = (f.nm.length + 1) + 1 by omega, List.getElem?_cons_succ, List.getElem?_append_right (by omega), show f.nm.length + 1 - f.nm.length = 1 by omega] at h3
    simp at h3
    rw [h3]; exact byteAt0 a5 (by omega)
  · rw [encP_take hf, List.length_append, encF_length]; omega
/-- Fields are told by their bytes. -/
theorem encA_inj {l l' : List Fd} (h : rightL l = true) (h' : rightL l' = true) (he : encA l = encA l') : l = l' := by
  have key : ∀ j, j ≤ l.length → j ≤ l'.length ∧ l.take j = l'.take j := by
    intro j
    induction j with
    | zero => intro _; exact ⟨by omega, by simp⟩
    | succ j ih =>
      intro hj
      obtain ⟨h1, h2⟩ := ih (by omega)
      have hlt : 1 + (encP (l.take j)).length < (encA l).length := by
        have hf : l[j]? = some l[j] := List.getElem?_eq_getElem (by omega)
        obtain ⟨R, _, h3, _⟩ := dec_at h rfl hf (z := 1 + (encP (l.take j)).length) rfl
        rw [encF_length] at h3; omega
      obtain ⟨f, f1, f2, f3, f4, f5, f6, f7⟩ := dec_step h rfl (by omega) rfl hlt
      obtain ⟨g, g1, g2, g3, g4, g5, g6, g7⟩ := dec_step h' he.symm h1 (z := 1 + (encP (l.take j)).length) (by rw [h2]) hlt
      have en : f.nm.length = g.nm.length := by omega
      have e1 : f.nm = g.nm := by rw [← f4, ← g4, en]
      have e2 : f.k = g.k := by
        rw [← f5 (by omega), ← g5 (by omega)]
        simp only [en]
      have e3 : f.g = g.g := by
        rw [← f6 (by omega), ← g6 (by omega)]
        simp only [en]
      have e : f = g := by cases f; cases g; simp at e1 e2 e3; simp [e1, e2, e3]
      have hjl' : j < l'.length := by
        by_cases c : j < l'.length
        · exact c
        · rw [List.getElem?_eq_none (by omega)] at g1; cases g1
      refine ⟨by omega, ?_⟩
      rw [List.take_add_one, List.take_add_one, h2, f1, g1, e]
  have hl : l.length = l'.length := by
    have h1 := (key l.length (Nat.le_refl _)).1
    have h3 : (encA l)[0]? = (encA l')[0]? := by rw [he]
    unfold encA at h3
    rw [le1, le1] at h3
    simp at h3
    have h4 := byteAt0 (x := l.length) (by omega) (by have := right_len h; omega)
    have h5 := byteAt0 (x := l'.length) (by omega) (by have := right_len h'; omega)
    rw [h3] at h4
    omega
  have := (key l.length (Nat.le_refl _)).2
  rw [List.take_length, hl, List.take_length] at this
  exact this

/-! ### rows of fields of the call's own -/
def Fd.cells (f : Fd) : List Value := [.string (bs f.nm), .int .i64 f.k, .int .i64 f.g]
def cellsFd (l : List Fd) : List Value := (l.map Fd.cells).flatten
theorem cellsFd_length (l : List Fd) : (cellsFd l).length = l.length * 3 := by
  induction l with
  | nil => rfl
  | cons o os ih => have : cellsFd (o :: os) = o.cells ++ cellsFd os := rfl; rw [this, List.length_append, ih]; simp [Fd.cells]; omega
theorem cellsFd_get : ∀ (os : List Fd) (i : Nat) (h : i < os.length), ∀ j, j < 3 → (cellsFd os)[i * 3 + j]? = (os[i].cells)[j]? := by
  intro os
  induction os with
  | nil => intro i h; simp at h
  | cons x os ih =>
    intro i h j hj
    have e : cellsFd (x :: os) = x.cells ++ cellsFd os := rfl
    have hl : x.cells.length = 3 := rfl
    rw [e]
    cases i with
    | zero => rw [List.getElem?_append_left (by omega), Nat.zero_mul, Nat.zero_add]; rfl
    | succ i =>
      rw [List.getElem?_append_right (by omega), hl, show (i + 1) * 3 + j - 3 = i * 3 + j by omega]
      exact ih i (by simpa using h) j hj
def OwF (w : World) (base : Nat) (v : Value) (l : List Fd) : Prop := w.ownsRow base 40 3 v l.length (cellsFd l)
theorem OwF.nil (w : World) (base : Nat) : OwF w base (.slice none 0 0) [] := World.ownsRow_nil _ _ _ _
section
variable {w w' : World} {base : Nat} {v : Value} {l : List Fd}
theorem OwF.on (h : OwF w base v l) (hb : Below w.heap.size w w') : OwF w' base v l := by
  refine ⟨h.1, ?_⟩
  rcases h.2 with h1 | ⟨g, cap, cur, hv, hbase, hg, h3⟩
  · exact .inl h1
  · exact .inr ⟨g, cap, cur, hv, hbase, (hb.block g (row_lt hg)).trans hg, h3⟩
theorem OwF.heapEq (h : OwF w base v l) (he : w'.heap = w.heap) : OwF w' base v l := by
  refine ⟨h.1, ?_⟩
  rcases h.2 with h1 | ⟨g, cap, cur, hv, hbase, hg, h3⟩
  · exact .inl h1
  · exact .inr ⟨g, cap, cur, hv, hbase, by rw [he]; exact hg, h3⟩
theorem OwF.less {base' : Nat} (h : OwF w base v l) (hb : base' ≤ base) : OwF w base' v l := by
  refine ⟨h.1, ?_⟩
  rcases h.2 with h1 | ⟨g, cap, cur, hv, hbase, hg⟩
  · exact .inl h1
  · exact .inr ⟨g, cap, cur, hv, Nat.le_trans hb hbase, hg⟩
theorem OwF.row (h : OwF w base v l) : ∀ j, v.ownBlock = some j → base ≤ j := by
  intro j hj
  rcases h.2 with ⟨e, _⟩ | ⟨g, cap, cur, e, hbase, _⟩
  · rw [e] at hj; simp [Value.ownBlock] at hj
  · rw [e] at hj; simp [Value.ownBlock] at hj; omega
theorem OwF.rd (h : OwF w base v l) (hx : ∀ f ∈ l, I64 f.k ∧ I64 f.g ∧ f.nm.length ≤ nmMax) : ∃ A cap, v = .slice A l.length cap ∧ RdF w w.heap.size A l.length cap l := by
  rcases h.2 with ⟨rfl, hn⟩ | ⟨g, cap, cur, rfl, hbase, hg, hnc, hm, hs, hl⟩
  · have : l = [] := List.eq_nil_of_length_eq_zero hn
    subst this
    exact ⟨none, 0, rfl, RdF.nil _ _⟩
  · refine ⟨some ⟨g, 0, none⟩, cap, rfl, rfl, hnc, hm, hx, fun hn => ⟨g, 0, rfl, row_lt hg, fun i hi => ?_⟩⟩
    have t : ∀ j, j < 3 → w.cell? ⟨g, 0 + i * 3 + j, none⟩ = (l[i].cells)[j]? := fun j hj => by
      rw [row_cell hg, Nat.zero_add, ← cellsFd_get l i hi j hj, ← hl, List.getElem?_take_of_lt (by omega), Array.getElem?_toList]
    exact ⟨t 0 (by omega), t 1 (by omega), t 2 (by omega)⟩
end
theorem infoFd : (Try.prog.info? 40).map (fun i => (i.zero, i.size, i.bytes)) = some (some (.agg #[.string ⟨#[]⟩, .int .i64 0, .int .i64 0]), 3, 32) := by kernel_rfl
/-- append(v, f). -/
theorem run_appFd {w : World} {base : Nat} {v : Value} {l : List Fd} (h : OwF w base v l) (f : Fd) (hlen : l.length ≤ 1000000) (hb : base ≤ w.heap.size) (ty : TypeId) :
    ∃ v' w', (Builtin.append_ #[22, 22] ty #[v, .slice (some ⟨w.heap.size, 0, none⟩) 1 1]).run Try.prog (w.alloc (.cells #[.string (bs f.nm), .int .i64 f.k, .int .i64 f.g] 40)) = .ok v' w' ∧ OwF w' base v' (l ++ [f]) ∧ Below base (w.alloc (.cells #[.string (bs f.nm), .int .i64 f.k, .int .i64 f.g] 40)) w' := by
  have hi8 := infoFd
  have hk : Below w.heap.size w (w.alloc (.cells #[.string (bs f.nm), .int .i64 f.k, .int .i64 f.g] 40)) := B1 _ _
  cases hi : Try.prog.info? 40 with
  | none => rw [hi] at hi8; cases hi8
  | some i =>
    rw [hi] at hi8
    simp only [Option.map_some, Option.some.injEq, Prod.mk.injEq] at hi8
    obtain ⟨hz, hsz, hby⟩ := hi8
    obtain ⟨v', W', hr, ho, hg, hnil⟩ := run_append_own (P := Try.prog) (w.alloc (.cells #[.string (bs f.nm), .int .i64 f.k, .int .i64 f.g] 40)) base 22 ty 40 i (.agg #[.string ⟨#[]⟩, .int .i64 0, .int .i64 0]) 3 32 Try.underlying22 hi hz hsz hby rfl (by omega) v l.length (cellsFd l) (h.on hk) ⟨w.heap.size, 0, none⟩ 1 1 f.cells rfl (fun j u hj => by rw [add_plain, Nat.zero_add, row_cell (heap_alloc_new w _)]; match j, hj with | 0, h => exact h | 1, h => exact h | 2, h => exact h) (by intro u hu; simp [Fd.cells] at hu; rcases hu with rfl | rfl | rfl <;> rfl) (by unfold maxLen; omega) (by omega) (Nat.le_trans hb hk.size)
    refine ⟨v', W', hr, ?_, (Below.refl _ _).grown hg (Nat.le_trans hb hk.size) (fun j hj => h.row j hj)⟩
    unfold OwF
    have e : cellsFd (l ++ [f]) = cellsFd l ++ f.cells := by simp [cellsFd]
    rw [List.length_append, e]; exact ho
theorem step_appFd {w w' : World} {o : Oper} {a : Act} {K : Act → World → Prop} {Q : Exit → Act → World → Prop} {y : Nat → Option Bool} {v v' u : Value} (hgd : o.guard = none) (s x : Operand)
    (hop : o.op = .call { callee := .builtin .append, args := #[s, x], argTypes := #[22, 22] }) (hs : a.eval s = v) (hx : a.eval x = u)
    (hrun : (Builtin.append_ #[22, 22] o.type #[v, u]).run Try.prog w = .ok v' w') (hk : K (a.put o.dst v') w') :
    if Region.wanted o y = true then Oper.wp Try.prog o a w K Q else K (a.put o.dst undef) w := by
  simp only [Region.wanted, hgd, if_true]
  unfold Oper.wp execOp
  simp only [hop, resolve, invoke, builtin, Sem.run_bind, Sem.run_pure, Result.andThen_ok, List.map_toArray, List.map_cons, List.map_nil, hs, hx, hrun]
  exact hk
end Go.Proofs.Ytggfcbncjkpkgaa

namespace Go.Proofs.Ytggfcbncjkpkgaa
open Go.RowKit
set_option linter.unusedVariables false

/-- What reading bytes as fields answers. -/
def DecQ (w : World) (s : List UInt8) (e : Ending) (w' : World) : Prop := Below w.heap.size w w' ∧
  ((∃ l v, rightL l = true ∧ encA l = s ∧ e = .returned (.tuple #[v, .int .i64 0]) ∧ OwF w' w.heap.size v l) ∨ ((∀ l, rightL l = true → encA l ≠ s) ∧ e = .returned (.tuple #[.slice none 0 0, .int .i64 60])))
def small (l : List Fd) : Prop := ∀ f ∈ l, 0 ≤ f.k ∧ f.k < 256 ∧ 0 ≤ f.g ∧ f.g < 256 ∧ f.nm.length < 256
def goesOn (s : List UInt8) (ls : List Fd) (Z : Nat) : Prop := ∀ l0, rightL l0 = true → encA l0 = s → ∃ j, j ≤ l0.length ∧ ls = l0.take j ∧ Z = 1 + (encP (l0.take j)).length
theorem goes_start (s : List UInt8) : goesOn s [] 1 := fun l0 h1 h2 => ⟨0, by omega, by simp, by simp [encP]⟩
theorem goes_bad {s : List UInt8} {ls : List Fd} {Z : Nat} (h : goesOn s ls Z) (hz : Z < s.length) (hb : s.length ≤ Z + s[Z].toNat + 2) : ∀ l, rightL l = true → encA l ≠ s := fun l0 h1 h2 => by
  obtain ⟨j, hj, _, e⟩ := h l0 h1 h2
  obtain ⟨f, f1, f2, f3, _⟩ := dec_step h1 h2 hj e hz
  omega
theorem goes_next {s : List UInt8} {ls : List Fd} {Z N : Nat} (h : goesOn s ls Z) (hz : Z < s.length) (hN : N = s[Z].toNat) (hb : Z + N + 2 < s.length) :
    goesOn s (ls ++ [⟨(s.drop (Z + 1)).take N, (s[Z + 1 + N]'(by omega)).toNat, (s[Z + 2 + N]'(by omega)).toNat⟩]) (Z + 3 + N) := fun l0 h1 h2 => by
  obtain ⟨j, hj, hls, e⟩ := h l0 h1 h2
  obtain ⟨f, f1, f2, f3, f4, f5, f6, f7⟩ := dec_step h1 h2 hj e hz
  have hjl : j < l0.length := by
    by_cases c : j < l0.length
    · exact c
    · rw [List.getElem?_eq_none (by omega)] at f1; cases f1
  have hn : N = f.nm.length := by omega
  subst hn
  refine ⟨j + 1, by omega, ?_, f7⟩
  rw [List.take_add_one, f1, ← hls, f4, f5 (by omega), f6 (by omega)]
  rfl
theorem goes_end {s : List UInt8} {ls : List Fd} {Z : Nat} (h : goesOn s ls Z) (hz : s.length ≤ Z) {l0 : List Fd} (h1 : rightL l0 = true) (h2 : encA l0 = s) : ls = l0 := by
  obtain ⟨j, hj, hls, e⟩ := h l0 h1 h2
  by_cases c : j < l0.length
  · have hf : l0[j]? = some l0[j] := List.getElem?_eq_getElem c
    obtain ⟨R, _, h3, _⟩ := dec_at h1 h2 hf e
    rw [encF_length] at h3
    omega
  · rw [hls, List.take_of_length_le (by omega)]

set_option maxRecDepth 20000 in
set_option maxHeartbeats 4000000 in
theorem r6decode_any {w : World} (s : List UInt8) (hsl : s.length ≤ 100000) :
    Calls Try.prog 32 #[.string (bs s)] w (DecQ w s) := by
  have hsi : (s.length : Int) ≤ 100000 := by omega
  go_enter Try.func32, Try.ntmps32
  go_wp2_with fail
  go_loopw [4, 5] (fun v a wr => ∃ (ls : List Fd) (Z : Nat), 1 ≤ Z ∧ a = .int .i64 Z ∧ Hid (Z ≤ s.length ∨ Z = 1) ∧ Hid (OwF wr w.heap.size v ls) ∧ Hid (small ls) ∧ Hid (ls.length ≤ Z) ∧ Hid (goesOn s ls Z) ∧ Hid (Below w.heap.size w wr)) (fun _ a _ => s.length - (intOf a).toNat)
  case atStart => exact ⟨[], 1, by omega, rfl, hid (.inr rfl), hid (OwF.nil _ _), hid (fun f hf => by cases hf), hid (by simp), hid (goes_start s), B0 w⟩
  case round =>
    obtain ⟨ls, Z, hZ1, rfl, HZ, HO, HSM, HLL, HG, HB⟩ := hrel
    rename_i v
    by_cases hlt : Z < s.length
    · obtain ⟨N, hN⟩ : ∃ N, N = s[Z].toNat := ⟨_, rfl⟩
      have hN2 : N < 256 := by rw [hN]; exact s[Z].toNat_lt
      have hZi : (Z : Int) < s.length := by omega
      have hq : ((bs s)[Z]'(by simpa [ByteArray.size] using hlt)).toNat = N := by rw [bs_at hlt, hN]
      obtain ⟨Za, hZa⟩ : ∃ Za, Za = Z + N := ⟨_, rfl⟩
      have q1 : IntKind.i64.wrap ((Z : Int) + (N : Int)) = (Za : Int) := by rw [IntKind.wrap_i64]; omega
      have q2 : IntKind.i64.wrap ((Za : Int) + 2) = (Za : Int) + 2 := by rw [IntKind.wrap_i64]; omega
      by_cases hbad : s.length ≤ Z + N + 2
      · have d1 : decide ((s.length : Int) ≤ (Za : Int) + 2) = true := decide_eq_true (by omega)
        have HBAD : Hid (∀ l, rightL l = true → encA l ≠ s) := goes_bad HG.out hlt (by rw [← hN]; exact hbad)
        clear hbad hZa hN
        go_wp2_with fail
        go_ret2
        exact ⟨HB.out, .inr ⟨HBAD.out, rfl⟩⟩
      · have d1 : decide ((s.length : Int) ≤ (Za : Int) + 2) = false := decide_eq_false (by omega)
        have HNX := hid (goes_next HG.out hlt hN (by omega))
        obtain ⟨Zb, hZb⟩ : ∃ Zb, Zb = Z + 1 := ⟨_, rfl⟩
        obtain ⟨Zc, hZc⟩ : ∃ Zc, Zc = Z + 1 + N := ⟨_, rfl⟩
        obtain ⟨Zd, hZd⟩ : ∃ Zd, Zd = Z + 2 := ⟨_, rfl⟩
        obtain ⟨Ze, hZe⟩ : ∃ Ze, Ze = Z + 2 + N := ⟨_, rfl⟩
        obtain ⟨Zf, hZf⟩ : ∃ Zf, Zf = Z + 3 := ⟨_, rfl⟩
        obtain ⟨Zg, hZg⟩ : ∃ Zg, Zg = Z + 3 + N := ⟨_, rfl⟩
        have r1 : IntKind.i64.wrap ((Z : Int) + 1) = (Zb : Int) := by rw [IntKind.wrap_i64]; omega
        have r2 : IntKind.i64.wrap ((Zb : Int) + (N : Int)) = (Zc : Int) := by rw [IntKind.wrap_i64]; omega
        have r3 : IntKind.i64.wrap ((Z : Int) + 2) = (Zd : Int) := by rw [IntKind.wrap_i64]; omega
        have r4 : IntKind.i64.wrap ((Zd : Int) + (N : Int)) = (Ze : Int) := by rw [IntKind.wrap_i64]; omega
        have r5 : IntKind.i64.wrap ((Z : Int) + 3) = (Zf : Int) := by rw [IntKind.wrap_i64]; omega
        have r6 : IntKind.i64.wrap ((Zf : Int) + (N : Int)) = (Zg : Int) := by rw [IntKind.wrap_i64]; omega
        have hcl : Zc < s.length := by omega
        have hel : Ze < s.length := by omega
        obtain ⟨K1, hK1⟩ : ∃ K1, K1 = s[Zc].toNat := ⟨_, rfl⟩
        obtain ⟨K2, hK2⟩ : ∃ K2, K2 = s[Ze].toNat := ⟨_, rfl⟩
        have hK12 : K1 < 256 := by rw [hK1]; exact s[Zc].toNat_lt
        have hK22 : K2 < 256 := by rw [hK2]; exact s[Ze].toNat_lt
        have hq1 : ((bs s)[Zc]'(by simpa [ByteArray.size] using hcl)).toNat = K1 := by rw [bs_at hcl, hK1]
        have hq2 : ((bs s)[Ze]'(by simpa [ByteArray.size] using hel)).toNat = K2 := by rw [bs_at hel, hK2]
        have kw1 : IntKind.i64.wrap (K1 : Int) = (K1 : Int) := by rw [IntKind.wrap_i64]; omega
        have kw2 : IntKind.i64.wrap (K2 : Int) = (K2 : Int) := by rw [IntKind.wrap_i64]; omega
        have hbc : Zb ≤ Zc := by omega
        have hbci : (Zb : Int) ≤ (Zc : Int) := by omega
        have hcli : (Zc : Int) < s.length := by omega
        have hcli2 : (Zc : Int) ≤ s.length := by omega
        have heli : (Ze : Int) < s.length := by omega
        obtain ⟨x, hx⟩ : ∃ x, x = (s.drop (Z + 1)).take N := ⟨_, rfl⟩
        have hxe : (⟨s.toArray⟩ : ByteArray).extract Zb Zc = ⟨x.toArray⟩ := by
          rw [ext_at, hx, hZb, hZc]; congr 2; rw [List.drop_take]; congr 1; omega
        have hxl : x.length = N := by rw [hx, List.length_take, List.length_drop]; omega
        have HNX2 : Hid (goesOn s (ls ++ [⟨x, (K1 : Int), (K2 : Int)⟩]) Zg) := by
          have h1 := HNX.out
          simp only [← hZc, ← hZe, ← hZg, ← hK1, ← hK2, ← hx] at h1
          exact h1
        have HGE : Hid (Z + 3 + N = Zg ∧ Z + N + 2 < s.length) := ⟨by omega, by omega⟩
        have HXL := hid hxl
        clear hx hxl hK1 hK2 hZa hZb hZc hZd hZe hZf hZg hN hbad HNX
        go_wp2_with fail
        refine reg_beginB (w.heap.size) (by kernel_rfl) (fun w0a hh0a hx0a hHeld => ?_)
        refine reg_takeB 0 (v := ?vb0) at0 (by kernel_rfl) (by kernel_rfl) (by kernel_rfl) (by rfl) ?hyb0 hHeld ?restb0
        case hyb0 => (intro w' hSw; go_simp; try with_reducible rfl)
        try simp only [Act.put, List.setIfInBounds_toArray, List.set_cons_zero, List.set_cons_succ]
        refine reg_takeB 1 (v := ?vb1) (atS at0) (by kernel_rfl) (by kernel_rfl) (by kernel_rfl) (by rfl) ?hyb1 hHeld ?restb1
        case hyb1 => (intro w' hSw; go_simp; try with_reducible rfl)
        try simp only [Act.put, List.setIfInBounds_toArray, List.set_cons_zero, List.set_cons_succ]
        refine reg_takeB 2 (v := ?vb2) (atS (atS at0)) (by kernel_rfl) (by kernel_rfl) (by kernel_rfl) (by rfl) ?hyb2 hHeld ?restb2
        case hyb2 => (intro w' hSw; go_simp; try with_reducible rfl)
        try simp only [Act.put, List.setIfInBounds_toArray, List.set_cons_zero, List.set_cons_succ]
        refine reg_takeB 3 (v := ?vb3) (atS (atS (atS at0))) (by kernel_rfl) (by kernel_rfl) (by kernel_rfl) (by rfl) ?hyb3 hHeld ?restb3
        case hyb3 => (intro w' hSw; go_simp; try with_reducible rfl)
        try simp only [Act.put, List.setIfInBounds_toArray, List.set_cons_zero, List.set_cons_succ]
        refine reg_takeB 4 (v := ?vb4) (atS (atS (atS (atS at0)))) (by kernel_rfl) (by kernel_rfl) (by kernel_rfl) (by rfl) ?hyb4 hHeld ?restb4
        case hyb4 => (intro w' hSw; go_simp; try with_reducible rfl)
        try simp only [Act.put, List.setIfInBounds_toArray, List.set_cons_zero, List.set_cons_succ]
        refine reg_takeB 5 (v := ?vb5) (atS5 at0) (by kernel_rfl) (by kernel_rfl) (by kernel_rfl) (by rfl) ?hyb5 hHeld ?restb5
        case hyb5 => (intro w' hSw; go_simp; try with_reducible rfl)
        try simp only [Act.put, List.setIfInBounds_toArray, List.set_cons_zero, List.set_cons_succ]
        refine reg_takeB 6 (v := ?vb6) (atS5 (atS at0)) (by kernel_rfl) (by kernel_rfl) (by kernel_rfl) (by rfl) ?hyb6 hHeld ?restb6
        case hyb6 => (intro w' hSw; go_simp; try with_reducible rfl)
        try simp only [Act.put, List.setIfInBounds_toArray, List.set_cons_zero, List.set_cons_succ]
        refine reg_takeB 7 (v := ?vb7) (atS5 (atS (atS at0))) (by kernel_rfl) (by kernel_rfl) (by kernel_rfl) (by rfl) ?hyb7 hHeld ?restb7
        case hyb7 => (intro w' hSw; go_simp; try with_reducible rfl)
        try simp only [Act.put, List.setIfInBounds_toArray, List.set_cons_zero, List.set_cons_succ]
        refine reg_takeB 8 (v := ?vb8) (atS5 (atS (atS (atS at0)))) (by kernel_rfl) (by kernel_rfl) (by kernel_rfl) (by rfl) ?hyb8 hHeld ?restb8
        case hyb8 => (intro w' hSw; go_simp; try with_reducible rfl)
        try simp only [Act.put, List.setIfInBounds_toArray, List.set_cons_zero, List.set_cons_succ]
        refine reg_takeB 9 (v := ?vb9) (atS5 (atS (atS (atS (atS at0))))) (by kernel_rfl) (by kernel_rfl) (by kernel_rfl) (by rfl) ?hyb9 hHeld ?restb9
        case hyb9 => (intro w' hSw; go_simp; try with_reducible rfl)
        try simp only [Act.put, List.setIfInBounds_toArray, List.set_cons_zero, List.set_cons_succ]
        refine reg_takeB 10 (v := ?vb10) (atS5 (atS5 at0)) (by kernel_rfl) (by kernel_rfl) (by kernel_rfl) (by rfl) ?hyb10 hHeld ?restb10
        case hyb10 => (intro w' hSw; go_simp; try with_reducible rfl)
        try simp only [Act.put, List.setIfInBounds_toArray, List.set_cons_zero, List.set_cons_succ]
        refine reg_takeB 11 (v := ?vb11) (atS5 (atS5 (atS at0))) (by kernel_rfl) (by kernel_rfl) (by kernel_rfl) (by rfl) ?hyb11 hHeld ?restb11
        case hyb11 => (intro w' hSw; go_simp; try with_reducible rfl)
        try simp only [Act.put, List.setIfInBounds_toArray, List.set_cons_zero, List.set_cons_succ]
        refine reg_takeB 12 (v := ?vb12) (atS5 (atS5 (atS (atS at0)))) (by kernel_rfl) (by kernel_rfl) (by kernel_rfl) (by rfl) ?hyb12 hHeld ?restb12
        case hyb12 => (intro w' hSw; go_simp; try with_reducible rfl)
        try simp only [Act.put, List.setIfInBounds_toArray, List.set_cons_zero, List.set_cons_succ]
        refine reg_takeB 13 (v := ?vb13) (atS5 (atS5 (atS (atS (atS at0))))) (by kernel_rfl) (by kernel_rfl) (by kernel_rfl) (by rfl) ?hyb13 hHeld ?restb13
        case hyb13 => (intro w' hSw; go_simp; try with_reducible rfl)
        try simp only [Act.put, List.setIfInBounds_toArray, List.set_cons_zero, List.set_cons_succ]
        refine reg_takeB 14 (v := ?vb14) (atS5 (atS5 (atS (atS (atS (atS at0)))))) (by kernel_rfl) (by kernel_rfl) (by kernel_rfl) (by rfl) ?hyb14 hHeld ?restb14
        case hyb14 => (intro w' hSw; go_simp; try with_reducible rfl)
        try simp only [Act.put, List.setIfInBounds_toArray, List.set_cons_zero, List.set_cons_succ]
        refine reg_takeB 15 (v := ?vb15) (atS5 (atS5 (atS5 at0))) (by kernel_rfl) (by kernel_rfl) (by kernel_rfl) (by rfl) ?hyb15 hHeld ?restb15
        case hyb15 => (intro w' hSw; go_simp; try with_reducible rfl)
        try simp only [Act.put, List.setIfInBounds_toArray, List.set_cons_zero, List.set_cons_succ]
        refine reg_takeB 16 (v := ?vb16) (atS5 (atS5 (atS5 (atS at0)))) (by kernel_rfl) (by kernel_rfl) (by kernel_rfl) (by rfl) ?hyb16 hHeld ?restb16
        case hyb16 => (intro w' hSw; go_simp; try with_reducible rfl)
        try simp only [Act.put, List.setIfInBounds_toArray, List.set_cons_zero, List.set_cons_succ]
        refine reg_takeB 17 (v := ?vb17) (atS5 (atS5 (atS5 (atS (atS at0))))) (by kernel_rfl) (by kernel_rfl) (by kernel_rfl) (by rfl) ?hyb17 hHeld ?restb17
        case hyb17 => (intro w' hSw; go_simp; try with_reducible rfl)
        try simp only [Act.put, List.setIfInBounds_toArray, List.set_cons_zero, List.set_cons_succ]
        refine reg_takeB 18 (v := ?vb18) (atS5 (atS5 (atS5 (atS (atS (atS at0)))))) (by kernel_rfl) (by kernel_rfl) (by kernel_rfl) (by rfl) ?hyb18 hHeld ?restb18
        case hyb18 => (intro w' hSw; go_simp; try with_reducible rfl)
        try simp only [Act.put, List.setIfInBounds_toArray, List.set_cons_zero, List.set_cons_succ]
        refine reg_takeB 19 (v := ?vb19) (atS5 (atS5 (atS5 (atS (atS (atS (atS at0))))))) (by kernel_rfl) (by kernel_rfl) (by kernel_rfl) (by rfl) ?hyb19 hHeld ?restb19
        case hyb19 => (intro w' hSw; go_simp; try with_reducible rfl)
        try simp only [Act.put, List.setIfInBounds_toArray, List.set_cons_zero, List.set_cons_succ]
        refine reg_takeB 20 (v := ?vb20) (atS5 (atS5 (atS5 (atS5 at0)))) (by kernel_rfl) (by kernel_rfl) (by kernel_rfl) (by rfl) ?hyb20 hHeld ?restb20
        case hyb20 => (intro w' hSw; go_simp; try with_reducible rfl)
        try simp only [Act.put, List.setIfInBounds_toArray, List.set_cons_zero, List.set_cons_succ]
        refine reg_takeB 21 (v := ?vb21) (atS5 (atS5 (atS5 (atS5 (atS at0))))) (by kernel_rfl) (by kernel_rfl) (by kernel_rfl) (by rfl) ?hyb21 hHeld ?restb21
        case hyb21 => (intro w' hSw; go_simp; try with_reducible rfl)
        try simp only [Act.put, List.setIfInBounds_toArray, List.set_cons_zero, List.set_cons_succ]
        refine reg_takeB 22 (v := ?vb22) (atS5 (atS5 (atS5 (atS5 (atS (atS at0)))))) (by kernel_rfl) (by kernel_rfl) (by kernel_rfl) (by rfl) ?hyb22 hHeld ?restb22
        case hyb22 => (intro w' hSw; go_simp; try with_reducible rfl)
        try simp only [Act.put, List.setIfInBounds_toArray, List.set_cons_zero, List.set_cons_succ]
        refine reg_takeB 23 (v := ?vb23) (atS5 (atS5 (atS5 (atS5 (atS (atS (atS at0))))))) (by kernel_rfl) (by kernel_rfl) (by kernel_rfl) (by rfl) ?hyb23 hHeld ?restb23
        case hyb23 => (intro w' hSw; go_simp; try with_reducible rfl)
        try simp only [Act.put, List.setIfInBounds_toArray, List.set_cons_zero, List.set_cons_succ]
        refine wpAnyH_ready (rs := [24]) (by kernel_rfl) (by simp) ?_
        refine AllReadyH.cons (atS5 (atS5 (atS5 (atS5 (atS (atS (atS (atS at0)))))))) (fun K hK => ?_) AllReadyH.nil
        go_simp
        skip
        refine hK.out _ _ ((Below.refl _ _).alloc (HB.out.trans hx0a).size _) (fun hHeld => ?_)
        clear hK K
        try simp only [Act.put, List.setIfInBounds_toArray, List.set_cons_zero, List.set_cons_succ]
        refine reg_onB ((Below.refl _ _).alloc (HB.out.trans hx0a).size _) (fun hHeld => ?_)
        have HB1 := HB.out.trans hx0a
        obtain ⟨v', w1, hrun, hown, hbw⟩ := run_appFd (HO.out.heapEq hh0a.out) ⟨x, (K1 : Int), (K2 : Int)⟩ (by have := HLL.out; omega) HB1.size 22
        have HOW := hid hown
        have HBF : Hid (Below w.heap.size w w1) := HB1.trans (((Below.refl _ _).alloc HB1.size _).trans hbw)
        clear hown HB1
        refine wpAnyH_ready (rs := [25]) (by kernel_rfl) (by simp) ?_
        refine AllReadyH.cons (atS5 (atS5 (atS5 (atS5 (atS5 at0))))) (fun K hK => ?_) AllReadyH.nil
        refine step_appFd (by rfl) (.tmp 24) (.tmp 48) (by rfl) (by rfl) (by rfl) hrun ?_
        refine hK.out _ _ hbw (fun hHeld => ?_)
        clear hK K
        try simp only [Act.put, List.setIfInBounds_toArray, List.set_cons_zero, List.set_cons_succ]
        refine reg_onB hbw (fun hHeld => ?_)
        refine reg_takeB 26 (v := ?vb26) (atS5 (atS5 (atS5 (atS5 (atS5 (atS at0)))))) (by kernel_rfl) (by kernel_rfl) (by kernel_rfl) (by rfl) ?hyb26 hHeld ?restb26
        case hyb26 => (intro w' hSw; go_simp; try with_reducible rfl)
        try simp only [Act.put, List.setIfInBounds_toArray, List.set_cons_zero, List.set_cons_succ]
        refine wpAnyH_done (by kernel_rfl) ?_ _
        refine NoPanic.normal ?_
        clear hrun hbw
        go_wp2_with fail
        go_roundw
        case rel =>
          refine ⟨ls ++ [⟨x, (K1 : Int), (K2 : Int)⟩], Zg, by have := HGE.out; omega, rfl, hid (.inl (by have := HGE.out; omega)), HOW, hid (fun f hf => ?_), hid (by have := HGE.out; have := HLL.out; simp; omega), HNX2, HBF⟩
          rcases List.mem_append.1 hf with h | h
          · exact HSM.out f h
          · rw [List.mem_singleton] at h
            subst h
            exact ⟨by show (0 : Int) ≤ (K1 : Int); omega, by show (K1 : Int) < 256; omega, by show (0 : Int) ≤ (K2 : Int); omega, by show (K2 : Int) < 256; omega, by show x.length < 256; rw [HXL.out]; exact hN2⟩
        case measure => have := HGE.out; simp [intOf]; omega
    · have d0 : decide ((Z : Int) < (s.length : Int)) = false := decide_eq_false (by omega)
      obtain ⟨A1, c1, rfl, hrd⟩ := HO.out.rd (fun f hf => by
        have := HSM.out f hf
        exact ⟨i64_iff.2 (by omega), i64_iff.2 (by omega), by unfold nmMax; omega⟩)
      have HRD := hid hrd
      have HSH : Hid (short ls) := fun f hf => by have := HSM.out f hf; omega
      have HEND : Hid (∀ l0, rightL l0 = true → encA l0 = s → ls = l0) := fun l0 h1 h2 => goes_end HG.out (by omega) h1 h2
      clear hrd
      go_wp2_with fail
      refine (r6encode_any HRD.out HSH.out).mono ?_
      rintro e w1 ⟨rfl, hb1⟩
      have HB1 := hid (Bt HB.out hb1); have HO1 := hid (HO.out.on hb1)
      clear hb1
      cases hr : rightL ls with
      | false =>
        have e6 : encE6 ls = ([], 60) := by unfold encE6; rw [hr]; rfl
        have HBAD : Hid (∀ l, rightL l = true → encA l ≠ s) := fun l h1 h2 => by rw [HEND.out l h1 h2] at hr; rw [h1] at hr; cases hr
        rw [e6]
        clear e6 hr
        go_wp2_with fail
        go_ret2
        exact ⟨HB1.out, .inr ⟨HBAD.out, rfl⟩⟩
      | true =>
        have e6 : encE6 ls = (encA ls, 0) := by unfold encE6; rw [hr]; rfl
        rw [e6]
        have HR := hid hr
        clear e6 hr
        by_cases he : encA ls = s
        · have t1 : (encA ls == s) = true := by simpa using he
          have t2 : (encA ls != s) = false := by rw [he]; simp
          have t3 : decide (encA ls = s) = true := by simpa using he
          have HE := hid he
          clear he
          go_wp2_with fail
          go_ret2
          exact ⟨HB1.out, .inl ⟨ls, _, HR.out, HE.out, rfl, HO1.out⟩⟩
        · have t1 : (encA ls == s) = false := by rw [beq_eq_false_iff_ne]; exact he
          have t2 : (encA ls != s) = true := by simpa using he
          have t3 : decide (encA ls = s) = false := by simpa using he
          have HBAD : Hid (∀ l, rightL l = true → encA l ≠ s) := fun l h1 h2 => he (by rw [HEND.out l h1 h2]; exact h2)
          clear he
          go_wp2_with fail
          go_ret2
          exact ⟨HB1.out, .inr ⟨HBAD.out, rfl⟩⟩
end Go.Proofs.Ytggfcbncjkpkgaa
