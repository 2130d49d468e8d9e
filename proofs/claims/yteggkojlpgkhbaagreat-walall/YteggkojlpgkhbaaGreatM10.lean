/-
  Contracts of the document's own answers for layer 2: xor, Low, More, Seal, Open.
  The document's words of a device in memory: a slice of them is read, made longer, and written into.
  The document's answers for layer 3: New, Bytes, Loose, Inside, has; and pmem.Of.
-/
import Derived.Test.YteggkojlpgkhbaaGreatM6
import Derived.Test.YteggkojlpgkhbaaGreatM9
import Derived.Test.YteggkojlpgkhbaaGreatM4

namespace Go.Proofs.YteggkojlpgkhbaaGreat
open Go.RowKit
set_option linter.unusedVariables false

/-- The k lowest bits of two numbers, combined. -/
theorem xor_mod_succ (a b k : Nat) : (a ^^^ b) % 2 ^ (k + 1) = (a ^^^ b) % 2 ^ k + 2 ^ k * ((a / 2 ^ k + b / 2 ^ k) % 2) := by
  have h1 : (a ^^^ b) / 2 ^ k % 2 = (a / 2 ^ k + b / 2 ^ k) % 2 := by
    have h2 : ((a ^^^ b) / 2 ^ k) = (a / 2 ^ k) ^^^ (b / 2 ^ k) := by
      have := Nat.shiftRight_xor_distrib (a := a) (b := b) (i := k)
      simpa [Nat.shiftRight_eq_div_pow] using this
    rw [h2]
    generalize a / 2 ^ k = x
    generalize b / 2 ^ k = y
    have := Nat.xor_mod_two_pow (a := x) (b := y) (n := 1)
    simp only [Nat.pow_one] at this
    rw [this]
    have hx : x % 2 = 0 ∨ x % 2 = 1 := by omega
    have hy : y % 2 = 0 ∨ y % 2 = 1 := by omega
    rcases hx with hx | hx <;> rcases hy with hy | hy <;> rw [hx, hy] <;> simp <;> omega
  rw [Nat.pow_succ, Nat.mod_mul, h1]

set_option maxHeartbeats 1000000 in
theorem rxor_any (a b : Nat) (w : World) (ha : a < 65536) (hb : b < 65536) :
    Calls Tryz.prog 80 #[.int .i64 a, .int .i64 b] w fun e w' => e = .returned (.int .i64 ((a ^^^ b : Nat) : Int)) ∧ w = w' := by
  go_enter Tryz.func80, Tryz.ntmps80
  go_wp2
  go_loop [0, 1, 5, 6, 7] (fun va vb out bit i => ∃ k p q x y : Nat, k ≤ 16 ∧ i = .int .i64 k ∧ Hid (p = a / 2 ^ k) ∧ Hid (q = b / 2 ^ k) ∧ Hid (x = (a ^^^ b) % 2 ^ k) ∧ Hid (y = 2 ^ k) ∧ va = .int .i64 p ∧ vb = .int .i64 q ∧ out = .int .i64 x ∧ bit = .int .i64 y) (fun _ _ _ _ i => 16 - (intOf i).toNat)
  case atStart => exact ⟨0, a, b, 0, 1, by omega, rfl, show _ = _ by simp, show _ = _ by simp, show _ = _ by simp [Nat.mod_one], show _ = _ by simp, rfl, rfl, rfl, rfl⟩
  case round =>
    obtain ⟨k, p, q, x, y, hk, rfl, HP, HQ, HX, HY, rfl, rfl, rfl, rfl⟩ := hrel
    have hp : p < 65536 := by have := HP.out; have := Nat.div_le_self a (2 ^ k); omega
    have hq : q < 65536 := by have := HQ.out; have := Nat.div_le_self b (2 ^ k); omega
    have hy : y ≤ 65536 := by
      have := HY.out; have h2 := Nat.pow_le_pow_right (show 0 < 2 by omega) hk; omega
    have hx : x < 65536 := by
      have h1 := HX.out; have h2 := Nat.mod_le (a ^^^ b) (2 ^ k)
      have h3 : a ^^^ b < 2 ^ 16 := Nat.xor_lt_two_pow (by omega) (by omega)
      omega
    by_cases hlt : k < 16
    · have HP1 : Hid (p / 2 = a / 2 ^ (k + 1)) := show _ = _ by rw [HP.out, Nat.pow_succ, Nat.div_div_eq_div_mul]
      have HQ1 : Hid (q / 2 = b / 2 ^ (k + 1)) := show _ = _ by rw [HQ.out, Nat.pow_succ, Nat.div_div_eq_div_mul]
      have HY1 : Hid (y * 2 = 2 ^ (k + 1)) := show _ = _ by rw [HY.out, Nat.pow_succ]
      have HX1 : Hid ((a ^^^ b) % 2 ^ (k + 1) = x + y * ((p + q) % 2)) := show _ = _ by rw [xor_mod_succ, ← HX.out, ← HP.out, ← HQ.out, ← HY.out]
      by_cases hpq : p % 2 = q % 2
      · have h1 : ((p : Int) % 2 != (q : Int) % 2) = false := by simp; omega
        have HZ : Hid (x = (a ^^^ b) % 2 ^ (k + 1)) := show _ = _ by rw [HX1.out, show (p + q) % 2 = 0 by omega]; simp
        have HPQ := hid hpq; clear hpq
        go_wp2
        go_round
        case rel => exact ⟨k + 1, p / 2, q / 2, x, y * 2, by omega, by go_num, HP1, HQ1, HZ, HY1, by go_num, by go_num, rfl, by go_num⟩
        case measure => simp [intOf]; omega
      · have h1 : ((p : Int) % 2 != (q : Int) % 2) = true := by simp; omega
        have HZ : Hid (x + y = (a ^^^ b) % 2 ^ (k + 1)) := show _ = _ by rw [HX1.out, show (p + q) % 2 = 1 by omega]; simp
        have HPQ := hid hpq; clear hpq
        go_wp2
        go_round
        case rel => exact ⟨k + 1, p / 2, q / 2, x + y, y * 2, by omega, by go_num, HP1, HQ1, HZ, HY1, by go_num, by go_num, by go_num, by go_num⟩
        case measure => simp [intOf]; omega
    · obtain rfl : k = 16 := by omega
      have HZ : Hid (x = a ^^^ b) := show _ = _ by
        rw [HX.out]; exact Nat.mod_eq_of_lt (Nat.xor_lt_two_pow (by omega) (by omega))
      go_wp2
      go_ret
      exact ⟨by rw [← HZ.out]; rfl, rfl⟩

theorem rxor_int (a b : Int) (w : World) (ha0 : 0 ≤ a) (ha : a < 65536) (hb0 : 0 ≤ b) (hb : b < 65536) :
    Calls Tryz.prog 80 #[.int .i64 a, .int .i64 b] w fun e w' => e = .returned (.int .i64 ((a.toNat ^^^ b.toNat : Nat) : Int)) ∧ w = w' := by
  obtain ⟨a, rfl⟩ := Int.eq_ofNat_of_zero_le ha0
  obtain ⟨b, rfl⟩ := Int.eq_ofNat_of_zero_le hb0
  exact rxor_any a b w (by omega) (by omega)

set_option maxHeartbeats 1000000 in
theorem rlow_any (n : Int) (w : World) :
    Calls Tryz.prog 79 #[.int .i64 n] w fun e w' => e = .returned (.int .i64 (lowB n).toNat) ∧ w = w' := by
  have H := hid (lowB_toNat n)
  by_cases h0 : 0 ≤ n
  · go_enter Tryz.func79, Tryz.ntmps79
    go_wp2
    go_ret
    exact ⟨ret_int H.out.symm, rfl⟩
  · obtain ⟨r, hr⟩ : ∃ r, n.tmod 65536 = r := ⟨_, rfl⟩
    have hr2 : r = -((-n) % 65536) := by
      rw [← hr, ← Int.tmod_eq_emod_of_nonneg (by omega : 0 ≤ -n), Int.neg_tmod, Int.neg_neg]
    have h1 : -65536 < r := by omega
    have h2 : r ≤ 0 := by omega
    by_cases hz : r = 0
    · have HE : Hid (((lowB n).toNat : Int) = 0) := show _ = _ by rw [H.out]; omega
      rw [hz] at hr
      clear hz hr2 h1 h2
      go_enter Tryz.func79, Tryz.ntmps79
      go_wp2
      go_ret
      exact ⟨ret_int HE.out.symm, rfl⟩
    · have HE : Hid (((lowB n).toNat : Int) = r + 65536) := show _ = _ by rw [H.out]; omega
      have h3 : r < 0 := by omega
      clear hz hr2 h2
      go_enter Tryz.func79, Tryz.ntmps79
      go_wp2
      go_ret
      exact ⟨ret_int HE.out.symm, rfl⟩

theorem sh_hi' (x : BitVec 16) (h : 32768 ≤ x.toNat) : ((x.toNat * 2 - 65536) ^^^ 4129) = (shB x).toNat := by
  have hx := x.isLt
  have e : x.toNat * 2 - 65536 = x.toNat * 2 % 65536 := by omega
  rw [e]
  unfold shB
  rw [msb_lt]
  simp [h, Nat.shiftLeft_eq]

set_option maxHeartbeats 1000000 in
theorem rmore_any (s : ByteArray) (l : List UInt8) (n : Int) (w : World) (hs : s = ⟨l.toArray⟩) (hm : l.length ≤ 1000000) :
    Calls Tryz.prog 63 #[.int .i64 n, .string s] w fun e w' => e = .returned (.int .i64 (crcB (lowB n) l).toNat) ∧ w = w' := by
  subst hs
  go_enter Tryz.func63, Tryz.ntmps63
  go_wp2_with fail
  refine (rlow_any n _).mono ?_
  rintro e w1 ⟨rfl, rfl⟩
  obtain ⟨x, hx⟩ : ∃ x, x = lowB n := ⟨_, rfl⟩
  rw [← hx]
  have HXN := hid hx
  clear hx
  obtain ⟨x0, HX0⟩ : ∃ x0 : Int, Hid (x0 = x.toNat) := ⟨_, rfl⟩
  rw [← HX0.out]
  go_wp2_with fail
  go_loop [5, 6] (fun v i => ∃ (k : Nat) (m : Int), k ≤ l.length ∧ 0 ≤ m ∧ m < 65536 ∧ i = .int .i64 k ∧ Hid (m = (crcB x (l.take k)).toNat) ∧ v = .int .i64 m) (fun _ i => l.length - (intOf i).toNat)
  case atStart => exact ⟨0, x0, by omega, by have := HX0.out; omega, by have := HX0.out; have := x.isLt; omega, rfl, HX0, rfl⟩
  case round =>
    obtain ⟨k, m, hk, hm1, hm0, rfl, HM, rfl⟩ := hrel
    by_cases hlt : k < l.length
    · have HST : Hid (crcB x (l.take (k + 1)) = shN 8 (crcB x (l.take k) ^^^ byB l[k])) := by
        show _ = _
        rw [List.take_succ_eq_append_getElem (by omega), crcB_snoc]; rfl
      obtain ⟨c, hc⟩ : ∃ c, l[k] = c := ⟨_, rfl⟩
      rw [hc] at HST
      have hc0 := c.toNat_lt
      have HXB : Hid (m.toNat ^^^ ((c.toNat : Int) * 256).toNat = (crcB x (l.take k) ^^^ byB c).toNat) := show _ = _ by
        rw [BitVec.toNat_xor, byB_toNat, HM.out, Int.toNat_natCast, show ((c.toNat : Int) * 256).toNat = c.toNat * 256 by omega]
      have hck : ∀ h, (ByteArray.mk l.toArray)[k]'h = c := fun h => hc
      have HC := hid hc
      clear hc
      go_wp2_with fail
      refine (rxor_int _ _ _ hm1 hm0 (by omega) (by omega)).mono ?_
      rintro e w2 ⟨rfl, rfl⟩
      rw [HXB.out]
      obtain ⟨z, HZ⟩ : ∃ z, Hid (z = crcB x (l.take k) ^^^ byB c) := ⟨_, rfl⟩
      rw [← HZ.out] at HST ⊢
      obtain ⟨z0, HZ0⟩ : ∃ z0 : Int, Hid (z0 = z.toNat) := ⟨_, rfl⟩
      rw [← HZ0.out]
      clear hck
      go_wp2_with fail
      go_loop [5, 7] (fun v i => ∃ (j : Nat) (p : Int), j ≤ 8 ∧ 0 ≤ p ∧ p < 65536 ∧ i = .int .i64 j ∧ Hid (p = (shN j z).toNat) ∧ v = .int .i64 p) (fun _ i => 8 - (intOf i).toNat)
      case atStart => exact ⟨0, z0, by omega, by have := HZ0.out; omega, by have := HZ0.out; have := z.isLt; omega, rfl, HZ0, rfl⟩
      case round =>
        obtain ⟨j, p, hj, hp1, hp0, rfl, HP, rfl⟩ := hrel
        by_cases hj8 : j < 8
        · have HN : Hid (shN (j + 1) z = shB (shN j z)) := rfl
          by_cases hhi : 32768 ≤ p
          · have HS : Hid ((p * 2 - 65536).toNat ^^^ (4129 : Int).toNat = (shN (j + 1) z).toNat) := show _ = _ by
              have h1 := HP.out
              rw [HN.out, ← sh_hi' (shN j z) (by omega), show (p * 2 - 65536).toNat = (shN j z).toNat * 2 - 65536 by omega]; rfl
            go_wp2_with fail
            refine (rxor_int _ _ _ (by omega) (by omega) (by omega) (by omega)).mono ?_
            rintro e w2 ⟨rfl, rfl⟩
            rw [HS.out]
            obtain ⟨r, HR⟩ : ∃ r : Int, Hid (r = (shN (j + 1) z).toNat) := ⟨_, rfl⟩
            rw [← HR.out]
            go_wp2_with fail
            go_round
            case rel => exact ⟨j + 1, r, by omega, by have := HR.out; omega, by have := HR.out; have := (shN (j + 1) z).isLt; omega, by go_num, HR, rfl⟩
            case measure => simp [intOf]; omega
          · have HS : Hid (p * 2 = (shN (j + 1) z).toNat) := show _ = _ by
              have h1 := HP.out
              have := sh_lo (shN j z) (by omega)
              rw [HN.out]; omega
            go_wp2_with fail
            go_round
            case rel => exact ⟨j + 1, p * 2, by omega, by omega, by omega, by go_num, HS, rfl⟩
            case measure => simp [intOf]; omega
        · obtain rfl : j = 8 := by omega
          rw [← HST.out] at HP
          go_wp2_with fail
          go_round
          case rel => exact ⟨k + 1, p, by omega, hp1, hp0, by go_num, HP, rfl⟩
          case measure => simp [intOf]; omega
    · obtain rfl : k = l.length := by omega
      have HT : Hid (l.take l.length = l) := show _ = _ from List.take_length
      rw [HT.out] at HM
      go_wp2_with fail
      go_ret
      exact ⟨by rw [← HXN.out, ← HM.out]; rfl, rfl⟩

/-- What the document's Seal answers. -/
theorem rput_sum (l : List UInt8) : rputL ((crcB 0#16 l).toNat : Int) 2 = sumL l := by
  unfold rputL sumL; rw [sum_fits]; rfl

end Go.Proofs.YteggkojlpgkhbaaGreat

namespace Go.Proofs.YteggkojlpgkhbaaGreat
open Go.RowKit Go.Maps Go.Shelf
set_option linter.unusedVariables false

/-- A word as the document has it. -/
structure Wd where
  seen : List UInt8
  safe : List UInt8
  loose : Bool
  fl : Bool
def str (l : List UInt8) : Value := .string ⟨l.toArray⟩
def Wd.cells (x : Wd) : List Value := [str x.seen, str x.safe, .bool x.loose, .bool x.fl]
def cellsW (l : List Wd) : List Value := (l.map Wd.cells).flatten
theorem cellsW_length (l : List Wd) : (cellsW l).length = l.length * 4 := by
  induction l with
  | nil => rfl
  | cons x l ih => simp [cellsW, Wd.cells] at ih ⊢; omega
theorem cellsW_get : ∀ (l : List Wd) (i : Nat) (h : i < l.length) (j : Nat), j < 4 → (cellsW l)[i * 4 + j]? = l[i].cells[j]? := by
  intro l
  induction l with
  | nil => intro i h; simp at h
  | cons x l ih =>
    intro i h j hj
    cases i with
    | zero =>
      have : cellsW (x :: l) = x.cells ++ cellsW l := by simp [cellsW]
      rw [this, List.getElem?_append_left (by simp [Wd.cells]; omega)]; simp
    | succ i =>
      have := ih i (by simpa using h) j hj
      have e : cellsW (x :: l) = x.cells ++ cellsW l := by simp [cellsW]
      rw [e, List.getElem?_append_right (by simp [Wd.cells]; omega), show (i + 1) * 4 + j - x.cells.length = i * 4 + j by simp [Wd.cells]; omega, this]
      simp
theorem cellsW_ext {l : List Wd} {cs : List Value} (hl : cs.length = l.length * 4) (h : ∀ (i : Nat) (hi : i < l.length) (j : Nat), j < 4 → cs[i * 4 + j]? = l[i].cells[j]?) : cs = cellsW l := by
  refine List.ext_getElem? fun k => ?_
  by_cases hk : k < l.length * 4
  · have := h (k / 4) (by omega) (k % 4) (by omega)
    rw [show k / 4 * 4 + k % 4 = k by omega] at this
    have h2 := cellsW_get l (k / 4) (by omega) (k % 4) (by omega)
    rw [show k / 4 * 4 + k % 4 = k by omega] at h2
    rw [this, h2]
  · rw [List.getElem?_eq_none (by omega), List.getElem?_eq_none (by rw [cellsW_length]; omega)]

def WdC (w : World) (b off : Nat) (x : Wd) : Prop :=
  w.cell? ⟨b, off, none⟩ = some (str x.seen) ∧ w.cell? ⟨b, off + 1, none⟩ = some (str x.safe) ∧ w.cell? ⟨b, off + 2, none⟩ = some (.bool x.loose) ∧ w.cell? ⟨b, off + 3, none⟩ = some (.bool x.fl)
/-- A slice of words. -/
def RdW (w : World) (B : Nat) (A : Option Addr) (n cap : Nat) (l : List Wd) : Prop :=
  l.length = n ∧ n ≤ cap ∧ cap ≤ maxLen ∧ (A = none → cap = 0) ∧ (0 < n → ∃ b off, A = some ⟨b, off, none⟩ ∧ b < B ∧ ∀ i (h : i < l.length), WdC w b (off + i * 4) l[i])
theorem WdC.below {w w' : World} {B b off : Nat} {x : Wd} (h : WdC w b off x) (hb : Below B w w') (hlt : b < B) : WdC w' b off x :=
  ⟨(hb.cell (p := ⟨b, off, none⟩) hlt).trans h.1, (hb.cell (p := ⟨b, off + 1, none⟩) hlt).trans h.2.1, (hb.cell (p := ⟨b, off + 2, none⟩) hlt).trans h.2.2.1, (hb.cell (p := ⟨b, off + 3, none⟩) hlt).trans h.2.2.2⟩
section
variable {w w' : World} {B B' n cap : Nat} {A : Option Addr} {l : List Wd}
theorem RdW.below (h : RdW w B A n cap l) (hb : Below B w w') : RdW w' B A n cap l :=
  ⟨h.1, h.2.1, h.2.2.1, h.2.2.2.1, fun hn => by
    obtain ⟨b, off, e, hlt, hc⟩ := h.2.2.2.2 hn
    exact ⟨b, off, e, hlt, fun i hi => (hc i hi).below hb hlt⟩⟩
theorem RdW.more (h : RdW w B A n cap l) (hB : B ≤ B') : RdW w B' A n cap l :=
  ⟨h.1, h.2.1, h.2.2.1, h.2.2.2.1, fun hn => by
    obtain ⟨b, off, e, hlt, hc⟩ := h.2.2.2.2 hn
    exact ⟨b, off, e, by omega, hc⟩⟩
theorem RdW.on (h : RdW w w.heap.size A n cap l) (hb : Below w.heap.size w w') : RdW w' w'.heap.size A n cap l := (h.below hb).more hb.size
end

def OwW (w : World) (base : Nat) (v : Value) (l : List Wd) : Prop := w.ownsRow base 102 4 v l.length (cellsW l)
theorem OwW.nil (w : World) (base : Nat) : OwW w base (.slice none 0 0) [] := World.ownsRow_nil _ _ _ _
section
variable {w w' : World} {base : Nat} {v : Value} {l : List Wd}
theorem OwW.on (h : OwW w base v l) (hb : Below w.heap.size w w') : OwW w' base v l := by
  refine ⟨h.1, ?_⟩
  rcases h.2 with h1 | ⟨g, cap, cur, hv, hbase, hg, h3⟩
  · exact .inl h1
  · exact .inr ⟨g, cap, cur, hv, hbase, (hb.block g (row_lt hg)).trans hg, h3⟩
theorem OwW.rd (h : OwW w base v l) : ∃ A cap, v = .slice A l.length cap ∧ RdW w w.heap.size A l.length cap l := by
  rcases h.2 with ⟨h1, h2⟩ | ⟨g, cap, cur, hv, hbase, hg, h3, h4, h5, h6⟩
  · exact ⟨none, 0, by rw [h1, h2], rfl, by omega, by simp [maxLen], fun _ => rfl, fun h => by omega⟩
  · refine ⟨some ⟨g, 0, none⟩, cap, hv, rfl, h3, h4, (fun h => by cases h), fun _ => ⟨g, 0, rfl, row_lt hg, fun i hi => ?_⟩⟩
    have t : ∀ j : Nat, j < 4 → w.cell? ⟨g, i * 4 + j, none⟩ = l[i].cells[j]? := fun j hj => by
      rw [row_cell hg, ← cellsW_get l i hi j hj, ← h6, List.getElem?_take_of_lt (by omega), Array.getElem?_toList]
    unfold WdC
    rw [Nat.zero_add]
    exact ⟨t 0 (by omega), t 1 (by omega), t 2 (by omega), t 3 (by omega)⟩
theorem OwW.row (h : OwW w base v l) : ∀ j, v.ownBlock = some j → base ≤ j := by
  intro j hj
  rcases h.2 with ⟨e, _⟩ | ⟨g, cap, cur, e, hbase, _⟩
  · rw [e] at hj; simp [Value.ownBlock] at hj
  · rw [e] at hj; simp [Value.ownBlock] at hj; omega
end
theorem infoW : (Tryz.prog.info? 102).map (fun i => (i.zero, i.size, i.bytes)) = some (some (.agg #[.string ⟨#[]⟩, .string ⟨#[]⟩, .bool false, .bool false]), 4, 40) := by kernel_rfl
theorem cellsW_one : ∀ (l : List Wd), ∀ u ∈ cellsW l, u.oneCell' = true := by
  intro l u hu
  unfold cellsW at hu
  rw [List.mem_flatten] at hu
  obtain ⟨k, hk, hu⟩ := hu
  obtain ⟨x, _, rfl⟩ := List.mem_map.1 hk
  simp [Wd.cells] at hu
  rcases hu with rfl | rfl | rfl | rfl <;> rfl
/-- append(v, l...), v of the call's own. -/
theorem run_appW {w : World} {base : Nat} {v : Value} {xs : List Wd} (ho : OwW w base v xs) {A : Option Addr} {n cap : Nat} {l : List Wd} (h : RdW w w.heap.size A n cap l) (hb : base ≤ w.heap.size) (hlen : xs.length + n ≤ 1000000) (ty : TypeId) :
    ∃ v' w', (Builtin.append_ #[30, 30] ty #[v, .slice A n cap]).run Tryz.prog w = .ok v' w' ∧ OwW w' base v' (xs ++ l) ∧ w.grownBy w' v.ownBlock := by
  have hl := h.1
  have hi8 := infoW
  cases hi : Tryz.prog.info? 102 with
  | none => rw [hi] at hi8; cases hi8
  | some i =>
    rw [hi] at hi8
    simp only [Option.map_some, Option.some.injEq, Prod.mk.injEq] at hi8
    obtain ⟨hz, hs, hby⟩ := hi8
    rcases A with _ | ad
    · have h0 := h.2.2.2.1 rfl
      have hn0 : n = 0 := by have := h.2.1; omega
      subst hn0; subst h0
      have : l = [] := List.eq_nil_of_length_eq_zero hl
      subst this
      refine ⟨v, w, ?_, by simpa using ho, grown_refl _ _⟩
      rcases ho.2 with ⟨rfl, _⟩ | ⟨g, c, cur, rfl, _, _, hnc, _⟩
      · simp [Builtin.append_, run_underlying Tryz.underlying30, sizeOf, typeInfo, hi, Builtin.lenOf, Builtin.firstCells]
      · simp [Builtin.append_, run_underlying Tryz.underlying30, sizeOf, typeInfo, hi, Builtin.lenOf, Builtin.firstCells, hnc, storeCells]
    · have hcells : ∀ j u, (cellsW l)[j]? = some u → w.cell? (ad.add j) = some u := fun j u hj => by
        have hjl : j < l.length * 4 := by
          by_cases c : j < l.length * 4
          · exact c
          · rw [List.getElem?_eq_none (by rw [cellsW_length]; omega)] at hj; cases hj
        obtain ⟨b, off, e, hlt, hc⟩ := h.2.2.2.2 (by omega)
        cases e
        rw [add_plain]
        have k := hc (j / 4) (by omega)
        have h2 := cellsW_get l (j / 4) (by omega) (j % 4) (by omega)
        rw [show j / 4 * 4 + j % 4 = j by omega, hj] at h2
        unfold WdC at k
        rcases (show j % 4 = 0 ∨ j % 4 = 1 ∨ j % 4 = 2 ∨ j % 4 = 3 by omega) with e | e | e | e
        · rw [e] at h2; rw [show off + j = off + j / 4 * 4 by omega, k.1]; exact h2.symm
        · rw [e] at h2; rw [show off + j = off + j / 4 * 4 + 1 by omega, k.2.1]; exact h2.symm
        · rw [e] at h2; rw [show off + j = off + j / 4 * 4 + 2 by omega, k.2.2.1]; exact h2.symm
        · rw [e] at h2; rw [show off + j = off + j / 4 * 4 + 3 by omega, k.2.2.2]; exact h2.symm
      obtain ⟨v', w', hr, how, hg, hnil⟩ := run_append_own (P := Tryz.prog) w base 30 ty 102 i (.agg #[.string ⟨#[]⟩, .string ⟨#[]⟩, .bool false, .bool false]) 4 40 Tryz.underlying30 hi hz hs hby rfl (by omega) v xs.length (cellsW xs) ho ad n cap (cellsW l) (by rw [cellsW_length, hl]) hcells (cellsW_one l) (by unfold maxLen; omega) (by omega) hb
      refine ⟨v', w', hr, ?_, hg⟩
      have e : (xs ++ l).length = xs.length + n := by simp [hl]
      have e2 : cellsW (xs ++ l) = cellsW xs ++ cellsW l := by simp [cellsW]
      unfold OwW; rw [e, e2]; exact how
theorem wpList_appW {w : World} {ops : Array Oper} {rest : List Oper} {o : Oper} {a : Act} {Q : Exit → Act → World → Prop} (hgd : o.guard = none) (s x : Operand)
    (hop : o.op = .call { callee := .builtin .append, args := #[s, x], argTypes := #[30, 30] })
    {base : Nat} {v : Value} {xs : List Wd} (hs : a.eval s = v) (ho : OwW w base v xs) {A : Option Addr} {n cap : Nat} {l : List Wd} (hx : a.eval x = .slice A n cap) (h : RdW w w.heap.size A n cap l) (hb : base ≤ w.heap.size) (hlen : xs.length + n ≤ 1000000)
    (hk : ∀ v' w', OwW w' base v' (xs ++ l) → w.grownBy w' v.ownBlock → wpList Tryz.prog ops Q rest (a.put o.dst v') w') : wpList Tryz.prog ops Q (o :: rest) a w := by
  refine wpList_plain hgd fun K hK => ?_
  obtain ⟨v', w', hrun, h2, h3⟩ := run_appW ho h hb hlen o.type
  unfold Oper.wp execOp
  simp only [hop, resolve, invoke, builtin, Sem.run_bind, Sem.run_pure, Result.andThen_ok, List.map_toArray, List.map_cons, List.map_nil, hs, hx, hrun]
  exact hK _ _ (hk v' w' h2 h3)
theorem own_emptyW (w : World) : OwW (w.alloc (.cells #[] 102)) w.heap.size (.slice (some ⟨w.heap.size, 0, none⟩) 0 0) [] :=
  ⟨rfl, .inr ⟨w.heap.size, 0, #[], rfl, Nat.le_refl _, heap_alloc_new w _, Nat.le_refl _, by simp [maxLen], by simp, rfl⟩⟩
/-- One word of a row is another one. -/
theorem OwW.set {w : World} {base g n cap : Nat} {l : List Wd} (h : OwW w base (.slice (some ⟨g, 0, none⟩) n cap) l) {i : Nat} (hi : i < l.length) (x : Wd) :
    OwW ((((w.setCell ⟨g, i * 4, none⟩ (str x.seen)).setCell ⟨g, i * 4 + 1, none⟩ (str x.safe)).setCell ⟨g, i * 4 + 2, none⟩ (.bool x.loose)).setCell ⟨g, i * 4 + 3, none⟩ (.bool x.fl)) base (.slice (some ⟨g, 0, none⟩) n cap) (l.set i x) := by
  have hn : n = l.length := by
    rcases h.2 with ⟨e, _⟩ | ⟨g', cap', cur, e, _⟩
    · cases e
    · cases e; rfl
  subst hn
  rcases h.2 with ⟨e, _⟩ | ⟨g', cap', cur, e, hbase, hg, h3, h4, h5, h6⟩
  · cases e
  · cases e
    have hr := row_set (row_set (row_set (row_set hg (i * 4) (str x.seen)) (i * 4 + 1) (str x.safe)) (i * 4 + 2) (.bool x.loose)) (i * 4 + 3) (.bool x.fl)
    refine ⟨by rw [cellsW_length], .inr ⟨g, cap, _, by rw [List.length_set], hbase, hr, by rw [List.length_set]; exact h3, h4, by simpa using h5, ?_⟩⟩
    rw [List.length_set]
    have hcl : cur.toList.length = cur.size := by simp
    refine cellsW_ext (by rw [List.length_take, List.length_set]; simp; have := h3; omega) fun k hk j hj => ?_
    rw [List.length_set] at hk
    rw [List.getElem?_take_of_lt (by omega)]
    have h7 : ∀ m, m < l.length * 4 → cur.toList[m]? = (cellsW l)[m]? := fun m hm => by rw [← h6, List.getElem?_take_of_lt hm]
    simp only [Array.toList_setIfInBounds, List.getElem?_set, List.length_set, hcl]
    have hcs : l.length * 4 ≤ cur.size := by omega
    by_cases e : i = k
    · subst e
      have hx : (l.set i x)[i]'(by rw [List.length_set]; exact hi) = x := by simp
      rw [hx]
      rcases (show j = 0 ∨ j = 1 ∨ j = 2 ∨ j = 3 by omega) with rfl | rfl | rfl | rfl
      · rw [if_neg (by omega), if_neg (by omega), if_neg (by omega), if_pos (by omega), if_pos (by omega)]; rfl
      · rw [if_neg (by omega), if_neg (by omega), if_pos (by omega), if_pos (by omega)]; rfl
      · rw [if_neg (by omega), if_pos (by omega), if_pos (by omega)]; rfl
      · rw [if_pos (by omega), if_pos (by omega)]; rfl
    · have hx : (l.set i x)[k]'(by rw [List.length_set]; exact hk) = l[k] := by simp [e]
      rw [hx, if_neg (by omega), if_neg (by omega), if_neg (by omega), if_neg (by omega), h7 _ (by omega), cellsW_get l k hk j hj]
end Go.Proofs.YteggkojlpgkhbaaGreat

namespace Go.Proofs.YteggkojlpgkhbaaGreat
open Go.RowKit Go.Maps Go.Shelf
set_option linter.unusedVariables false

/-- All words have 8 bytes. -/
def ok8 (l : List Wd) : Prop := ∀ x ∈ l, x.seen.length = 8
def seenL (l : List Wd) : List UInt8 := (l.map Wd.seen).flatten
theorem seenL_length : ∀ {l : List Wd}, ok8 l → (seenL l).length = l.length * 8 := by
  intro l
  induction l with
  | nil => intro _; rfl
  | cons x l ih =>
    intro h
    have h1 := h x (by simp)
    have h2 := ih (fun y hy => h y (by simp [hy]))
    simp only [seenL, List.map_cons, List.flatten_cons, List.length_append, List.length_cons] at h2 ⊢
    omega
theorem seenL_take {l : List Wd} {k : Nat} {x : Wd} (h : l[k]? = some x) : seenL (l.take (k + 1)) = seenL (l.take k) ++ x.seen := by
  unfold seenL; rw [List.take_add_one, h]; simp

set_option maxHeartbeats 1000000 in
theorem rbytes_any {w : World} {A : Option Addr} {n c : Nat} {l : List Wd} (h : RdW w w.heap.size A n c l) (h8 : ok8 l) (hn : n ≤ 8192) :
    Calls Tryz.prog 27 #[.slice A n c] w fun e w' => e = .returned (.string ⟨(seenL l).toArray⟩) ∧ Below w.heap.size w w' := by
  have HL : Hid (l.length = n) := h.1
  have hni : (n : Int) ≤ 8192 := by omega
  have H := hid h; have H8 := hid h8
  clear h h8 hn
  go_enter Tryz.func27, Tryz.ntmps27
  go_wp2_with fail
  go_loopw [3, 4] (fun s i wr => ∃ (k : Nat) (X : List UInt8), k ≤ n ∧ i = .int .i64 k ∧ s = .string ⟨X.toArray⟩ ∧ Hid (X = seenL (l.take k)) ∧ Hid (Below w.heap.size w wr)) (fun _ i _ => n - (intOf i).toNat)
  case atStart => exact ⟨0, [], by omega, rfl, rfl, hid rfl, hid (B0 w)⟩
  case round =>
    obtain ⟨k, X, hk, rfl, rfl, HX, HB⟩ := hrel
    by_cases hlt : k < n
    · have hkl : k < l.length := by have := HL.out; omega
      obtain ⟨b, off, rfl, hbl, hc⟩ := (H.out.below HB.out).2.2.2.2 (by omega)
      obtain ⟨c1, c2, c3, c4⟩ := hc k hkl
      obtain ⟨x, hx⟩ : ∃ x, x = l[k] := ⟨_, rfl⟩
      have HXk : Hid (l[k]? = some x) := by rw [hx]; exact List.getElem?_eq_getElem hkl
      have hx8 : x.seen.length = 8 := by rw [hx]; exact H8.out _ (List.getElem_mem _)
      rw [← hx] at c1
      unfold str at c1
      have hXl : X.length ≤ 65536 := by
        rw [HX.out, seenL_length (fun y hy => H8.out y (List.mem_of_mem_take hy)), List.length_take]; omega
      clear hx hc c2 c3 c4
      go_wp2_with fail
      go_roundw
      case rel => exact ⟨k + 1, X ++ x.seen, by omega, by simp, by rw [ByteArray.mk_append_mk], hid (by rw [seenL_take HXk.out, HX.out]), HB⟩
      case measure => simp [intOf]; omega
    · obtain rfl : k = n := by omega
      have e : l.take k = l := by rw [← HL.out]; exact List.take_length
      rw [e] at HX
      go_wp2_with fail
      go_ret
      exact ⟨by rw [HX.out]; rfl, HB.out⟩

theorem rinside_any {w : World} {A : Option Addr} {n c : Nat} (at_ long : Int) (ha : I64 at_) (hl : I64 long) (hn : n ≤ 8192) :
    Calls Tryz.prog 42 #[.slice A n c, .int .i64 at_, .int .i64 long] w fun e w' => e = .returned (.int .i64 (hE ((n * 8 : Nat) : Int) at_ long)) ∧ w' = w := by
  have ha2 := i64_iff.1 ha; have hl2 := i64_iff.1 hl
  have hni : (n : Int) ≤ 8192 := by omega
  have q1 : IntKind.i64.wrap (8 * (n : Int)) = 8 * (n : Int) := by rw [IntKind.wrap_i64]; omega
  clear ha hl hn
  by_cases c1 : long < 0
  · have e : hE ((n * 8 : Nat) : Int) at_ long = 1 := by unfold hE; rw [if_pos c1]
    rw [e]
    go_enter Tryz.func42, Tryz.ntmps42
    go_wp2_with fail
    go_ret
    exact ⟨rfl, rfl⟩
  have d1 : decide (long < 0) = false := by simp; omega
  by_cases c2 : at_ < 0
  · have e : hE ((n * 8 : Nat) : Int) at_ long = 30 := by unfold hE; rw [if_neg c1, if_pos (.inl c2)]
    rw [e]
    go_enter Tryz.func42, Tryz.ntmps42
    go_wp2_with fail
    go_ret
    exact ⟨rfl, rfl⟩
  have d2 : decide (at_ < 0) = false := by simp; omega
  by_cases c3 : 8 * (n : Int) < at_
  · have e : hE ((n * 8 : Nat) : Int) at_ long = 30 := by unfold hE; rw [if_neg c1, if_pos (.inr (by omega))]
    have d3 : decide (8 * (n : Int) < at_) = true := by simp; omega
    rw [e]
    go_enter Tryz.func42, Tryz.ntmps42
    go_wp2_with fail
    go_ret
    exact ⟨rfl, rfl⟩
  have d3 : decide (8 * (n : Int) < at_) = false := by simp; omega
  have q2 : IntKind.i64.wrap (8 * (n : Int) - at_) = 8 * (n : Int) - at_ := by rw [IntKind.wrap_i64]; omega
  by_cases c4 : 8 * (n : Int) - at_ < long
  · have e : hE ((n * 8 : Nat) : Int) at_ long = 30 := by unfold hE; rw [if_neg c1, if_pos (.inr (by omega))]
    have d4 : decide (8 * (n : Int) - at_ < long) = true := by simp; omega
    rw [e]
    go_enter Tryz.func42, Tryz.ntmps42
    go_wp2_with fail
    go_ret
    exact ⟨rfl, rfl⟩
  have d4 : decide (8 * (n : Int) - at_ < long) = false := by simp; omega
  have e : hE ((n * 8 : Nat) : Int) at_ long = 0 := by unfold hE; rw [if_neg c1, if_neg (by omega)]
  rw [e]
  go_enter Tryz.func42, Tryz.ntmps42
  go_wp2_with fail
  go_ret
  exact ⟨rfl, rfl⟩

set_option maxHeartbeats 1000000 in
theorem rhas_any {w : World} {A : Option Addr} {n c : Nat} {l : List Int} (h : RdI w w.heap.size A n c l) (x : Int) :
    Calls Tryz.prog 44 #[.slice A n c, .int .i64 x] w fun e w' => e = .returned (.bool (decide (x ∈ l))) ∧ w' = w := by
  have HL : Hid (l.length = n) := h.1
  have hnm : (n : Int) ≤ 9223372036854775807 := by have := h.2.1; have := h.2.2.1; unfold maxLen at *; omega
  have H := hid h
  clear h
  go_enter Tryz.func44, Tryz.ntmps44
  go_wp2_with fail
  go_loopw [5] (fun i wr => ∃ k : Nat, k ≤ n ∧ i = .int .i64 k ∧ Hid (x ∉ l.take k) ∧ Hid (wr = w)) (fun i _ => n - (intOf i).toNat)
  case atStart => exact ⟨0, by omega, rfl, hid (by simp), hid rfl⟩
  case round =>
    obtain ⟨k, hk, rfl, HX, HW⟩ := hrel
    obtain rfl : wr = w := HW.out
    by_cases hlt : k < n
    · have hkl : k < l.length := by have := HL.out; omega
      obtain ⟨b, off, rfl, hbl, hc⟩ := H.out.2.2.2.2 (by omega)
      have c1 := hc k hkl
      obtain ⟨y, hy⟩ : ∃ y, y = l[k] := ⟨_, rfl⟩
      have HYk : Hid (l[k]? = some y) := by rw [hy]; exact List.getElem?_eq_getElem hkl
      rw [← hy] at c1
      have hk1 : (k : Int) + 1 ≤ 9223372036854775807 := by omega
      have q : IntKind.i64.wrap ((k : Int) + 1) = (k : Int) + 1 := by rw [IntKind.wrap_i64]; omega
      clear hc hy
      by_cases e : y = x
      · subst e
        go_wp2_with fail
        go_ret
        have : y ∈ l := List.mem_of_getElem? HYk.out
        exact ⟨by simp [this], rfl⟩
      · have e2 : (y == x) = false := by simpa using e
        go_wp2_with fail
        go_roundw
        case rel => exact ⟨k + 1, by omega, by simp, hid (by rw [List.take_add_one, HYk.out]; simp; exact ⟨HX.out, fun h => e h.symm⟩), by first | exact hid rfl | exact hid trivial⟩
        case measure => simp [intOf]; omega
    · obtain rfl : k = n := by omega
      have e : l.take k = l := by rw [← HL.out]; exact List.take_length
      rw [e] at HX
      go_wp2_with fail
      go_ret
      exact ⟨by have := HX.out; simp [this], rfl⟩

/-- The numbers of the loose words among the first k. -/
def looseK (l : List Wd) (k : Nat) : List Int := ((List.range k).map Int.ofNat).filter fun i => (l[i.toNat]?.map Wd.loose).getD false
def looseW (l : List Wd) : List Int := looseK l l.length
theorem looseK_succ {l : List Wd} {k : Nat} {x : Wd} (h : l[k]? = some x) : looseK l (k + 1) = looseK l k ++ if x.loose = true then [(k : Int)] else [] := by
  unfold looseK
  rw [List.range_succ, List.map_append, List.filter_append]
  congr 1
  simp only [List.map_cons, List.map_nil, Int.ofNat_eq_natCast, List.filter_cons, List.filter_nil, Int.toNat_natCast, h, Option.map_some, Option.getD_some]
end Go.Proofs.YteggkojlpgkhbaaGreat
