/-
  Plain mathematics of the check sum: a register of 16 bits that is moved by bytes. No program is named here.
-/
import Derived.WalkKit
import Derived.Laws.BitsAllLaws
namespace Go.Proofs.Ytpmljbcgaeodjaa
set_option linter.unusedVariables false

/-- The register goes on by one bit. -/
def shB (x : BitVec 16) : BitVec 16 := (x <<< 1) ^^^ (if x.msb then 4129#16 else 0#16)
/-- .. by so many. -/
def shN : Nat → BitVec 16 → BitVec 16
  | 0, x => x
  | k + 1, x => shB (shN k x)
/-- A byte, 8 bits to the left. -/
def byB (c : UInt8) : BitVec 16 := c.toBitVec.setWidth 16 <<< 8
/-- The register goes on by a byte. -/
def stB (x : BitVec 16) (c : UInt8) : BitVec 16 := shN 8 (x ^^^ byB c)
/-- .. by bytes. -/
def crcB (x : BitVec 16) (l : List UInt8) : BitVec 16 := l.foldl stB x

theorem crcB_append (x : BitVec 16) (l m : List UInt8) : crcB x (l ++ m) = crcB (crcB x l) m := List.foldl_append
theorem crcB_nil (x : BitVec 16) : crcB x [] = x := rfl
theorem crcB_snoc (x : BitVec 16) (l : List UInt8) (c : UInt8) : crcB x (l ++ [c]) = stB (crcB x l) c := by rw [crcB_append]; rfl

theorem xor4 (a b c d : BitVec 16) : (a ^^^ b) ^^^ (c ^^^ d) = (a ^^^ c) ^^^ (b ^^^ d) := by
  rw [BitVec.xor_assoc, ← BitVec.xor_assoc b, BitVec.xor_comm b c, BitVec.xor_assoc c, ← BitVec.xor_assoc]

theorem shB_xor (a b : BitVec 16) : shB (a ^^^ b) = shB a ^^^ shB b := by
  unfold shB
  rw [BitVec.shiftLeft_xor_distrib, BitVec.msb_xor, xor4]
  congr 1
  cases a.msb <;> cases b.msb <;> decide
theorem shN_xor (k : Nat) (a b : BitVec 16) : shN k (a ^^^ b) = shN k a ^^^ shN k b := by
  induction k with
  | zero => rfl
  | succ k ih => rw [shN, ih, shB_xor]; rfl
theorem byB_xor (c d : UInt8) : byB (c ^^^ d) = byB c ^^^ byB d := by
  unfold byB
  rw [UInt8.toBitVec_xor, BitVec.setWidth_xor, BitVec.shiftLeft_xor_distrib]
theorem stB_xor (a b : BitVec 16) (c d : UInt8) : stB (a ^^^ b) (c ^^^ d) = stB a c ^^^ stB b d := by
  unfold stB; rw [byB_xor, xor4, shN_xor]
theorem crcB_xor : ∀ (l m : List UInt8) (a b : BitVec 16), l.length = m.length → crcB (a ^^^ b) (l.zipWith (· ^^^ ·) m) = crcB a l ^^^ crcB b m
  | [], [], _, _, _ => rfl
  | c :: l, d :: m, a, b, h => by
    show crcB (stB (a ^^^ b) (c ^^^ d)) (l.zipWith (· ^^^ ·) m) = crcB (stB a c) l ^^^ crcB (stB b d) m
    rw [stB_xor]
    exact crcB_xor l m _ _ (by simpa using h)
  | [], _ :: _, _, _, h => by simp at h
  | _ :: _, [], _, _, h => by simp at h

theorem shB_zero : shB 0#16 = 0#16 := by decide
theorem shN_zero (k : Nat) : shN k 0#16 = 0#16 := by
  induction k with
  | zero => rfl
  | succ k ih => rw [shN, ih, shB_zero]
theorem crcB_zeros (k : Nat) : crcB 0#16 (List.replicate k 0) = 0#16 := by
  induction k with
  | zero => rfl
  | succ k ih =>
    rw [List.replicate_succ]
    have h : stB 0#16 0 = 0#16 := shN_zero 8
    show crcB (stB 0#16 0) (List.replicate k 0) = 0#16
    rw [h]; exact ih

theorem msb_lt (x : BitVec 16) : x.msb = decide (32768 ≤ x.toNat) := by rw [BitVec.msb_eq_decide]
theorem toNat_shl1 (x : BitVec 16) : (x <<< 1).toNat = x.toNat * 2 % 65536 := by
  rw [BitVec.toNat_shiftLeft, Nat.shiftLeft_eq]
theorem shB_ker (x : BitVec 16) (h : shB x = 0#16) : x = 0#16 := by
  unfold shB at h
  have h1 := BitVec.xor_eq_zero_iff.1 h
  have h2 := congrArg BitVec.toNat h1
  have hx := x.isLt
  rw [toNat_shl1, msb_lt] at h2
  by_cases hm : 32768 ≤ x.toNat
  · simp [hm] at h2; omega
  · simp [hm] at h2
    apply BitVec.eq_of_toNat_eq; simp; omega
theorem xor_cancel {a b : BitVec 16} (h : a ^^^ b = 0#16) : a = b := BitVec.xor_eq_zero_iff.1 h
theorem shB_inj {a b : BitVec 16} (h : shB a = shB b) : a = b := by
  apply xor_cancel; apply shB_ker; rw [shB_xor, h, BitVec.xor_self]
theorem shN_inj : ∀ (k : Nat) {a b : BitVec 16}, shN k a = shN k b → a = b
  | 0, _, _, h => h
  | k + 1, _, _, h => shN_inj k (shB_inj h)
theorem byB_toNat (c : UInt8) : (byB c).toNat = c.toNat * 256 := by
  unfold byB
  have := c.toNat_lt
  rw [BitVec.toNat_shiftLeft, Nat.shiftLeft_eq, BitVec.toNat_setWidth]
  simp only [UInt8.toNat_toBitVec]; omega
theorem byB_inj {c d : UInt8} (h : byB c = byB d) : c = d := by
  have := congrArg BitVec.toNat h
  rw [byB_toNat, byB_toNat] at this
  apply UInt8.toNat_inj.1; omega
theorem stB_inj {a b : BitVec 16} {c : UInt8} (h : stB a c = stB b c) : a = b := by
  have h1 := shN_inj 8 h
  have h2 : (a ^^^ byB c) ^^^ byB c = (b ^^^ byB c) ^^^ byB c := by rw [h1]
  simpa [BitVec.xor_assoc] using h2
theorem stB_ne {a : BitVec 16} {c d : UInt8} (h : c ≠ d) : stB a c ≠ stB a d := by
  intro e
  have h1 := shN_inj 8 e
  apply h; apply byB_inj
  have h2 : a ^^^ (a ^^^ byB c) = a ^^^ (a ^^^ byB d) := by rw [h1]
  simpa [← BitVec.xor_assoc] using h2
theorem crcB_inj : ∀ (l : List UInt8) {a b : BitVec 16}, crcB a l = crcB b l → a = b
  | [], _, _, h => h
  | c :: l, _, _, h => stB_inj (crcB_inj l h)
/-- Bytes of which one is another one have another sum. -/
theorem crcB_set {l : List UInt8} {i : Nat} (hi : i < l.length) {c : UInt8} (h : c ≠ l[i]) (x : BitVec 16) : crcB x (l.set i c) ≠ crcB x l := by
  have e1 : l.set i c = l.take i ++ c :: l.drop (i + 1) := by rw [List.set_eq_take_append_cons_drop]; simp [hi]
  have e2 : l = l.take i ++ l[i] :: l.drop (i + 1) := by rw [← List.drop_eq_getElem_cons hi, List.take_append_drop]
  intro e
  rw [e1] at e
  have e3 : crcB x l = crcB x (l.take i ++ l[i] :: l.drop (i + 1)) := by rw [← e2]
  rw [e3, crcB_append, crcB_append] at e
  exact stB_ne h (crcB_inj (l.drop (i + 1)) e)

/-! ### As numbers -/
theorem sh_hi (x : BitVec 16) (h : 32768 ≤ x.toNat) : bits .xor .u16 (IntKind.u16.wrap ((x.toNat : Int) * 2)) 4129 = ((shB x).toNat : Int) := by
  have hx := x.isLt
  have e : IntKind.u16.wrap ((x.toNat : Int) * 2) = ((x.toNat * 2 % 65536 : Nat) : Int) := by rw [IntKind.wrap_u16]; omega
  rw [e, show (4129 : Int) = ((4129 : Nat) : Int) from rfl, u16_xor_nat _ _ (by omega) (by omega)]
  unfold shB
  rw [msb_lt]
  simp [h, Nat.shiftLeft_eq]
theorem sh_lo (x : BitVec 16) (h : x.toNat < 32768) : ((x.toNat : Int) * 2) = ((shB x).toNat : Int) := by
  unfold shB
  rw [msb_lt]
  simp [show ¬ 32768 ≤ x.toNat by omega, Nat.shiftLeft_eq]
  omega
theorem xor_by (x : BitVec 16) (c : UInt8) : bits .xor .u16 (x.toNat : Int) ((c.toNat : Int) * 256) = ((x ^^^ byB c).toNat : Int) := by
  have hx := x.isLt
  have hc := c.toNat_lt
  have e : ((c.toNat : Int) * 256) = ((c.toNat * 256 : Nat) : Int) := by omega
  rw [e, u16_xor_nat _ _ (by omega) (by omega), BitVec.toNat_xor, byB_toNat]
/-- The lowest 16 bits of a number. -/
def lowB (n : Int) : BitVec 16 := BitVec.ofInt 16 n
theorem lowB_toNat (n : Int) : ((lowB n).toNat : Int) = n % 65536 := by
  unfold lowB; rw [BitVec.toNat_ofInt]
  simp; omega
theorem lowB_wrap (n : Int) : IntKind.u16.wrap n = ((lowB n).toNat : Int) := by rw [lowB_toNat, IntKind.wrap_u16]
end Go.Proofs.Ytpmljbcgaeodjaa
