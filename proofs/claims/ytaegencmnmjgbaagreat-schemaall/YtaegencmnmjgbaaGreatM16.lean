/-
  Casts are right; Decode of Encode.
  Tables of layer 7: mathematics.
  Changes of layer 8: mathematics.
-/
import Derived.Test.YtaegencmnmjgbaaGreatM15
import Derived.Laws.Externs
import Derived.Test.YtaegencmnmjgbaaGreatM2

namespace Go.Proofs.YtaegencmnmjgbaaGreat
open Go.RowKit
set_option linter.unusedVariables false
set_option linter.unusedSimpArgs false
def rbP (n k : Int) : Prop :=
  if k = 1 then n < 256 else if k = 2 then n < 65536 else if k = 3 then n < 4294967296 else if k = 5 then n < 128 ∨ 18446744073709551488 ≤ n else if k = 6 then n < 32768 ∨ 18446744073709518848 ≤ n else if k = 7 then n < 2147483648 ∨ 18446744071562067968 ≤ n else if k = 9 then n < 2 else True
theorem rb_iff {n k : Int} (hn : U64 n) (hk : k = 1 ∨ k = 2 ∨ k = 3 ∨ k = 4 ∨ k = 5 ∨ k = 6 ∨ k = 7 ∨ k = 8 ∨ k = 9 ∨ k = 10 ∨ k = 11) : rbB n k = true ↔ rbP n k := by
  have h1 := hn.1
  have h2 := hn.2
  rw [pw8] at h2
  rcases hk with rfl | rfl | rfl | rfl | rfl | rfl | rfl | rfl | rfl | rfl | rfl
  · simp [rbB, rbP, fits, isW, show sizeOfKind 1 = 1 by decide, show amB 5 8 1 = false by decide, pw1]
  · simp [rbB, rbP, fits, isW, show sizeOfKind 2 = 2 by decide, show amB 5 8 2 = false by decide, pw2]
  · simp [rbB, rbP, fits, isW, show sizeOfKind 3 = 4 by decide, show amB 5 8 3 = false by decide, pw4]
  · simp [rbB, rbP, fits, isW, show sizeOfKind 4 = 8 by decide, show amB 5 8 4 = false by decide, pw8]; omega
  · simp only [rbB, rbP, fits, sgn, show sizeOfKind 5 = 1 by decide, show amB 5 8 5 = true by decide, show isW 1 = true by decide, pw1, pw8]; simp; split <;> omega
  · simp only [rbB, rbP, fits, sgn, show sizeOfKind 6 = 2 by decide, show amB 5 8 6 = true by decide, show isW 2 = true by decide, pw2, pw8]; simp; split <;> omega
  · simp only [rbB, rbP, fits, sgn, show sizeOfKind 7 = 4 by decide, show amB 5 8 7 = true by decide, show isW 4 = true by decide, pw4, pw8]; simp; split <;> omega
  · have := sgn8 n hn
    simp [rbB, rbP, fits, isW, show sizeOfKind 8 = 8 by decide, show amB 5 8 8 = true by decide, this]
  · simp [rbB, rbP]; omega
  · simp [rbB, rbP, fits, isW, show sizeOfKind 10 = 8 by decide, show amB 5 8 10 = false by decide, pw8]; omega
  · simp [rbB, rbP, fits, isW, show sizeOfKind 11 = 8 by decide, show amB 5 8 11 = false by decide, pw8]; omega
theorem castN_U64 {n k k' : Int} (hn : U64 n) : U64 (castN n k k') := by
  have h1 := hn.1
  have h2 := hn.2
  rw [pw8] at h2
  have fl : ∀ (m : Nat) (s : Bool), m < 18446744073709551616 → U64 ((floatW m s : Nat) : Int) := fun m s hm => ⟨by omega, by have := floatW_lt hm s; rw [pw8]; omega⟩
  unfold castN
  split
  · split
    · exact fl _ _ (by omega)
    · split
      · split
        · exact fl _ _ (by omega)
        · exact fl _ _ (by omega)
      · exact hn
  · split
    · rw [IntKind.wrap_u64]; exact ⟨by omega, by rw [pw8]; omega⟩
    · exact hn
theorem cutT_size (t : ByteArray) (m : Nat) : (cutT t m).size = m := by
  show (cutL t.data.toList m).toArray.size = m
  rw [List.size_toArray, cutL_length]
theorem size_nil (t : ByteArray) (h : t.size = 0) : t = ⟨#[]⟩ := by
  obtain ⟨a⟩ := t
  have h2 : a.size = 0 := h
  rw [Array.eq_empty_of_size_eq_zero h2]
theorem cast_right {vk n : Int} {t : ByteArray} {k g k' g' : Int} (hn : U64 n) (hr : rightF vk n t.size k g = true) (hc : castsF k g k' g' = true) :
    rightF k' (castN n k k') (castT t k' g').size k' g' = true ∧ ((castT t k' g').size : Int) = g' := by
  obtain ⟨hvk, hm⟩ := right_kind hr
  have hm' : mayF k' g' = true := by unfold castsF at hc; simp at hc; exact hc.1.2
  have hg : 0 ≤ g' := by
    by_cases h : k' = 12
    · subst h; have := may12 hm'; omega
    · have := (may_cases hm' h).1; omega
  have hs : ((castT t k' g').size : Int) = g' := by rw [castT_cut hm', cutT_size]; omega
  refine ⟨?_, hs⟩
  rw [castsP_eq hm hm'] at hc
  subst hvk
  by_cases h12' : k' = 12
  · subst h12'
    have h12 : vk = 12 := by
      by_cases h12 : vk = 12
      · exact h12
      · obtain ⟨rfl, hk⟩ := may_cases hm h12
        rcases hk with rfl | rfl | rfl | rfl | rfl | rfl | rfl | rfl | rfl | rfl | rfl <;> simp [castsP, amB] at hc
    subst h12
    rw [rightF_12 hm] at hr
    rw [rightF_12 hm']
    simp at hr
    have e : castN n 12 12 = n := by simp [castN]
    rw [e]
    simp [hr.1, hs]
  · obtain ⟨rfl, hk'⟩ := may_cases hm' h12'
    have hs0 : (castT t k' 0).size = 0 := by omega
    rw [hs0, rbB_right (castN_U64 hn) hm' h12', rb_iff (castN_U64 hn) hk']
    have h12 : vk ≠ 12 := by
      intro h; subst h
      rcases hk' with rfl | rfl | rfl | rfl | rfl | rfl | rfl | rfl | rfl | rfl | rfl <;> simp [castsP, amB] at hc
    obtain ⟨rfl, hk⟩ := may_cases hm h12
    have ht : t.size = 0 := by
      unfold rightF at hr; simp [h12] at hr; rw [hr.2.1]; rfl
    rw [ht, rbB_right hn hm h12, rb_iff hn hk] at hr
    have h1 := hn.1
    rw [longF_0, longF_0] at hc
    rcases hk with rfl | rfl | rfl | rfl | rfl | rfl | rfl | rfl | rfl | rfl | rfl <;> rcases hk' with rfl | rfl | rfl | rfl | rfl | rfl | rfl | rfl | rfl | rfl | rfl <;>
      first
      | exact absurd hc (by decide)
      | (simp [rbP]; done)
      | (simp [rbP, castN] at hr ⊢; omega)
theorem dec_enc {vk n : Int} {t : ByteArray} {k g : Int} (hn : U64 n) (hr : rightF vk n t.size k g = true) :
    decR (encT vk n t k g).toList k g = .tuple #[.agg #[.int .i64 vk, .int .u64 n, .string t], .int .i64 0] ∧ ((encT vk n t k g).toList.length : Int) = longF k g := by
  obtain ⟨hvk, hm⟩ := right_kind hr
  subst hvk
  have he : encT vk n t vk g = encL n t vk g := by simp [encT, hr]
  rw [he]
  by_cases h12 : vk = 12
  · subst h12
    have hr2 := hr
    rw [rightF_12 hm] at hr2
    simp at hr2
    have e1 : encL n t 12 g = t := by simp [encL]
    have e2 : (⟨t.toList.toArray⟩ : ByteArray) = t := by rw [ByteArray.toList_eq]
    have e3 : t.toList.length = t.size := by rw [ByteArray.toList_eq, Array.length_toList]; rfl
    have hl : longF 12 g = g := by simp [longF, hm]
    rw [e1]
    have hd : decB t.toList 12 g = true := by rw [decB_12, hm, hl, e3]; simp [hr2.2]
    rw [decR_ok hd, show decN 12 t.toList = 0 by simp [decN], show decT 12 t.toList = t by simp [decT, e2], hr2.1, e3, hl]
    exact ⟨rfl, hr2.2⟩
  · obtain ⟨rfl, hk⟩ := may_cases hm h12
    have ht : t.size = 0 := by
      unfold rightF at hr; simp [h12] at hr; rw [hr.2.1]; rfl
    have htn := size_nil t ht
    rw [ht] at hr
    have hb := hr
    rw [rbB_right hn hm h12] at hb
    have hw := size_isW hk
    have hl : longF vk 0 = sizeOfKind vk := longF_0
    obtain ⟨m, hm2⟩ : ∃ m : Nat, sizeOfKind vk = m := ⟨(sizeOfKind vk).toNat, by have := isW_cases hw; omega⟩
    rw [hm2] at hw
    have hmw := isW_cases hw
    have eL : (encL n t vk 0).toList = le n m := by
      have : encL n t vk 0 = ⟨((le n 8).take (longF vk 0).toNat).toArray⟩ := by simp [encL, h12]
      rw [this, hl, hm2, Int.toNat_natCast, ByteArray.toList_eq]
      show (le n 8).take m = le n m
      exact le_takeK _ _ _ (by omega)
    rw [eL, hl, hm2]
    have hlen : ((le n m).length : Int) = m := by rw [le_length]
    have hN : decN vk (le n m) = n := by
      have hg : getN (le n m) 0 (le n m).length = n % pw m := by
        have : holdsB (le n m).length 0 (le n m).length = true := by rw [le_length]; simp [holdsB, hw]
        simp only [getN, this, if_true]
        rw [Int.toNat_zero, List.drop_zero, Int.toNat_natCast, List.take_length, num_leK n hn.1]
      unfold decN
      rw [if_neg h12, hg, hlen]
      have h1 := hn.1
      have h2 := hn.2
      rw [pw8] at h2
      by_cases hs : 4 < vk ∧ vk < 9
      · rw [if_pos hs]
        have ha : amB 5 8 vk = true := by simp [amB]; omega
        have hf : sgn n m = n := by
          unfold rbB at hb
          rw [if_neg (by omega), ha, hm2] at hb
          simp [fits] at hb; exact hb.2
        have hU : U64 (n % pw m) := ⟨Int.emod_nonneg _ (by have := pw_pos m; omega), by
          have := Int.emod_lt_of_pos n (pw_pos m)
          have hp : pw m ≤ pw 8 := by rcases hmw with e | e | e | e <;> rw [e] <;> decide
          omega⟩
        have : sgn (n % pw m) m = sgn n m := by
          unfold sgn; rw [if_pos hw, if_pos hw, Int.emod_emod_of_dvd n (Int.dvd_refl _)]
        rw [this, hf]
      · rw [if_neg hs]
        refine Int.emod_eq_of_lt h1 ?_
        by_cases h9 : vk = 9
        · unfold rbB at hb
          rw [if_pos h9] at hb
          have := pw_pos m
          have h3 : (256 : Int) ≤ pw m := by rcases hmw with e | e | e | e <;> rw [e] <;> decide
          simp at hb; omega
        · unfold rbB at hb
          have ha : amB 5 8 vk = false := by simp [amB]; omega
          rw [if_neg h9, ha, hm2] at hb
          simp [fits] at hb; exact hb.2
    have hd : decB (le n m) vk 0 = true := by
      rw [decB_ne h12, hm, hl, hm2, hN, hr]; simp [hlen]
    rw [decR_ok hd, hN, htn, show decT vk (le n m) = ⟨#[]⟩ by simp [decT, h12]]
    exact ⟨rfl, hlen⟩
end Go.Proofs.YtaegencmnmjgbaaGreat

namespace Go.Proofs.YtaegencmnmjgbaaGreat
open Go.RowKit
set_option linter.unusedVariables false
structure Mv where
  fr : Int
  k : Int
  n : Int
  t : ByteArray
structure Tb where
  o : List Fd
  nw : List Fd
  mv : List Mv
def Tb.none : Tb := ⟨[], [], []⟩
def Mv.zero (m : Mv) : Bool := decide (m.k = 0) && decide (m.n = 0) && decide (m.t.size = 0)
def fdAt (l : List Fd) (i : Int) : Option Fd := if 0 ≤ i then l[i.toNat]? else Option.none
def mvB (o : List Fd) (m : Mv) (f : Fd) : Bool :=
  if m.fr = -1 then rightF m.k m.n m.t.size f.k f.g && (decide (f.k ≠ 11) || decide (m.n = 0))
  else match fdAt o m.fr with | some g => m.zero && castsF g.k g.g f.k f.g | Option.none => false
def rightT (T : Tb) : Bool := rightL T.o && rightL T.nw && decide (T.mv.length = T.nw.length) && (T.mv.zip T.nw).all fun p => mvB T.o p.1 p.2
theorem zip_get {α β : Type} {a : List α} {b : List β} {i : Nat} {x : α} {y : β} (h : a[i]? = some x) (h' : b[i]? = some y) : (a.zip b)[i]? = some (x, y) := by
  simp [List.getElem?_zip_eq_some, h, h']
theorem zip_at {α β : Type} {a : List α} {b : List β} {i : Nat} {p : α × β} (h : (a.zip b)[i]? = some p) : a[i]? = some p.1 ∧ b[i]? = some p.2 := by
  rw [List.getElem?_zip_eq_some] at h; exact h
theorem all_zip {α β : Type} {a : List α} {b : List β} {p : α → β → Bool} : ((a.zip b).all fun x => p x.1 x.2) = true ↔ ∀ (i : Nat) x y, a[i]? = some x → b[i]? = some y → p x y = true := by
  rw [List.all_eq_true]
  refine ⟨fun h i x y hx hy => h (x, y) (List.mem_of_getElem? (zip_get hx hy)), fun h q hq => ?_⟩
  obtain ⟨i, hi⟩ := List.getElem?_of_mem hq
  obtain ⟨h1, h2⟩ := zip_at hi
  exact h i _ _ h1 h2
theorem rightT_iff {T : Tb} : rightT T = true ↔ rightL T.o = true ∧ rightL T.nw = true ∧ T.mv.length = T.nw.length ∧ ∀ (i : Nat) m f, T.mv[i]? = some m → T.nw[i]? = some f → mvB T.o m f = true := by
  unfold rightT
  simp only [Bool.and_eq_true, decide_eq_true_eq, all_zip, and_assoc]
theorem rightT_no {T : Tb} {i : Nat} {m : Mv} {f : Fd} (hm : T.mv[i]? = some m) (hf : T.nw[i]? = some f) (h : mvB T.o m f = false) : rightT T = false := by
  cases hr : rightT T with
  | false => rfl
  | true => rw [(rightT_iff.1 hr).2.2.2 i m f hm hf] at h; cases h
theorem mvB_new {o : List Fd} {m : Mv} {f : Fd} (h : m.fr = -1) : mvB o m f = (rightF m.k m.n m.t.size f.k f.g && (decide (f.k ≠ 11) || decide (m.n = 0))) := by unfold mvB; rw [if_pos h]
theorem mvB_old {o : List Fd} {m : Mv} {f g : Fd} (h : 0 ≤ m.fr) (hg : o[m.fr.toNat]? = some g) : mvB o m f = (m.zero && castsF g.k g.g f.k f.g) := by unfold mvB fdAt; rw [if_neg (by omega), if_pos h, hg]
theorem mvB_out {o : List Fd} {m : Mv} {f : Fd} (h : m.fr < -1 ∨ (o.length : Int) ≤ m.fr) : mvB o m f = false := by
  unfold mvB fdAt
  rw [if_neg (by omega)]
  by_cases c : 0 ≤ m.fr
  · rw [if_pos c, List.getElem?_eq_none (by omega)]
  · rw [if_neg c]
theorem mvB_from {o : List Fd} {m : Mv} {f : Fd} (h : mvB o m f = true) : m.fr = -1 ∨ ∃ g, 0 ≤ m.fr ∧ o[m.fr.toNat]? = some g ∧ m.zero = true ∧ castsF g.k g.g f.k f.g = true := by
  by_cases c : m.fr = -1
  · exact .inl c
  · right
    by_cases c2 : m.fr < -1 ∨ (o.length : Int) ≤ m.fr
    · rw [mvB_out c2] at h; cases h
    · have hlt : m.fr.toNat < o.length := by omega
      refine ⟨o[m.fr.toNat], by omega, List.getElem?_eq_getElem hlt, ?_⟩
      rw [mvB_old (by omega) (List.getElem?_eq_getElem hlt)] at h
      simpa using h
def selfM (i : Nat) : Mv := ⟨(i : Int), 0, 0, ⟨#[]⟩⟩
def selfL (n : Nat) : List Mv := (List.range n).map selfM
theorem selfL_length (n : Nat) : (selfL n).length = n := by simp [selfL]
theorem selfL_get {n i : Nat} (h : i < n) : (selfL n)[i]? = some (selfM i) := by simp [selfL, h]
theorem selfL_succ (n : Nat) : selfL (n + 1) = selfL n ++ [selfM n] := by simp [selfL, List.range_succ]
def sameT (l : List Fd) : Tb := if rightL l then ⟨l, l, selfL l.length⟩ else Tb.none
theorem sameT_right {l : List Fd} (h : rightL l = true) : sameT l = ⟨l, l, selfL l.length⟩ := by unfold sameT; rw [if_pos h]
theorem sameT_wrong {l : List Fd} (h : rightL l = false) : sameT l = Tb.none := by unfold sameT; rw [h]; rfl
theorem casts_self {k g : Int} (h : mayF k g = true) : castsF k g k g = true := by unfold castsF; simp [h]
theorem self_may {l : List Fd} (h : rightL l = true) {i : Nat} {f f' : Fd} (hf : l[i]? = some f) (hc : castsF f.k f.g f'.k f'.g = true) : mvB l (selfM i) f' = true := by
  rw [mvB_old (o := l) (m := selfM i) (g := f) (by simp [selfM]) (by simpa [selfM] using hf), hc]
  simp [Mv.zero, selfM]; rfl
theorem same_rightT {l : List Fd} (h : rightL l = true) : rightT (sameT l) = true := by
  rw [sameT_right h, rightT_iff]
  refine ⟨h, h, selfL_length _, fun i m f hm hf => ?_⟩
  have hi : i < l.length := by
    by_cases c : i < l.length
    · exact c
    · have hf' : l[i]? = some f := hf
      rw [List.getElem?_eq_none (by omega)] at hf'; cases hf'
  rw [selfL_get hi] at hm; cases hm
  exact self_may h hf (casts_self (right_may h f (List.mem_of_getElem? hf)))
def thrM (a : Tb) (m : Mv) (f : Fd) : Mv :=
  if 0 ≤ m.fr then match a.mv[m.fr.toNat]?, a.nw[m.fr.toNat]? with
    | some x, some g => if 0 ≤ x.fr then x else ⟨x.fr, f.k, castN x.n g.k f.k, castT x.t f.k f.g⟩
    | _, _ => m
  else m
def thrB (a : Tb) (m : Mv) (f : Fd) : Bool :=
  if 0 ≤ m.fr then match a.mv[m.fr.toNat]? with
    | some x => match fdAt a.o x.fr with | some g => castsF g.k g.g f.k f.g | Option.none => true
    | Option.none => true
  else true
def thrL (a b : Tb) : List Mv := (b.mv.zip b.nw).map fun p => thrM a p.1 p.2
def compB (a b : Tb) : Bool := rightT a && rightT b && decide (a.nw = b.o) && (b.mv.zip b.nw).all fun p => thrB a p.1 p.2
def compT (a b : Tb) : Tb := if compB a b then ⟨a.o, b.nw, thrL a b⟩ else Tb.none
def compE (a b : Tb) : Int := if compB a b then 0 else 70
theorem compB_iff {a b : Tb} : compB a b = true ↔ rightT a = true ∧ rightT b = true ∧ a.nw = b.o ∧ ∀ (i : Nat) m f, b.mv[i]? = some m → b.nw[i]? = some f → thrB a m f = true := by
  unfold compB
  simp only [Bool.and_eq_true, decide_eq_true_eq, all_zip, and_assoc]
theorem compB_no {a b : Tb} {i : Nat} {m : Mv} {f : Fd} (hm : b.mv[i]? = some m) (hf : b.nw[i]? = some f) (h : thrB a m f = false) : compB a b = false := by
  cases hr : compB a b with
  | false => rfl
  | true => rw [(compB_iff.1 hr).2.2.2 i m f hm hf] at h; cases h
theorem thrL_length {a b : Tb} (h : b.mv.length = b.nw.length) : (thrL a b).length = b.mv.length := by unfold thrL; simp [h]
theorem thrL_get {a b : Tb} {i : Nat} {m : Mv} {f : Fd} (hm : b.mv[i]? = some m) (hf : b.nw[i]? = some f) : (thrL a b)[i]? = some (thrM a m f) := by
  unfold thrL; rw [List.getElem?_map, zip_get hm hf]; rfl
theorem thrL_take {a b : Tb} {i : Nat} {m : Mv} {f : Fd} (hm : b.mv[i]? = some m) (hf : b.nw[i]? = some f) : (thrL a b).take (i + 1) = (thrL a b).take i ++ [thrM a m f] := by
  rw [List.take_add_one, thrL_get hm hf]; rfl
theorem casts_ref {k g k' g' : Int} (h : castsF k g k' g' = true) (hk : k' = 11) : k = 11 := by
  subst hk
  unfold castsF at h
  simp at h
  omega
theorem thr_may {a b : Tb} (ha : rightT a = true) (hb : rightT b = true) (he : a.nw = b.o) (hu : ∀ x ∈ a.mv, U64 x.n) {i : Nat} {m : Mv} {f : Fd} (hm : b.mv[i]? = some m) (hf : b.nw[i]? = some f) :
    mvB a.o (thrM a m f) f = thrB a m f := by
  have hm1 := (rightT_iff.1 hb).2.2.2 i m f hm hf
  rcases mvB_from hm1 with h1 | ⟨g, h0, hg, hz, hc⟩
  · have e1 : thrM a m f = m := by unfold thrM; rw [if_neg (by omega)]
    have e2 : thrB a m f = true := by unfold thrB; rw [if_neg (by omega)]
    rw [e1, e2]
    rw [mvB_new h1] at hm1 ⊢
    exact hm1
  · rw [← he] at hg
    have hlt : m.fr.toNat < a.nw.length := (List.getElem?_eq_some_iff.1 hg).1
    have hlen := (rightT_iff.1 ha).2.2.1
    have hx : a.mv[m.fr.toNat]? = some a.mv[m.fr.toNat] := List.getElem?_eq_getElem (by omega)
    generalize a.mv[m.fr.toNat]'(by omega) = x at hx
    have hm2 := (rightT_iff.1 ha).2.2.2 _ x g hx hg
    have hux := hu x (List.mem_of_getElem? hx)
    rcases mvB_from hm2 with h2 | ⟨g2, h20, hg2, hz2, hc2⟩
    · have e1 : thrM a m f = ⟨x.fr, f.k, castN x.n g.k f.k, castT x.t f.k f.g⟩ := by unfold thrM; rw [if_pos h0]; simp only [hx, hg]; rw [if_neg (by omega)]
      have e2 : thrB a m f = true := by unfold thrB fdAt; rw [if_pos h0]; simp only [hx]; rw [if_neg (by omega)]
      rw [e1, e2, mvB_new (m := ⟨x.fr, f.k, castN x.n g.k f.k, castT x.t f.k f.g⟩) h2]
      rw [mvB_new h2] at hm2
      simp only [Bool.and_eq_true, Bool.or_eq_true, decide_eq_true_eq] at hm2 ⊢
      refine ⟨(cast_right hux hm2.1 hc).1, ?_⟩
      by_cases hk : f.k = 11
      · right
        have hgk := casts_ref hc hk
        rcases hm2.2 with h | h
        · exact absurd hgk h
        · rw [h, hgk, hk]; simp [castN]
      · exact .inl hk
    · have e1 : thrM a m f = x := by unfold thrM; rw [if_pos h0]; simp only [hx, hg]; rw [if_pos h20]
      have e2 : thrB a m f = castsF g2.k g2.g f.k f.g := by unfold thrB fdAt; rw [if_pos h0]; simp only [hx]; rw [if_pos h20, hg2]
      rw [e1, e2, mvB_old h20 hg2, hz2]; rfl
theorem comp_right {a b : Tb} (ha : rightT a = true) (hb : rightT b = true) (he : a.nw = b.o) (hu : ∀ x ∈ a.mv, U64 x.n) : rightT ⟨a.o, b.nw, thrL a b⟩ = compB a b := by
  rw [Bool.eq_iff_iff, rightT_iff, compB_iff]
  have hlen := (rightT_iff.1 hb).2.2.1
  refine ⟨fun h => ⟨ha, hb, he, fun i m f hm hf => ?_⟩, fun h => ⟨(rightT_iff.1 ha).1, (rightT_iff.1 hb).2.1, ?_, fun i m f hm hf => ?_⟩⟩
  · rw [← thr_may ha hb he hu hm hf]
    exact h.2.2.2 i _ f (thrL_get hm hf) hf
  · show (thrL a b).length = b.nw.length
    rw [thrL_length hlen]; exact hlen
  · have hi : i < b.nw.length := (List.getElem?_eq_some_iff.1 hf).1
    have hm' : b.mv[i]? = some b.mv[i] := List.getElem?_eq_getElem (by omega)
    have e := thrL_get (a := a) hm' hf
    rw [e] at hm; cases hm
    rw [thr_may ha hb he hu hm' hf]
    exact h.2.2.2 i _ f hm' hf
theorem compT_right {a b : Tb} (hu : ∀ x ∈ a.mv, U64 x.n) (h : compE a b = 0) : rightT (compT a b) = true := by
  have hc : compB a b = true := by
    unfold compE at h
    cases hb : compB a b with
    | true => rfl
    | false => rw [hb] at h; simp at h
  unfold compT; rw [hc, if_pos rfl]
  obtain ⟨ha, hb, he, _⟩ := compB_iff.1 hc
  rw [comp_right ha hb he hu]; exact hc
end Go.Proofs.YtaegencmnmjgbaaGreat

namespace Go.Proofs.YtaegencmnmjgbaaGreat
open Go.RowKit
set_option linter.unusedVariables false
structure Ch where
  op : Int
  nm : List UInt8
  to : Fd
  dk : Int
  dn : Int
  dt : ByteArray
  od : List Int
def ed (c : Ch) (k : Option Nat) (i : Nat) (f : Fd) : Fd :=
  if c.op = 3 ∧ k = some i then { f with nm := c.to.nm } else if c.op = 4 ∧ k = some i then { f with k := c.to.k, g := c.to.g } else f
def keepB (c : Ch) (k : Option Nat) (i : Nat) : Bool := !(decide (c.op = 2) && decide (k = some i))
def idxs (c : Ch) (k : Option Nat) (n : Nat) : List Nat := (List.range n).filter (keepB c k)
def newF (l : List Fd) (c : Ch) (k : Option Nat) (n : Nat) : List Fd := (idxs c k n).filterMap fun i => (l[i]?).map (ed c k i)
def mvF (c : Ch) (k : Option Nat) (n : Nat) : List Mv := (idxs c k n).map selfM
def allB (od : List Int) (n : Nat) : Bool := decide (od.length = n) && (List.range n).all fun i => decide (od.count (i : Int) = 1)
def odF (l : List Fd) (od : List Int) : List Fd := od.filterMap fun i => fdAt l i
def odM (od : List Int) : List Mv := od.map fun i => ⟨i, 0, 0, ⟨#[]⟩⟩
def newC (l : List Fd) (c : Ch) : List Fd := if c.op = 1 then newF l c (findN l c.nm) l.length ++ [c.to] else if c.op = 5 then odF l c.od else newF l c (findN l c.nm) l.length
def mvC (l : List Fd) (c : Ch) : List Mv := if c.op = 1 then mvF c (findN l c.nm) l.length ++ [⟨-1, c.dk, c.dn, c.dt⟩] else if c.op = 5 then odM c.od else mvF c (findN l c.nm) l.length
def noCast (l : List Fd) (c : Ch) (k : Option Nat) (n : Nat) : Bool := decide (c.op = 4) && (match k with | some i => decide (i < n) && (match l[i]? with | some f => !castsF f.k f.g c.to.k c.to.g | none => false) | none => false)
def noAdd (c : Ch) : Bool := decide (c.op = 1) && !(rightF c.dk c.dn c.dt.size c.to.k c.to.g && (decide (c.to.k ≠ 11) || decide (c.dn = 0)))
def noOrd (l : List Fd) (c : Ch) : Bool := decide (c.op = 5) && !allB c.od l.length
def mkE (l : List Fd) (c : Ch) : Int :=
  if rightL l = false then 60
  else if c.op < 1 ∨ 5 < c.op then 80
  else if 2 ≤ c.op ∧ c.op ≤ 4 ∧ findN l c.nm = none then 61
  else if noCast l c (findN l c.nm) l.length then 80
  else if noAdd c then 80
  else if noOrd l c then 80
  else if rightL (newC l c) then 0 else 80
def mkT (l : List Fd) (c : Ch) : Tb := if mkE l c = 0 then ⟨l, newC l c, mvC l c⟩ else Tb.none
theorem idxs_succ (c : Ch) (k : Option Nat) (n : Nat) : idxs c k (n + 1) = idxs c k n ++ (if keepB c k n then [n] else []) := by
  unfold idxs
  rw [List.range_succ, List.filter_append]
  congr 1
  cases h : keepB c k n <;> simp [h]
theorem newF_keep {l : List Fd} {c : Ch} {k : Option Nat} {n : Nat} {f : Fd} (hf : l[n]? = some f) (h : keepB c k n = true) : newF l c k (n + 1) = newF l c k n ++ [ed c k n f] := by
  unfold newF; rw [idxs_succ, h]; simp [hf]
theorem newF_drop {l : List Fd} {c : Ch} {k : Option Nat} {n : Nat} (h : keepB c k n = false) : newF l c k (n + 1) = newF l c k n := by
  unfold newF; rw [idxs_succ, h]; simp
theorem mvF_keep {c : Ch} {k : Option Nat} {n : Nat} (h : keepB c k n = true) : mvF c k (n + 1) = mvF c k n ++ [selfM n] := by
  unfold mvF; rw [idxs_succ, h]; simp
theorem mvF_drop {c : Ch} {k : Option Nat} {n : Nat} (h : keepB c k n = false) : mvF c k (n + 1) = mvF c k n := by
  unfold mvF; rw [idxs_succ, h]; simp
theorem idxs_length (c : Ch) (k : Option Nat) (n : Nat) : (idxs c k n).length ≤ n := by
  have := List.length_filter_le (keepB c k) (List.range n); simpa [idxs] using this
theorem idxs_lt {c : Ch} {k : Option Nat} {n : Nat} : ∀ i ∈ idxs c k n, i < n := fun i hi => by
  unfold idxs at hi; rw [List.mem_filter, List.mem_range] at hi; exact hi.1
theorem idxs_all {c : Ch} {k : Option Nat} (h : c.op ≠ 2) (n : Nat) : idxs c k n = List.range n := by
  unfold idxs; rw [List.filter_eq_self]; intro i _; unfold keepB; simp [h]
theorem newF_length (l : List Fd) (c : Ch) (k : Option Nat) (n : Nat) : (newF l c k n).length ≤ n :=
  Nat.le_trans (List.length_filterMap_le _ _) (idxs_length c k n)
theorem newF_length_eq {l : List Fd} {c : Ch} {k : Option Nat} {n : Nat} (hn : n ≤ l.length) : (newF l c k n).length = (idxs c k n).length := by
  induction n with
  | zero => rfl
  | succ n ih =>
    cases h : keepB c k n with
    | true => rw [newF_keep (List.getElem?_eq_getElem (by omega)) h, idxs_succ, h]; simp [ih (by omega)]
    | false => rw [newF_drop h, idxs_succ, h]; simp [ih (by omega)]
theorem mvF_length (c : Ch) (k : Option Nat) (n : Nat) : (mvF c k n).length = (idxs c k n).length := by simp [mvF]
theorem newF_I64 {l : List Fd} {c : Ch} {k : Option Nat} {n : Nat} (P : Fd → Prop) (h : ∀ f ∈ l, ∀ i, P (ed c k i f)) : ∀ f ∈ newF l c k n, P f := fun f hf => by
  unfold newF at hf
  rw [List.mem_filterMap] at hf
  obtain ⟨i, _, hi⟩ := hf
  rw [Option.map_eq_some_iff] at hi
  obtain ⟨g, hg, rfl⟩ := hi
  exact h g (List.mem_of_getElem? hg) i
theorem noCast_succ {l : List Fd} {c : Ch} {k : Option Nat} {n : Nat} (h : noCast l c k n = false) (h2 : ¬ (c.op = 4 ∧ k = some n)) : noCast l c k (n + 1) = false := by
  unfold noCast at *
  by_cases h4 : c.op = 4
  · cases k with
    | none => simp
    | some i =>
      have hne : i ≠ n := fun e => h2 ⟨h4, by rw [e]⟩
      have hd : decide (i < n + 1) = decide (i < n) := by rw [decide_eq_decide]; omega
      simp only [hd]; exact h
  · simp [h4]
theorem noCast_ok {l : List Fd} {c : Ch} {k : Option Nat} {n : Nat} {f : Fd} (h4 : c.op = 4) (hk : k = some n) (hf : l[n]? = some f) (hc : castsF f.k f.g c.to.k c.to.g = true) (m : Nat) : noCast l c k m = false := by
  subst hk; unfold noCast; simp [hf, hc]
theorem noCast_bad {l : List Fd} {c : Ch} {k : Option Nat} {n : Nat} {f : Fd} (h4 : c.op = 4) (hk : k = some n) (hf : l[n]? = some f) (hc : castsF f.k f.g c.to.k c.to.g = false) : noCast l c k l.length = true := by
  subst hk; unfold noCast; dsimp only; rw [hf]; simp [h4, hc, (List.getElem?_eq_some_iff.1 hf).1]
theorem allB_iff {od : List Int} {n : Nat} : allB od n = true ↔ od.length = n ∧ ∀ i : Nat, i < n → od.count (i : Int) = 1 := by
  unfold allB; simp
def inB (n : Nat) (x : Int) : Bool := decide (0 ≤ x) && decide (x < n)
theorem cnt_succ (n : Nat) : ∀ od : List Int, od.countP (inB (n + 1)) = od.countP (inB n) + od.count (n : Int)
  | [] => rfl
  | x :: od => by
    rw [List.countP_cons, List.countP_cons, List.count_cons, cnt_succ n od]
    by_cases h : x = (n : Int)
    · have h1 : inB (n + 1) x = true := by unfold inB; simp [h]; omega
      have h2 : inB n x = false := by unfold inB; simp [h]
      rw [h1, h2]; simp [h]; omega
    · have h1 : inB (n + 1) x = inB n x := by
        unfold inB
        congr 1
        rw [decide_eq_decide]; omega
      have h3 : (x == (n : Int)) = false := by simpa using h
      rw [h1, h3]; simp; omega
theorem cnt_all (od : List Int) : ∀ n : Nat, (∀ i : Nat, i < n → od.count (i : Int) = 1) → od.countP (inB n) = n
  | 0, _ => by
    rw [List.countP_eq_zero]; intro x _; unfold inB; simp
  | n + 1, h => by rw [cnt_succ, cnt_all od n (fun i hi => h i (by omega)), h n (by omega)]
theorem allB_mem {od : List Int} {n : Nat} (h : allB od n = true) : ∀ x ∈ od, 0 ≤ x ∧ x < n := by
  obtain ⟨hl, hc⟩ := allB_iff.1 h
  have h1 := cnt_all od n hc
  rw [← hl] at h1
  intro x hx
  have h2 := List.countP_eq_length.1 h1 x hx
  unfold inB at h2
  simp at h2
  omega
theorem mkT_ok {l : List Fd} {c : Ch} (h : mkE l c = 0) : mkT l c = ⟨l, newC l c, mvC l c⟩ := by unfold mkT; rw [if_pos h]
theorem mkT_no {l : List Fd} {c : Ch} (h : mkE l c ≠ 0) : mkT l c = Tb.none := by unfold mkT; rw [if_neg h]
end Go.Proofs.YtaegencmnmjgbaaGreat
