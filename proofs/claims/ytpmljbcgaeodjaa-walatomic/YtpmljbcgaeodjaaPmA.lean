/-
  A device in memory, and the contracts of pmem's functions that only make or read: device, New, Len, Bytes, holds, span, word, Read.
-/
import Derived.Test.YtpmljbcgaeodjaaPmMap
import Derived.Lib.SliceRun
namespace Go.Proofs.Ytpmljbcgaeodjaa
open Go.RowKit Go.Maps
set_option linter.unusedVariables false

/-- A word as a value. -/
def arr (x : List UInt8) : Value := .agg (x.map bv).toArray
def lfun (L : Int → Option (List UInt8)) : Int → Option Value := fun k => (L k).map arr
def ffun (F : Int → Bool) : Int → Option Value := fun k => if F k then some (.bool true) else none

/-- Block g is a row of bytes that begins with S. -/
def Row (w : World) (g cap : Nat) (S : List UInt8) : Prop :=
  ∃ cur : Array Value, w.heap[g]? = some (.cells cur 5 (0, 0)) ∧ cur.size = cap ∧ S.length ≤ cap ∧ cap ≤ maxLen ∧ cur.toList.take S.length = S.map bv

/-- The device at block d: what is seen, what is loose (with what it was), what is flushed; all its blocks lie from B on. -/
structure Dev (w : World) (B d g cap lb fb : Nat) (S : List UInt8) (L : Int → Option (List UInt8)) (F : Int → Bool) : Prop where
  hd : w.heap[d]? = some (.cells #[.slice (some ⟨g, 0, none⟩) S.length cap, .map (some lb), .map (some fb)] 85 (0, 0))
  Bd : B ≤ d
  Bg : B ≤ g
  Bl : B ≤ lb
  Bf : B ≤ fb
  ne : lb ≠ fb
  row : Row w g cap S
  loose : ∃ n, Mp w lb n (lfun L)
  flush : ∃ n, Mp w fb n (ffun F)
  len : S.length % 8 = 0 ∧ S.length ≤ 65536
  keyL : ∀ k x, L k = some x → 0 ≤ k ∧ k * 8 + 8 ≤ S.length ∧ x.length = 8
  keyF : ∀ k, F k = true → 0 ≤ k ∧ k * 8 + 8 ≤ S.length

section
variable {w w' : World} {B d g cap lb fb : Nat} {S : List UInt8} {L : Int → Option (List UInt8)} {F : Int → Bool}
theorem Row.lt (h : Row w g cap S) : g < w.heap.size := by obtain ⟨cur, h1, _⟩ := h; exact row_lt h1
theorem Row.cong (h : Row w g cap S) (e : w'.heap[g]? = w.heap[g]?) : Row w' g cap S := by obtain ⟨cur, h1, h2⟩ := h; exact ⟨cur, e.trans h1, h2⟩
theorem Row.rd (h : Row w g cap S) : Rd w w.heap.size (some ⟨g, 0, none⟩) S.length cap S := by
  have hlt := h.lt
  obtain ⟨cur, hg, hs, hc, hm, ht⟩ := h
  refine ⟨rfl, hc, hm, by simp, fun _ => ⟨g, 0, rfl, hlt, fun i hi => ?_⟩⟩
  rw [Nat.zero_add, row_cell hg]
  have h2 : (cur.toList.take S.length)[i]? = some (bv S[i]) := by rw [ht]; simp [hi]
  rw [List.getElem?_take_of_lt hi] at h2
  simpa using h2
theorem Dev.dlt (h : Dev w B d g cap lb fb S L F) : d < w.heap.size := row_lt h.hd
theorem Dev.glt (h : Dev w B d g cap lb fb S L F) : g < w.heap.size := h.row.lt
theorem Dev.llt (h : Dev w B d g cap lb fb S L F) : lb < w.heap.size := by obtain ⟨n, hm⟩ := h.loose; exact hm.lt
theorem Dev.flt (h : Dev w B d g cap lb fb S L F) : fb < w.heap.size := by obtain ⟨n, hm⟩ := h.flush; exact hm.lt
theorem Dev.cong (h : Dev w B d g cap lb fb S L F) (e1 : w'.heap[d]? = w.heap[d]?) (e2 : w'.heap[g]? = w.heap[g]?) (e3 : w'.heap[lb]? = w.heap[lb]?) (e4 : w'.heap[fb]? = w.heap[fb]?) : Dev w' B d g cap lb fb S L F :=
  { h with hd := e1.trans h.hd, row := h.row.cong e2, loose := by obtain ⟨n, hm⟩ := h.loose; exact ⟨n, hm.cong e3⟩, flush := by obtain ⟨n, hm⟩ := h.flush; exact ⟨n, hm.cong e4⟩ }
/-- Behind a call that leaves all that was there. -/
theorem Dev.on (h : Dev w B d g cap lb fb S L F) (hb : Below w.heap.size w w') : Dev w' B d g cap lb fb S L F :=
  h.cong (hb.block d h.dlt) (hb.block g h.glt) (hb.block lb h.llt) (hb.block fb h.flt)
theorem Dev.alloc (h : Dev w B d g cap lb fb S L F) (o : Obj) : Dev (w.alloc o) B d g cap lb fb S L F := h.on (B1 w o)
theorem Dev.drew (h : Dev w B d g cap lb fb S L F) : Dev w.drew B d g cap lb fb S L F := h.cong rfl rfl rfl rfl
theorem Dev.less {B' : Nat} (h : Dev w B d g cap lb fb S L F) (hB : B' ≤ B) : Dev w B' d g cap lb fb S L F :=
  { h with Bd := Nat.le_trans hB h.Bd, Bg := Nat.le_trans hB h.Bg, Bl := Nat.le_trans hB h.Bl, Bf := Nat.le_trans hB h.Bf }
theorem Dev.c0 (h : Dev w B d g cap lb fb S L F) : w.cell? ⟨d, 0, none⟩ = some (.slice (some ⟨g, 0, none⟩) S.length cap) := by rw [row_cell h.hd]; rfl
theorem Dev.c1 (h : Dev w B d g cap lb fb S L F) : w.cell? ⟨d, 1, none⟩ = some (.map (some lb)) := by rw [row_cell h.hd]; rfl
theorem Dev.c2 (h : Dev w B d g cap lb fb S L F) : w.cell? ⟨d, 2, none⟩ = some (.map (some fb)) := by rw [row_cell h.hd]; rfl
theorem Dev.rd (h : Dev w B d g cap lb fb S L F) : Rd w w.heap.size (some ⟨g, 0, none⟩) S.length cap S := h.row.rd
end

theorem device_any (g n cap : Nat) (w : World) :
    Calls Try.prog 24 #[.slice (some ⟨g, 0, none⟩) n cap] w fun e w' => e = .returned (.pointer (some ⟨w.heap.size + 2, 0, none⟩)) ∧
      w' = ((w.alloc (.map #[] 0)).alloc (.map #[] 0)).alloc (.cells #[.slice (some ⟨g, 0, none⟩) n cap, .map (some w.heap.size), .map (some (w.heap.size + 1))] 85) := by
  have hmm := @run_makeMap Try.prog
  go_enter Try.func24, Try.ntmps24
  go_wp2
  go_ret
  exact ⟨rfl, rfl⟩

theorem dev_new (w : World) (B g cap : Nat) (S : List UInt8) (hr : Row w g cap S) (hB : B ≤ g) (hBw : B ≤ w.heap.size) (hl : S.length % 8 = 0 ∧ S.length ≤ 65536) :
    Dev (((w.alloc (.map #[] 0)).alloc (.map #[] 0)).alloc (.cells #[.slice (some ⟨g, 0, none⟩) S.length cap, .map (some w.heap.size), .map (some (w.heap.size + 1))] 85)) B (w.heap.size + 2) g cap w.heap.size (w.heap.size + 1) S (fun _ => none) (fun _ => false) := by
  have hg := hr.lt
  refine ⟨?_, by omega, hB, hBw, by omega, by omega, ?_, ⟨0, ?_⟩, ⟨0, ?_⟩, hl, (fun k x h => by cases h), (fun k h => by cases h)⟩
  · have := heap_alloc_new ((w.alloc (.map #[] 0)).alloc (.map #[] 0)) (.cells #[.slice (some ⟨g, 0, none⟩) S.length cap, .map (some w.heap.size), .map (some (w.heap.size + 1))] 85)
    simpa using this
  · have h1 := (B1 w (.map #[] 0)); have h2 := Ba h1 (.map #[] 0); have h3 := Ba h2 (.cells #[.slice (some ⟨g, 0, none⟩) S.length cap, .map (some w.heap.size), .map (some (w.heap.size + 1))] 85)
    exact hr.cong (h3.block g hg)
  · exact ((Mp.made w).alloc _).alloc _
  · have := (Mp.made (w.alloc (.map #[] 0))).alloc (.cells #[.slice (some ⟨g, 0, none⟩) S.length cap, .map (some w.heap.size), .map (some (w.heap.size + 1))] 85)
    have e : (ffun fun _ => false) = fun _ => none := by funext k; simp [ffun]
    rw [e]
    simpa using this

def zeros (n : Nat) : List UInt8 := List.replicate n 0
theorem zeros_length (n : Nat) : (zeros n).length = n := by simp [zeros]

set_option maxHeartbeats 400000 in
theorem new_ok (k : Int) (m : Nat) (hm : (m : Int) = k * 8) (h0 : 0 ≤ k) (h1 : k ≤ 8192) (w : World) :
    Calls Try.prog 8 #[.int .i64 k] w fun e w' => ∃ d g lb fb, e = .returned (.tuple #[.pointer (some ⟨d, 0, none⟩), .int .i64 0]) ∧ Dev w' w.heap.size d g m lb fb (zeros m) (fun _ => none) (fun _ => false) ∧ Below w.heap.size w w' := by
  have hmk := run_make8 m (k * 8) hm.symm (by omega)
  go_enter Try.func8, Try.ntmps8
  go_wp2_with fail
  refine (device_any _ _ _ _).mono ?_
  rintro e w1 ⟨rfl, rfl⟩
  go_wp2_with fail
  go_ret2
  refine ⟨w.heap.size + 1 + 2, w.heap.size, w.heap.size + 1, w.heap.size + 1 + 1, rfl, ?_, ?_⟩
  · have hr : Row (w.alloc (.cells (zrow m).toArray 5)) w.heap.size m (zeros m) :=
      ⟨_, heap_alloc_new w _, by simp [zrow], by simp [zeros], by unfold maxLen; omega, by simp [zrow, zeros]⟩
    have := dev_new _ w.heap.size w.heap.size m (zeros m) hr (Nat.le_refl _) (by simp) (by rw [zeros_length]; omega)
    simpa [zeros_length] using this
  · exact Ba (Ba (Ba (B1 w _) _) _) _

theorem new_bad (k : Int) (hk : k < 0 ∨ 8192 < k) (w : World) :
    Calls Try.prog 8 #[.int .i64 k] w fun e w' => e = .returned (.tuple #[.pointer none, .int .i64 1]) ∧ w' = w := by
  go_enter Try.func8, Try.ntmps8
  by_cases h : k < 0
  · go_wp2
    go_ret2
    exact ⟨rfl, rfl⟩
  · have h2 : 8192 < k := by omega
    go_wp2
    go_ret2
    exact ⟨rfl, rfl⟩

section
variable {w : World} {B d g cap lb fb : Nat} {S : List UInt8} {L : Int → Option (List UInt8)} {F : Int → Bool}
theorem len_any (h : Dev w B d g cap lb fb S L F) :
    Calls Try.prog 46 #[.pointer (some ⟨d, 0, none⟩)] w fun e w' => e = .returned (.int .i64 S.length) ∧ w' = w := by
  have hc := h.c0
  go_enter Try.func46, Try.ntmps46
  go_wp2
  go_ret
  exact ⟨rfl, rfl⟩

/-- What is amiss with so many bytes. -/
def hE (n at_ long : Int) : Int := if long < 0 then 1 else if at_ < 0 ∨ n - at_ < long then 30 else 0

set_option maxHeartbeats 400000 in
theorem dholds_any (h : Dev w B d g cap lb fb S L F) (at_ long : Int) (ha : I64 at_) (hl : I64 long) :
    Calls Try.prog 44 #[.pointer (some ⟨d, 0, none⟩), .int .i64 at_, .int .i64 long] w fun e w' => e = .returned (.int .i64 (hE S.length at_ long)) ∧ w' = w := by
  have ha2 := i64_iff.1 ha; have hl2 := i64_iff.1 hl
  have hlen := h.len.2
  obtain ⟨n, hn⟩ : ∃ n : Int, n = S.length := ⟨_, rfl⟩
  have hn2 : 0 ≤ n ∧ n ≤ 65536 := by omega
  have cl := len_any h
  rw [← hn] at cl ⊢
  have HC := hid cl
  clear h hlen hn cl ha hl
  go_enter Try.func44, Try.ntmps44
  by_cases h1 : long < 0
  · go_wp2_with fail
    go_ret
    exact ⟨by simp [hE, h1], rfl⟩
  · by_cases h2 : at_ < 0
    · go_wp2_with fail
      go_ret
      exact ⟨by unfold hE; rw [if_neg (by omega), if_pos (.inl h2)]; rfl, rfl⟩
    · go_wp2_with fail
      refine HC.out.mono ?_
      rintro e w1 ⟨rfl, rfl⟩
      by_cases h3 : n - at_ < long
      · go_wp2_with fail
        go_ret
        exact ⟨by unfold hE; rw [if_neg (by omega), if_pos (.inr h3)]; rfl, rfl⟩
      · go_wp2_with fail
        go_ret
        exact ⟨by unfold hE; rw [if_neg (by omega), if_neg (by omega)]; rfl, rfl⟩
end

/-- The first word, and the one behind the last. -/
def spA (at_ long : Int) : Int := if long = 0 then 0 else at_ / 8
def spB (at_ long : Int) : Int := if long = 0 then 0 else (at_ + long - 1) / 8 + 1

set_option maxHeartbeats 400000 in
theorem span_any (at_ long : Int) (h0 : 0 ≤ at_) (h1 : 0 ≤ long) (h2 : at_ + long ≤ 65536) (w : World) :
    Calls Try.prog 45 #[.int .i64 at_, .int .i64 long] w fun e w' => e = .returned (.tuple #[.int .i64 (spA at_ long), .int .i64 (spB at_ long)]) ∧ w' = w := by
  go_enter Try.func45, Try.ntmps45
  by_cases h : long = 0
  · go_wp2
    go_ret2
    exact ⟨by simp [spA, spB, h], rfl⟩
  · go_wp2
    go_ret2
    refine ⟨?_, rfl⟩
    simp [spA, spB, h]

section
variable {w : World} {B d g cap lb fb : Nat} {S : List UInt8} {L : Int → Option (List UInt8)} {F : Int → Bool}
set_option maxHeartbeats 400000 in
theorem word_any (h : Dev w B d g cap lb fb S L F) (n : Int) (m : Nat) (hm : (m : Int) = n * 8) (h8 : m + 8 ≤ S.length) :
    Calls Try.prog 40 #[.pointer (some ⟨d, 0, none⟩), .int .i64 n] w fun e w' => e = .returned (.slice (some ⟨g, m, none⟩) 8 (cap - m)) ∧ w' = w := by
  have hc := h.c0
  have hl := h.len.2
  obtain ⟨cur, _, _, hcap, hmax, _⟩ := h.row
  obtain ⟨x, hx⟩ : ∃ x : Int, x = n * 8 := ⟨_, rfl⟩
  have hn : n * 8 = x := hx.symm
  have hxm : x.toNat = m := by omega
  obtain ⟨C, hC⟩ : ∃ C : Int, C = cap := ⟨_, rfl⟩
  have h0 : 0 ≤ x := by omega
  have h1 : x ≤ 65536 := by omega
  have h2 : x + 8 ≤ cap := by omega
  have hcm : m + 8 ≤ cap := by omega
  have hN2 := hid hcap; have hm2 := hid hm; have hX := hid hxm
  obtain ⟨N, hN⟩ : ∃ N, N = S.length := ⟨_, rfl⟩
  rw [← hN] at hc
  clear h hN hx hl hmax hm h8 hC hcap hxm
  go_enter Try.func40, Try.ntmps40
  go_wp2
  go_ret
  have e1 := hX.out
  refine ⟨?_, rfl⟩
  show Ending.returned (Value.slice (some ⟨g, x.toNat, none⟩) ((x + 8).toNat - x.toNat) (cap - x.toNat)) = _
  rw [e1, show (x + 8).toNat - m = 8 by omega]

/-- bytes.Clone of bytes that are not nil. -/
theorem bclone_any (ad : Addr) (n c : Nat) (l : List UInt8) (w : World) (h : Rd w w.heap.size (some ad) n c l) (hm : n ≤ 1000000) :
    Calls Try.prog 36 #[.slice (some ad) n c] w fun e w' => ∃ v, e = .returned v ∧ Own w' w.heap.size v l ∧ v ≠ .slice none 0 0 ∧ Below w.heap.size w w' := by
  have hq := fun W => Lib.run_eql_slice_nil (P := Try.prog) W 35 5 (some ad) n c 0 0 Try.underlying35
  have H := hid h; clear h
  go_enter Try.func36, Try.ntmps36
  go_wp2_with (at_builtin; refine wpList_append8 rfl (.tmp 5) (.tmp 6) rfl rfl (own_new w [] 0 rfl (by unfold maxLen; omega)) rfl (H.out.on (B1 _ _)) (by simp) (by simp; omega) ?_; intro v' w' how hgr hnil)
  go_ret
  refine ⟨_, rfl, by simpa using how, (fun e => by have := hnil e; cases this), ?_⟩
  have hg : (w.alloc (Obj.cells #[] 5)).grownBy w' (some w.heap.size) := hgr
  exact (B1 w (Obj.cells #[] 5)).grown hg (by simp) (fun k hk => by cases hk; exact Nat.le_refl _)

theorem bytes_any (h : Dev w B d g cap lb fb S L F) :
    Calls Try.prog 18 #[.pointer (some ⟨d, 0, none⟩)] w fun e w' => ∃ v, e = .returned v ∧ Own w' w.heap.size v S ∧ Below w.heap.size w w' := by
  have hc := h.c0
  have hcl := bclone_any _ _ _ S w h.rd (by have := h.len.2; omega)
  have H := hid hcl; clear h hcl
  obtain ⟨N, hN⟩ : ∃ N, N = S.length := ⟨_, rfl⟩
  rw [← hN] at hc H
  clear hN
  go_enter Try.func18, Try.ntmps18
  go_wp2_with fail
  refine H.out.mono ?_
  rintro e w1 ⟨v, rfl, ho, hn, hb⟩
  have HO := hid ho; clear ho hn
  go_wp2_with fail
  go_ret
  exact ⟨v, rfl, HO.out, hb⟩

theorem hE_ok {n a l : Int} (h : hE n a l = 0) : 0 ≤ a ∧ 0 ≤ l ∧ a + l ≤ n := by
  unfold hE at h; split at h
  · omega
  · split at h <;> omega

set_option maxHeartbeats 400000 in
theorem read_ok (h : Dev w B d g cap lb fb S L F) (at_ long : Int) (ha : I64 at_) (hl : I64 long) (he : hE S.length at_ long = 0) :
    Calls Try.prog 22 #[.pointer (some ⟨d, 0, none⟩), .int .i64 at_, .int .i64 long] w fun e w' => ∃ v, e = .returned (.tuple #[v, .int .i64 0]) ∧ Own w' w.heap.size v ((S.drop at_.toNat).take long.toNat) ∧ Below w.heap.size w w' := by
  have hc := h.c0
  have hlen := h.len.2
  have hh := dholds_any h at_ long ha hl
  rw [he] at hh
  obtain ⟨h0, h1, h2⟩ := hE_ok he
  have hrd := h.rd
  obtain ⟨cur, _, _, hcap, hmax, _⟩ := h.row
  have hr2 := (hrd.drop (k := at_.toNat) (by omega)).take (m := long.toNat) (by omega)
  have h3 : at_ + long ≤ 65536 := by omega
  have h4 : at_ + long ≤ cap := by omega
  have HH := hid hh; have HR := hid hr2; have HC := hid hcap
  obtain ⟨N, hN⟩ : ∃ N, N = S.length := ⟨_, rfl⟩
  rw [← hN] at hc
  have HE : Hid ((at_ + long).toNat - at_.toNat = long.toNat) := show _ = _ by omega
  have HM : Hid (long.toNat ≤ 1000000) := show _ ≤ _ by omega
  clear h hN hlen he hh hrd hr2 hmax hcap ha hl h2
  by_cases hq : cap = at_.toNat
  · subst hq
    rw [if_pos rfl, Nat.sub_self] at HR
    go_enter Try.func22, Try.ntmps22
    go_wp2_with fail
    refine HH.out.mono ?_
    rintro e w1 ⟨rfl, rfl⟩
    go_wp2_with fail
    rw [HE.out]
    refine (bclone_any _ _ _ _ _ HR.out HM.out).mono ?_
    rintro e w2 ⟨v, rfl, ho, hn, hb⟩
    have HO := hid ho; clear ho hn
    go_wp2_with fail
    go_ret2
    exact ⟨v, rfl, HO.out, hb⟩
  · rw [if_neg hq] at HR
    simp only [Option.map_some, add_plain, Nat.zero_add] at HR
    go_enter Try.func22, Try.ntmps22
    go_wp2_with fail
    refine HH.out.mono ?_
    rintro e w1 ⟨rfl, rfl⟩
    go_wp2_with fail
    rw [HE.out]
    refine (bclone_any _ _ _ _ _ HR.out HM.out).mono ?_
    rintro e w2 ⟨v, rfl, ho, hn, hb⟩
    have HO := hid ho; clear ho hn
    go_wp2_with fail
    go_ret2
    exact ⟨v, rfl, HO.out, hb⟩

set_option maxHeartbeats 400000 in
theorem read_bad (h : Dev w B d g cap lb fb S L F) (at_ long : Int) (ha : I64 at_) (hl : I64 long) (he : hE S.length at_ long ≠ 0) :
    Calls Try.prog 22 #[.pointer (some ⟨d, 0, none⟩), .int .i64 at_, .int .i64 long] w fun e w' => e = .returned (.tuple #[.slice none 0 0, .int .i64 (hE S.length at_ long)]) ∧ w' = w := by
  have hh := dholds_any h at_ long ha hl
  obtain ⟨x, hx⟩ : ∃ x, x = hE S.length at_ long := ⟨_, rfl⟩
  rw [← hx] at hh he ⊢
  have HH := hid hh
  clear h hh hx ha hl
  go_enter Try.func22, Try.ntmps22
  go_wp2_with fail
  refine HH.out.mono ?_
  rintro e w1 ⟨rfl, rfl⟩
  go_wp2_with fail
  go_ret2
  exact ⟨rfl, rfl⟩
end
end Go.Proofs.Ytpmljbcgaeodjaa
