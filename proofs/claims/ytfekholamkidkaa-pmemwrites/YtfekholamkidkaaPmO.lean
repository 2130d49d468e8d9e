/-
  Scripts of calls in memory, and the contracts of few, does and made.
-/
import Derived.Test.YtfekholamkidkaaPmL
namespace Go.Proofs.Ytfekholamkidkaa
open Go.RowKit Go.Maps Go.Sort
set_option linter.unusedVariables false

/-- A call of a script. -/
structure OpV where
  kind : Int
  at_ : Int
  long : Int
  ab : Option Addr
  nb : Nat
  cb : Nat
  bs : List UInt8
  ak : Option Addr
  nk : Nat
  ck : Nat
  ks : List Int
def OpV.ok (w : World) (B : Nat) (o : OpV) : Prop := I64 o.kind ∧ I64 o.at_ ∧ I64 o.long ∧ Rd w B o.ab o.nb o.cb o.bs ∧ RdI w B o.ak o.nk o.ck o.ks
def OpV.val (o : OpV) : Value := .agg #[.int .i64 o.kind, .int .i64 o.at_, .int .i64 o.long, .slice o.ab o.nb o.cb, .slice o.ak o.nk o.ck]
theorem OpV.ok.below {w w' : World} {B : Nat} {o : OpV} (h : o.ok w B) (hb : Below B w w') : o.ok w' B := ⟨h.1, h.2.1, h.2.2.1, h.2.2.2.1.below hb, h.2.2.2.2.below hb⟩
theorem OpV.ok.more {w : World} {B B' : Nat} {o : OpV} (h : o.ok w B) (hb : B ≤ B') : o.ok w B' := ⟨h.1, h.2.1, h.2.2.1, h.2.2.2.1.more hb, h.2.2.2.2.more hb⟩

def OpC (w : World) (b off : Nat) (o : OpV) : Prop :=
  w.cell? ⟨b, off, none⟩ = some (.int .i64 o.kind) ∧ w.cell? ⟨b, off + 1, none⟩ = some (.int .i64 o.at_) ∧ w.cell? ⟨b, off + 2, none⟩ = some (.int .i64 o.long) ∧
    w.cell? ⟨b, off + 3, none⟩ = some (.slice o.ab o.nb o.cb) ∧ w.cell? ⟨b, off + 4, none⟩ = some (.slice o.ak o.nk o.ck)
/-- A slice of calls. -/
def RdO (w : World) (B : Nat) (A : Option Addr) (n cap : Nat) (l : List OpV) : Prop :=
  l.length = n ∧ n ≤ cap ∧ cap ≤ maxLen ∧ (∀ o ∈ l, o.ok w B) ∧ (0 < n → ∃ b off, A = some ⟨b, off, none⟩ ∧ b < B ∧ ∀ i (h : i < l.length), OpC w b (off + i * 5) l[i])
theorem OpC.below {w w' : World} {B b off : Nat} {o : OpV} (h : OpC w b off o) (hb : Below B w w') (hlt : b < B) : OpC w' b off o :=
  ⟨(hb.cell (p := ⟨b, off, none⟩) hlt).trans h.1, (hb.cell (p := ⟨b, off + 1, none⟩) hlt).trans h.2.1, (hb.cell (p := ⟨b, off + 2, none⟩) hlt).trans h.2.2.1, (hb.cell (p := ⟨b, off + 3, none⟩) hlt).trans h.2.2.2.1, (hb.cell (p := ⟨b, off + 4, none⟩) hlt).trans h.2.2.2.2⟩
theorem RdO.below {w w' : World} {B n cap : Nat} {A : Option Addr} {l : List OpV} (h : RdO w B A n cap l) (hb : Below B w w') : RdO w' B A n cap l :=
  ⟨h.1, h.2.1, h.2.2.1, fun o ho => (h.2.2.2.1 o ho).below hb, fun hn => by
    obtain ⟨b, off, e, hlt, hc⟩ := h.2.2.2.2 hn
    exact ⟨b, off, e, hlt, fun i hi => (hc i hi).below hb hlt⟩⟩
theorem RdO.more {w : World} {B B' n cap : Nat} {A : Option Addr} {l : List OpV} (h : RdO w B A n cap l) (hB : B ≤ B') : RdO w B' A n cap l :=
  ⟨h.1, h.2.1, h.2.2.1, fun o ho => (h.2.2.2.1 o ho).more hB, fun hn => by
    obtain ⟨b, off, e, hlt, hc⟩ := h.2.2.2.2 hn
    exact ⟨b, off, e, by omega, hc⟩⟩
theorem RdO.on {w w' : World} {n cap : Nat} {A : Option Addr} {l : List OpV} (h : RdO w w.heap.size A n cap l) (hb : Below w.heap.size w w') : RdO w' w'.heap.size A n cap l := (h.below hb).more hb.size

def isB (v : Value) : Prop := ∃ b, v = .bool b

set_option maxHeartbeats 1000000 in
theorem few_any {w : World} {A : Option Addr} {n c : Nat} {l : List OpV} (h : RdO w w.heap.size A n c l) :
    Calls Try.prog 20 #[.slice A n c] w fun e w' => ∃ v, e = .returned v ∧ isB v ∧ Below w.heap.size w w' := by
  have HL := hid h.1; have HCm := hid (Nat.le_trans h.2.1 h.2.2.1)
  have H := hid h; clear h
  go_enter Try.func20, Try.ntmps20
  go_wp2_with fail
  go_loopw [3, 8] (fun s i wr => ∃ (j : Nat) (z : Int), j ≤ n ∧ i = .int .i64 j ∧ s = .int .i64 z ∧ Hid (Below w.heap.size w wr)) (fun _ i _ => n - (intOf i).toNat)
  case atStart => exact ⟨0, 0, by omega, rfl, rfl, B0 w⟩
  case round =>
    obtain ⟨j, z, hj, rfl, rfl, hb⟩ := hrel
    by_cases hlt : j < n
    · obtain ⟨b, off, rfl, hbl, hc⟩ := H.out.2.2.2.2 (by omega)
      have hjl : j < l.length := by have := HL.out; omega
      have hjb : (j : Int) + 1 ≤ 9223372036854775807 := by have := HCm.out; unfold maxLen at this; omega
      obtain ⟨c0, c1, c2, c3, c4⟩ := (hc j hjl).below hb.out hbl
      generalize l[j] = o at c0 c1 c2 c3 c4
      obtain ⟨kind, at_, long, ab, nb, cb, bs, ak, nk, ck, ks⟩ := o
      simp only at c0 c1 c2 c3 c4
      clear hc hjl
      go_wp2_with fail
      exact ⟨⟨j + 1, _, by omega, by go_num, rfl, Ba hb.out _⟩, by simp [intOf]; omega⟩
    · obtain rfl : j = n := by omega
      by_cases h80 : (j : Int) ≤ 80
      · go_wp2_with fail
        go_ret
        exact ⟨_, rfl, ⟨_, rfl⟩, hb.out⟩
      · go_wp2_with fail
        go_ret
        exact ⟨_, rfl, ⟨_, rfl⟩, hb.out⟩

set_option maxHeartbeats 2000000 in
theorem does_any {w : World} {B d g cap lb fb : Nat} {S : List UInt8} {L : Int → Option (List UInt8)} {F : Int → Bool} (h : Dev w B d g cap lb fb S L F) (o : OpV) (ho : o.ok w w.heap.size) :
    Calls Try.prog 21 #[.pointer (some ⟨d, 0, none⟩), o.val] w fun e w' => ∃ v, e = .returned v ∧ ∃ S' L' F', Dev w' B d g cap lb fb S' L' F' ∧ S'.length = S.length ∧ Below B w w' := by
  obtain ⟨kind, at_, long, ab, nb, cb, bs, ak, nk, ck, ks⟩ := o
  obtain ⟨hk, ha, hl, hb, hkk⟩ := ho
  simp only at hk ha hl hb hkk
  unfold OpV.val
  have HB : Hid (B ≤ w.heap.size) := show _ ≤ _ by have := h.Bd; have := h.dlt; omega
  obtain ⟨ob, hob⟩ : ∃ ob : Obj, ob = .cells #[.int .i64 kind, .int .i64 at_, .int .i64 long, .slice ab nb cb, .slice ak nk ck] 35 := ⟨_, rfl⟩
  have HD1 := hid (h.alloc ob)
  have HR := hid (hb.on (B1 w ob)); have HK := hid (hkk.on (B1 w ob)); have HA := hid ha; have HLg := hid hl
  have HBB : Hid (Below B w (w.alloc ob)) := Below.alloc (Below.refl _ _) HB.out _
  have HNB : Hid (I64 nb) := i64_iff.2 (by have := Nat.le_trans hb.2.1 hb.2.2.1; unfold maxLen at this; omega)
  rw [hob] at HD1 HR HK HBB
  clear h hb hkk ha hl hk hob
  by_cases k0 : kind = 0
  · subst k0
    by_cases he : hE S.length at_ nb = 0
    · go_enter Try.func21, Try.ntmps21
      go_wp2_with fail
      refine (write_ok HD1.out at_ HA.out HR.out he).mono ?_
      rintro e w1 ⟨rfl, hd1, hf1⟩
      have HD2 := hid hd1; have HF := hid hf1; clear hd1 hf1
      go_wp2_with fail
      go_ret2
      exact ⟨_, rfl, _, _, _, HD2.out, setL_length _ _ _ (by have := hE_ok he; have := HR.out.1; omega), HBB.out.trans (HD1.out.below HF.out)⟩
    · go_enter Try.func21, Try.ntmps21
      go_wp2_with fail
      refine (write_bad HD1.out at_ HA.out HNB.out he).mono ?_
      rintro e w1 ⟨rfl, rfl⟩
      go_wp2_with fail
      go_ret2
      exact ⟨_, rfl, _, _, _, HD1.out, rfl, HBB.out⟩
  by_cases k1 : kind = 1
  · subst k1
    by_cases he : hE S.length at_ long = 0
    · go_enter Try.func21, Try.ntmps21
      go_wp2_with fail
      refine (read_ok HD1.out at_ long HA.out HLg.out he).mono ?_
      rintro e w1 ⟨v, rfl, ho, hb1⟩
      obtain ⟨A, c, hv, hr⟩ := ho.rd
      have hcv := hr.conv
      rw [← hv] at hcv
      have HB1 := hid hb1
      clear ho hv hr hb1 k0
      go_wp2_with fail
      go_ret2
      exact ⟨_, rfl, _, _, _, HD1.out.on HB1.out, rfl, HBB.out.trans (HB1.out.mono (by have := HB.out; simp; omega))⟩
    · have hcv : ∀ W, (convert 28 9 (.slice none 0 0)).run Try.prog W = .ok (.string ⟨#[]⟩) W := fun W => (Rd.nil W 0).conv
      go_enter Try.func21, Try.ntmps21
      go_wp2_with fail
      refine (read_bad HD1.out at_ long HA.out HLg.out he).mono ?_
      rintro e w1 ⟨rfl, rfl⟩
      go_wp2_with fail
      go_ret2
      exact ⟨_, rfl, _, _, _, HD1.out, rfl, HBB.out⟩
  by_cases k2 : kind = 2
  · subst k2
    by_cases he : hE S.length at_ long = 0
    · go_enter Try.func21, Try.ntmps21
      go_wp2_with fail
      refine (flush_ok HD1.out at_ long HA.out HLg.out he).mono ?_
      rintro e w1 ⟨rfl, hd1, hf1⟩
      have HD2 := hid hd1; have HF := hid hf1; clear hd1 hf1
      go_wp2_with fail
      go_ret2
      exact ⟨_, rfl, _, _, _, HD2.out, rfl, HBB.out.trans (HD1.out.below HF.out)⟩
    · go_enter Try.func21, Try.ntmps21
      go_wp2_with fail
      refine (flush_bad HD1.out at_ long HA.out HLg.out he).mono ?_
      rintro e w1 ⟨rfl, rfl⟩
      go_wp2_with fail
      go_ret2
      exact ⟨_, rfl, _, _, _, HD1.out, rfl, HBB.out⟩
  by_cases k3 : kind = 3
  · subst k3
    go_enter Try.func21, Try.ntmps21
    go_wp2_with fail
    refine (fence_any HD1.out).mono ?_
    rintro e w1 ⟨rfl, hd1, hf1⟩
    have HD2 := hid hd1; have HF := hid hf1; clear hd1 hf1
    go_wp2_with fail
    go_ret2
    exact ⟨_, rfl, _, _, _, HD2.out, rfl, HBB.out.trans (HD1.out.below HF.out)⟩
  by_cases k4 : kind = 4
  · subst k4
    go_enter Try.func21, Try.ntmps21
    go_wp2_with fail
    refine (crash_any HD1.out HK.out).mono ?_
    rintro e w1 ⟨rfl, hd1, hf1⟩
    have HD2 := hid hd1; have HF := hid hf1; clear hd1 hf1
    go_wp2_with fail
    go_ret2
    exact ⟨_, rfl, _, _, _, HD2.out, crS_length _ _ _, HBB.out.trans (HD1.out.below HF.out)⟩
  go_enter Try.func21, Try.ntmps21
  go_wp2_with fail
  go_ret2
  exact ⟨_, rfl, _, _, _, HD1.out, rfl, HBB.out⟩

/-- A value that is a device behind a script, or none. -/
def Made (w w' : World) (e : Ending) : Prop :=
  (e = .returned (.tuple #[.pointer none, .bool false]) ∧ Below w.heap.size w w') ∨
  ∃ d g cap lb fb S L F, e = .returned (.tuple #[.pointer (some ⟨d, 0, none⟩), .bool true]) ∧ Dev w' w.heap.size d g cap lb fb S L F ∧ S.length = 80 ∧ Below w.heap.size w w'

set_option maxHeartbeats 2000000 in
theorem made_any {w : World} {A : Option Addr} {n c : Nat} {l : List OpV} (h : RdO w w.heap.size A n c l) :
    Calls Try.prog 13 #[.int .i64 10, .slice A n c] w fun e w' => Made w w' e := by
  have HL := hid h.1; have HCm := hid (Nat.le_trans h.2.1 h.2.2.1)
  have H := hid h; clear h
  go_enter Try.func13, Try.ntmps13
  go_wp2_with fail
  refine (new_ok 10 80 (by decide) (by decide) (by decide) _).mono ?_
  rintro e w1 ⟨d, g, lb, fb, rfl, hd1, hb1⟩
  have HD1 := hid hd1; have HB1 := hid hb1; clear hd1 hb1
  go_wp2_with fail
  refine (few_any (H.out.on HB1.out)).mono ?_
  rintro e w2 ⟨v, rfl, ⟨b, rfl⟩, hb2⟩
  have HD2 := hid (HD1.out.on hb2); have HB2 := hid (Bt HB1.out hb2); clear hb2 HD1 HB1
  cases b with
  | false =>
    go_wp2_with fail
    go_ret2
    exact .inl ⟨rfl, HB2.out⟩
  | true =>
    go_wp2_with fail
    go_loopw [28] (fun i wr => ∃ j : Nat, j ≤ n ∧ i = .int .i64 j ∧ Hid (∃ S L F, Dev wr w.heap.size d g 80 lb fb S L F ∧ S.length = 80) ∧ Hid (Below w.heap.size w wr)) (fun i _ => n - (intOf i).toNat)
    case atStart => exact ⟨0, by omega, rfl, ⟨_, _, _, HD2.out, zeros_length _⟩, HB2⟩
    case round =>
      obtain ⟨j, hj, rfl, hdv, hb⟩ := hrel
      by_cases hlt : j < n
      · obtain ⟨S, L, F, hdev, h80⟩ := hdv.out
        obtain ⟨b, off, rfl, hbl, hc⟩ := H.out.2.2.2.2 (by omega)
        have hjl : j < l.length := by have := HL.out; omega
        have hjb : (j : Int) + 1 ≤ 9223372036854775807 := by have := HCm.out; unfold maxLen at this; omega
        obtain ⟨c0, c1, c2, c3, c4⟩ := (hc j hjl).below hb.out hbl
        have hok := (H.out.2.2.2.1 _ (List.getElem_mem hjl)).below hb.out
        generalize l[j] = o at c0 c1 c2 c3 c4 hok
        obtain ⟨kind, at_, long, ab, nb, cb, bs, ak, nk, ck, ks⟩ := o
        simp only at c0 c1 c2 c3 c4
        have HOK := hid hok; have HDV := hid hdev; have H80 := hid h80
        clear hc hjl hok hdev h80
        go_wp2_with fail
        have hob := HOK.out.below (Below.alloc (Below.refl w.heap.size wr) hb.out.size (.cells #[.int .i64 kind, .int .i64 at_, .int .i64 long, .slice ab nb cb, .slice ak nk ck] 35))
        refine (does_any (HDV.out.alloc _) ⟨kind, at_, long, ab, nb, cb, bs, ak, nk, ck, ks⟩ (hob.more (by have := hb.out.size; simp; omega))).mono ?_
        rintro e w3 ⟨v, rfl, S', L', F', hd3, hs3, hb3⟩
        have HD3 : Hid (∃ S L F, Dev w3 w.heap.size d g 80 lb fb S L F ∧ S.length = 80) := ⟨S', L', F', hd3, hs3.trans H80.out⟩
        have HB3 : Hid (Below w.heap.size w w3) := (Below.alloc hb.out hb.out.size _).trans hb3
        clear hd3 hs3 hb3 hob
        go_wp2_with fail
        exact ⟨⟨j + 1, by omega, by go_num, HD3, HB3⟩, by simp [intOf]; omega⟩
      · obtain rfl : j = n := by omega
        go_wp2_with fail
        go_ret2
        obtain ⟨S, L, F, hdev, h80⟩ := hdv.out
        exact .inr ⟨d, g, 80, lb, fb, S, L, F, rfl, hdev, h80, hb.out⟩
end Go.Proofs.Ytfekholamkidkaa
