/-
  The document's answers for layer 3: Do, each kind of call.
  The document's answers for layer 3: Do, a write; what is not done.
  The document's answers for layer 3: Do, a crash.
-/
import Derived.Test.YteggkojlpgkhbaaGreatM11

namespace Go.Proofs.YteggkojlpgkhbaaGreat
open Go.RowKit Go.Maps Go.Shelf
set_option linter.unusedVariables false

def idW (i : Nat) (x : Wd) : Wd := x
theorem mapIdx_idW (l : List Wd) : l.mapIdx idW = l := by refine List.ext_getElem? fun i => ?_; rw [List.getElem?_mapIdx]; cases l[i]? <;> rfl
def flW (at_ long : Int) (i : Nat) (x : Wd) : Wd := if (0 < long ∧ 8 * (i : Int) < at_ + long ∧ at_ < 8 * (i : Int) + 8) ∧ x.loose = true then ⟨x.seen, x.safe, x.loose, true⟩ else x
def crW (ks : List Int) (i : Nat) (x : Wd) : Wd := if x.loose = true ∧ (i : Int) ∉ ks then ⟨x.safe, x.safe, false, false⟩ else ⟨x.seen, x.seen, false, false⟩
set_option maxRecDepth 20000 in
set_option maxHeartbeats 4000000 in
theorem do_other {w : World} {A : Option Addr} {n c : Nat} {l : List Wd} (h : RdW w w.heap.size A n c l) (hn : n ≤ 8192) (at_ long : Int) (ab : Option Addr) (nb cb : Nat) (ak : Option Addr) (nk ck : Nat) (kind : Int) (hk : kind < 0 ∨ 4 < kind) :
    Calls Tryz.prog 15 #[.slice A n c, .agg #[.int .i64 kind, .int .i64 at_, .int .i64 long, .slice ab nb cb, .slice ak nk ck]] w (DoPost w (l.mapIdx idW)) := by
  obtain ⟨w1, hw1⟩ : ∃ w1, w1 = w.alloc (.cells #[.int .i64 kind, .int .i64 at_, .int .i64 long, .slice ab nb cb, .slice ak nk ck] 54) := ⟨_, rfl⟩
  have hb1 : Below w.heap.size w w1 := by rw [hw1]; exact B1 _ _
  have ho1 : OpB w1 w.heap.size kind at_ long ab nb cb ak nk ck := by rw [hw1]; exact heap_alloc_new _ _
  have hs1 : w1.heap.size = w.heap.size + 1 := by rw [hw1]; simp
  obtain ⟨A3, cap, w3, hrun, ho3, hb3⟩ := copyW (h.on hb1) hn
  rw [hs1] at hrun ho3 hb3
  rw [hw1] at hrun
  have HRUN := hid hrun; have HO := hid ho3; have HB3 := hid hb3; have HB1 := hid hb1; have HP := hid ho1; have HL := hid h.1; have HS1 := hid hs1
  have hni : (n : Int) ≤ 8192 := by omega
  clear hrun ho3 hb3 hb1 ho1 hw1 h hn hs1
  have k0 : (kind == 0) = false := by simp; omega
  have k1 : (kind == 1) = false := by simp; omega
  have k2 : (kind == 2) = false := by simp; omega
  have k3 : (kind == 3) = false := by simp; omega
  have k4 : (kind == 4) = false := by simp; omega
  rcases hk with hk | hk
  · have z1 : decide (0 ≤ kind) = false := by simp; omega
    go_enter Tryz.func15, Tryz.ntmps15
    go_wp2_with (at_builtin; refine wpList_appW2 rfl _ _ rfl rfl rfl HRUN.out ?_)
    go_loopw [11] (fun i wr => ∃ j : Nat, j ≤ n ∧ i = .int .i64 j ∧ Hid (OwW wr (w.heap.size + 1) (.slice A3 n cap) (mapTo idW l j)) ∧ Hid (Below (w.heap.size + 1) w1 wr)) (fun i _ => n - (intOf i).toNat)
    case atStart => exact ⟨0, by omega, rfl, hid (by rw [mapTo_zero]; exact HO.out), HB3⟩
    case round =>
      obtain ⟨j, hj, rfl, HOj, HBj⟩ := hrel
      by_cases hlt : j < n
      · have hjl : j < l.length := by have := HL.out; omega
        have hjm : j < (mapTo idW l j).length := by rw [mapTo_length]; exact hjl
        obtain ⟨g, cap', e, hbg, hgl, hnc, hcm, hfz, hcs⟩ := HOj.out.shape (by omega)
        obtain ⟨d1, d2, d3, d4⟩ := hcs j hjm
        rw [mapTo_get _ _ _ _ hjl, if_neg (by omega)] at d1 d2 d3 d4
        obtain ⟨rfl, hnl, rfl⟩ := Value.slice.inj e
        clear e hnl
        obtain ⟨x, hx⟩ : ∃ x, x = l[j] := ⟨_, rfl⟩
        have HX := hid hx
        rw [← hx] at d1 d2 d3 d4
        unfold str at d1 d2
        obtain ⟨p0, p1, p2, p3, p4⟩ := (HP.out.on HBj.out (by omega)).cells
        have hqs : w.heap.size < wr.heap.size := by omega
        clear hx hcs hjm hnc
        have HF : Hid (idW j x = x) := by show _ = _; rfl
        go_wp2_with fail
        have hr := mapTo_round HOj.out HBj.out (by have := HS1.out; omega) hbg hjl HX.out _ HF.out (.cells #[.string ⟨x.seen.toArray⟩, .string ⟨x.safe.toArray⟩, .bool x.loose, .bool x.fl] 102)
        exact ⟨⟨j + 1, by omega, by go_num, hid hr.1, hid hr.2⟩, by simp [intOf]; omega⟩
      · obtain rfl : j = n := by omega
        have e : mapTo idW l j = l.mapIdx idW := by rw [← HL.out]; exact mapTo_all _ _
        rw [e] at HOj
        clear e
        go_wp2_with fail
        refine bodyPost_ret (v := .tuple #[.slice A3 j cap, .string ⟨#[]⟩, .int .i64 0]) (by simp [results, Tryz.results15, go_sem]) rfl ?_
        exact ⟨_, rfl, OwW.less HOj.out (by omega), Bt1 HB1.out HS1.out HBj.out⟩
  · have z1 : decide (0 ≤ kind) = true := by simp; omega
    have z2 : decide (kind ≤ 2) = false := by simp; omega
    go_enter Tryz.func15, Tryz.ntmps15
    go_wp2_with (at_builtin; refine wpList_appW2 rfl _ _ rfl rfl rfl HRUN.out ?_)
    go_loopw [11] (fun i wr => ∃ j : Nat, j ≤ n ∧ i = .int .i64 j ∧ Hid (OwW wr (w.heap.size + 1) (.slice A3 n cap) (mapTo idW l j)) ∧ Hid (Below (w.heap.size + 1) w1 wr)) (fun i _ => n - (intOf i).toNat)
    case atStart => exact ⟨0, by omega, rfl, hid (by rw [mapTo_zero]; exact HO.out), HB3⟩
    case round =>
      obtain ⟨j, hj, rfl, HOj, HBj⟩ := hrel
      by_cases hlt : j < n
      · have hjl : j < l.length := by have := HL.out; omega
        have hjm : j < (mapTo idW l j).length := by rw [mapTo_length]; exact hjl
        obtain ⟨g, cap', e, hbg, hgl, hnc, hcm, hfz, hcs⟩ := HOj.out.shape (by omega)
        obtain ⟨d1, d2, d3, d4⟩ := hcs j hjm
        rw [mapTo_get _ _ _ _ hjl, if_neg (by omega)] at d1 d2 d3 d4
        obtain ⟨rfl, hnl, rfl⟩ := Value.slice.inj e
        clear e hnl
        obtain ⟨x, hx⟩ : ∃ x, x = l[j] := ⟨_, rfl⟩
        have HX := hid hx
        rw [← hx] at d1 d2 d3 d4
        unfold str at d1 d2
        obtain ⟨p0, p1, p2, p3, p4⟩ := (HP.out.on HBj.out (by omega)).cells
        have hqs : w.heap.size < wr.heap.size := by omega
        clear hx hcs hjm hnc
        have HF : Hid (idW j x = x) := by show _ = _; rfl
        go_wp2_with fail
        have hr := mapTo_round HOj.out HBj.out (by have := HS1.out; omega) hbg hjl HX.out _ HF.out (.cells #[.string ⟨x.seen.toArray⟩, .string ⟨x.safe.toArray⟩, .bool x.loose, .bool x.fl] 102)
        exact ⟨⟨j + 1, by omega, by go_num, hid hr.1, hid hr.2⟩, by simp [intOf]; omega⟩
      · obtain rfl : j = n := by omega
        have e : mapTo idW l j = l.mapIdx idW := by rw [← HL.out]; exact mapTo_all _ _
        rw [e] at HOj
        clear e
        go_wp2_with fail
        refine bodyPost_ret (v := .tuple #[.slice A3 j cap, .string ⟨#[]⟩, .int .i64 0]) (by simp [results, Tryz.results15, go_sem]) rfl ?_
        exact ⟨_, rfl, OwW.less HOj.out (by omega), Bt1 HB1.out HS1.out HBj.out⟩

set_option maxRecDepth 20000 in
set_option maxHeartbeats 4000000 in
theorem do_flush {w : World} {A : Option Addr} {n c : Nat} {l : List Wd} (h : RdW w w.heap.size A n c l) (hn : n ≤ 8192) (at_ long : Int) (ab : Option Addr) (nb cb : Nat) (ak : Option Addr) (nk ck : Nat) (ha : I64 at_) (hlg : I64 long) (he : hE ((n * 8 : Nat) : Int) at_ long = 0) :
    Calls Tryz.prog 15 #[.slice A n c, .agg #[.int .i64 2, .int .i64 at_, .int .i64 long, .slice ab nb cb, .slice ak nk ck]] w (DoPost w (l.mapIdx (flW at_ long))) := by
  obtain ⟨w1, hw1⟩ : ∃ w1, w1 = w.alloc (.cells #[.int .i64 2, .int .i64 at_, .int .i64 long, .slice ab nb cb, .slice ak nk ck] 54) := ⟨_, rfl⟩
  have hb1 : Below w.heap.size w w1 := by rw [hw1]; exact B1 _ _
  have ho1 : OpB w1 w.heap.size 2 at_ long ab nb cb ak nk ck := by rw [hw1]; exact heap_alloc_new _ _
  have hs1 : w1.heap.size = w.heap.size + 1 := by rw [hw1]; simp
  obtain ⟨y1, y2, y3⟩ := hE_ok he
  have y4 : at_ + long ≤ 65536 := by omega
  have HA := hid ha; have HLG := hid hlg; have HE := hid he; have HN := hid hn
  obtain ⟨A3, cap, w3, hrun, ho3, hb3⟩ := copyW (h.on hb1) hn
  rw [hs1] at hrun ho3 hb3
  rw [hw1] at hrun
  have HRUN := hid hrun; have HO := hid ho3; have HB3 := hid hb3; have HB1 := hid hb1; have HP := hid ho1; have HL := hid h.1; have HS1 := hid hs1
  have hni : (n : Int) ≤ 8192 := by omega
  clear hrun ho3 hb3 hb1 ho1 hw1 h hn hs1
  clear y3 he ha hlg
  go_enter Tryz.func15, Tryz.ntmps15
  go_wp2_with fail
  refine (rinside_any at_ long HA.out HLG.out HN.out).mono ?_
  rintro e w' ⟨rfl, rfl⟩
  rw [HE.out]
  go_wp2_with (at_builtin; refine wpList_appW2 rfl _ _ rfl rfl rfl HRUN.out ?_)
  go_loopw [11] (fun i wr => ∃ j : Nat, j ≤ n ∧ i = .int .i64 j ∧ Hid (OwW wr (w.heap.size + 1) (.slice A3 n cap) (mapTo (flW at_ long) l j)) ∧ Hid (Below (w.heap.size + 1) w1 wr)) (fun i _ => n - (intOf i).toNat)
  case atStart => exact ⟨0, by omega, rfl, hid (by rw [mapTo_zero]; exact HO.out), HB3⟩
  case round =>
    obtain ⟨j, hj, rfl, HOj, HBj⟩ := hrel
    by_cases hlt : j < n
    · have hjl : j < l.length := by have := HL.out; omega
      have hjm : j < (mapTo (flW at_ long) l j).length := by rw [mapTo_length]; exact hjl
      obtain ⟨g, cap', e, hbg, hgl, hnc, hcm, hfz, hcs⟩ := HOj.out.shape (by omega)
      obtain ⟨d1, d2, d3, d4⟩ := hcs j hjm
      rw [mapTo_get _ _ _ _ hjl, if_neg (by omega)] at d1 d2 d3 d4
      obtain ⟨rfl, hnl, rfl⟩ := Value.slice.inj e
      clear e hnl
      obtain ⟨x, hx⟩ : ∃ x, x = l[j] := ⟨_, rfl⟩
      have HX := hid hx
      rw [← hx] at d1 d2 d3 d4
      unfold str at d1 d2
      obtain ⟨p0, p1, p2, p3, p4⟩ := (HP.out.on HBj.out (by omega)).cells
      have hqs : w.heap.size < wr.heap.size := by omega
      clear hx hcs hjm hnc
      by_cases p1 : 0 < long
      · by_cases p2 : 8 * (j : Int) < at_ + long
        · by_cases p3 : at_ < 8 * (j : Int) + 8
          · cases hlo : x.loose with
            | true =>
              have HF : Hid ((flW at_ long) j x = ⟨x.seen, x.safe, true, true⟩) := by show _ = _; unfold flW; rw [if_pos ⟨⟨p1, p2, p3⟩, hlo⟩, hlo]
              rw [hlo] at d3
              clear hlo
              go_wp2_with fail
              have hr := mapTo_round HOj.out HBj.out (by have := HS1.out; omega) hbg hjl HX.out _ HF.out (.cells #[.string ⟨x.seen.toArray⟩, .string ⟨x.safe.toArray⟩, .bool true, .bool true] 102)
              exact ⟨⟨j + 1, by omega, by go_num, hid hr.1, hid hr.2⟩, by simp [intOf]; omega⟩
            | false =>
              have HF : Hid ((flW at_ long) j x = ⟨x.seen, x.safe, false, x.fl⟩) := by show _ = _; unfold flW; rw [if_neg (by rw [hlo]; simp)]; cases x; simp_all
              rw [hlo] at d3
              clear hlo
              go_wp2_with fail
              have hr := mapTo_round HOj.out HBj.out (by have := HS1.out; omega) hbg hjl HX.out _ HF.out (.cells #[.string ⟨x.seen.toArray⟩, .string ⟨x.safe.toArray⟩, .bool false, .bool x.fl] 102)
              exact ⟨⟨j + 1, by omega, by go_num, hid hr.1, hid hr.2⟩, by simp [intOf]; omega⟩
          · have p3' : decide (at_ < 8 * (j : Int) + 8) = false := by simp; omega
            have HF : Hid ((flW at_ long) j x = x) := by show _ = _; unfold flW; rw [if_neg (by omega)]
            go_wp2_with fail
            have hr := mapTo_round HOj.out HBj.out (by have := HS1.out; omega) hbg hjl HX.out _ HF.out (.cells #[.string ⟨x.seen.toArray⟩, .string ⟨x.safe.toArray⟩, .bool x.loose, .bool x.fl] 102)
            exact ⟨⟨j + 1, by omega, by go_num, hid hr.1, hid hr.2⟩, by simp [intOf]; omega⟩
        · have p2' : decide (8 * (j : Int) < at_ + long) = false := by simp; omega
          have HF : Hid ((flW at_ long) j x = x) := by show _ = _; unfold flW; rw [if_neg (by omega)]
          go_wp2_with fail
          have hr := mapTo_round HOj.out HBj.out (by have := HS1.out; omega) hbg hjl HX.out _ HF.out (.cells #[.string ⟨x.seen.toArray⟩, .string ⟨x.safe.toArray⟩, .bool x.loose, .bool x.fl] 102)
          exact ⟨⟨j + 1, by omega, by go_num, hid hr.1, hid hr.2⟩, by simp [intOf]; omega⟩
      · have p1' : decide (0 < long) = false := by simp; omega
        have HF : Hid ((flW at_ long) j x = x) := by show _ = _; unfold flW; rw [if_neg (by omega)]
        go_wp2_with fail
        have hr := mapTo_round HOj.out HBj.out (by have := HS1.out; omega) hbg hjl HX.out _ HF.out (.cells #[.string ⟨x.seen.toArray⟩, .string ⟨x.safe.toArray⟩, .bool x.loose, .bool x.fl] 102)
        exact ⟨⟨j + 1, by omega, by go_num, hid hr.1, hid hr.2⟩, by simp [intOf]; omega⟩
    · obtain rfl : j = n := by omega
      have e : mapTo (flW at_ long) l j = l.mapIdx (flW at_ long) := by rw [← HL.out]; exact mapTo_all _ _
      rw [e] at HOj
      clear e
      go_wp2_with fail
      refine bodyPost_ret (v := .tuple #[.slice A3 j cap, .string ⟨#[]⟩, .int .i64 0]) (by simp [results, Tryz.results15, go_sem]) rfl ?_
      exact ⟨_, rfl, OwW.less HOj.out (by omega), Bt1 HB1.out HS1.out HBj.out⟩

end Go.Proofs.YteggkojlpgkhbaaGreat

namespace Go.Proofs.YteggkojlpgkhbaaGreat
open Go.RowKit Go.Maps Go.Shelf
set_option linter.unusedVariables false

/-- Bytes, one behind the other. -/
def wrN : List Wd → Nat → List UInt8 → List Wd
  | l, _, [] => l
  | l, a, b :: bs => wrN (wrA l a b) (a + 1) bs
theorem wrN_snoc (b : UInt8) : ∀ (bs : List UInt8) (l : List Wd) (a : Nat), wrN l a (bs ++ [b]) = wrA (wrN l a bs) (a + bs.length) b := by
  intro bs
  induction bs with
  | nil => intro l a; rfl
  | cons c bs ih => intro l a; show wrN (wrA l a c) (a + 1) (bs ++ [b]) = _; rw [ih]; simp only [wrN, List.length_cons]; congr 1; omega
theorem wrN_length : ∀ (bs : List UInt8) (l : List Wd) (a : Nat), (wrN l a bs).length = l.length := by
  intro bs
  induction bs with
  | nil => intro l a; rfl
  | cons c bs ih => intro l a; show (wrN _ _ bs).length = _; rw [ih, wrA_length]
theorem wrN_ok : ∀ (bs : List UInt8) {l : List Wd} (a : Nat), ok8 l → ok8 (wrN l a bs) := by
  intro bs
  induction bs with
  | nil => intro l a h; exact h
  | cons c bs ih => intro l a h; exact ih _ (wrA_ok h _ _)
def BadPost (w : World) (A : Option Addr) (n c : Nat) (er : Int) (e : Ending) (w' : World) : Prop := e = .returned (.tuple #[.slice A n c, .string ⟨#[]⟩, .int .i64 er]) ∧ Below w.heap.size w w'

set_option maxRecDepth 20000 in
set_option maxHeartbeats 4000000 in
theorem do_bad0 {w : World} {A : Option Addr} {n c : Nat} {l : List Wd} (h : RdW w w.heap.size A n c l) (hn : n ≤ 8192) (at_ long : Int) (ab : Option Addr) (nb cb : Nat) (ak : Option Addr) (nk ck : Nat) (ha : I64 at_) (hlg : I64 nb) (he : hE ((n * 8 : Nat) : Int) at_ nb ≠ 0) :
    Calls Tryz.prog 15 #[.slice A n c, .agg #[.int .i64 0, .int .i64 at_, .int .i64 long, .slice ab nb cb, .slice ak nk ck]] w (BadPost w A n c (hE ((n * 8 : Nat) : Int) at_ nb)) := by
  generalize hg : hE ((n * 8 : Nat) : Int) at_ nb = er at he ⊢
  have HG := hid hg
  have d1 : (er != 0) = true := by simpa using he
  have HA := hid ha; have HLG := hid hlg; have HN := hid hn
  clear ha hlg hn he hg h
  go_enter Tryz.func15, Tryz.ntmps15
  go_wp2_with fail
  refine (rinside_any at_ _ HA.out HLG.out HN.out).mono ?_
  rintro e w' ⟨rfl, rfl⟩
  rw [HG.out]
  go_wp2_with fail
  refine bodyPost_ret (v := .tuple #[.slice A n c, .string ⟨#[]⟩, .int .i64 er]) (by simp [results, Tryz.results15, go_sem]) rfl ?_
  exact ⟨rfl, B1 _ _⟩

set_option maxRecDepth 20000 in
set_option maxHeartbeats 4000000 in
theorem do_bad2 {w : World} {A : Option Addr} {n c : Nat} {l : List Wd} (h : RdW w w.heap.size A n c l) (hn : n ≤ 8192) (at_ long : Int) (ab : Option Addr) (nb cb : Nat) (ak : Option Addr) (nk ck : Nat) (ha : I64 at_) (hlg : I64 long) (he : hE ((n * 8 : Nat) : Int) at_ long ≠ 0) :
    Calls Tryz.prog 15 #[.slice A n c, .agg #[.int .i64 2, .int .i64 at_, .int .i64 long, .slice ab nb cb, .slice ak nk ck]] w (BadPost w A n c (hE ((n * 8 : Nat) : Int) at_ long)) := by
  generalize hg : hE ((n * 8 : Nat) : Int) at_ long = er at he ⊢
  have HG := hid hg
  have d1 : (er != 0) = true := by simpa using he
  have HA := hid ha; have HLG := hid hlg; have HN := hid hn
  clear ha hlg hn he hg h
  go_enter Tryz.func15, Tryz.ntmps15
  go_wp2_with fail
  refine (rinside_any at_ _ HA.out HLG.out HN.out).mono ?_
  rintro e w' ⟨rfl, rfl⟩
  rw [HG.out]
  go_wp2_with fail
  refine bodyPost_ret (v := .tuple #[.slice A n c, .string ⟨#[]⟩, .int .i64 er]) (by simp [results, Tryz.results15, go_sem]) rfl ?_
  exact ⟨rfl, B1 _ _⟩

set_option maxRecDepth 20000 in
set_option maxHeartbeats 4000000 in
theorem do_write {w : World} {A : Option Addr} {n c : Nat} {l : List Wd} (h : RdW w w.heap.size A n c l) (hn : n ≤ 8192) (at_ long : Int) (ab : Option Addr) (nb cb : Nat) (ak : Option Addr) (nk ck : Nat) (ha : I64 at_) (h8 : ok8 l) {bs : List UInt8} (hrd : Rd w w.heap.size ab nb cb bs) (he : hE ((n * 8 : Nat) : Int) at_ nb = 0) :
    Calls Tryz.prog 15 #[.slice A n c, .agg #[.int .i64 0, .int .i64 at_, .int .i64 long, .slice ab nb cb, .slice ak nk ck]] w (DoPost w (wrN l at_.toNat bs)) := by
  obtain ⟨w1, hw1⟩ : ∃ w1, w1 = w.alloc (.cells #[.int .i64 0, .int .i64 at_, .int .i64 long, .slice ab nb cb, .slice ak nk ck] 54) := ⟨_, rfl⟩
  have hb1 : Below w.heap.size w w1 := by rw [hw1]; exact B1 _ _
  have ho1 : OpB w1 w.heap.size 0 at_ long ab nb cb ak nk ck := by rw [hw1]; exact heap_alloc_new _ _
  have hs1 : w1.heap.size = w.heap.size + 1 := by rw [hw1]; simp
  obtain ⟨y1, y2, y3⟩ := hE_ok he
  have y4 : at_ + nb ≤ 65536 := by omega
  have y5 : (nb : Int) ≤ 65536 := by omega
  have HA := hid ha; have HLG : Hid (I64 nb) := i64_iff.2 (by omega)
  have HE := hid he; have HN := hid hn; have HL := hid h.1; have H := hid h; have H8 := hid h8; have HR := hid hrd; have HRL := hid hrd.1
  have HB1 := hid hb1; have HP := hid ho1; have HS1 := hid hs1; have HW1 := hid hw1; have HY3 := hid y3
  have hni : (n : Int) ≤ 8192 := by omega
  clear hb1 ho1 hw1 h hn hs1 y3 he ha hrd h8
  go_enter Tryz.func15, Tryz.ntmps15
  go_wp2_with fail
  refine (rinside_any at_ _ HA.out HLG.out HN.out).mono ?_
  rintro e w' ⟨rfl, rfl⟩
  rw [HE.out]
  go_wp2_with fail
  go_loopw [0, 9] (fun v i wr => ∃ (j : Nat) (A' : Option Addr) (c' : Nat), j ≤ nb ∧ i = .int .i64 j ∧ v = .slice A' n c' ∧ Hid (RdW wr wr.heap.size A' n c' (wrN l at_.toNat (bs.take j))) ∧ Hid (Below (w.heap.size + 1) w1 wr)) (fun _ i _ => nb - (intOf i).toNat)
  case atStart => exact ⟨0, A, c, by omega, rfl, rfl, hid (by rw [← HW1.out]; exact H.out.on HB1.out), hid (by rw [← HW1.out]; exact Below.refl _ _)⟩
  case round =>
    obtain ⟨j, A', c', hj, rfl, rfl, HRj, HBj⟩ := hrel
    by_cases hlt : j < nb
    · have hjl : j < bs.length := by have := HRL.out; omega
      have HBW : Hid (Below w.heap.size w wr) := Bt1 HB1.out HS1.out HBj.out
      obtain ⟨bb, boff, rfl, hbl, hc⟩ := HR.out.2.2.2.2 (by omega)
      obtain ⟨ch, hch⟩ : ∃ ch, ch = bs[j] := ⟨_, rfl⟩
      have HCH : Hid (bs[j]? = some ch) := by show _ = _; rw [hch]; exact List.getElem?_eq_getElem hjl
      have HC : Hid (∀ w', Below w.heap.size w w' → w'.cell? ⟨bb, boff + j, none⟩ = some (.int .u8 (ch.toNat : Int))) := fun w' h => (h.cell (p := ⟨bb, boff + j, none⟩) hbl).trans (by rw [hch]; exact hc j hjl)
      obtain ⟨a, hal⟩ : ∃ a : Nat, (a : Int) = at_ := ⟨at_.toNat, by omega⟩
      subst hal
      have q1 : IntKind.i64.wrap ((a : Int) + (j : Int)) = ((a + j : Nat) : Int) := by rw [IntKind.wrap_i64]; omega
      have HT : Hid (wrN l (a : Int).toNat (bs.take (j + 1)) = wrA (wrN l (a : Int).toNat (bs.take j)) (a + j) ch) := by
        show _ = _
        rw [List.take_add_one, HCH.out]; simp only [Option.toList_some]; rw [wrN_snoc]; congr 1; simp; omega
      have HOK := hid (wrN_ok (bs.take j) (a : Int).toNat H8.out)
      have hqs : w.heap.size < wr.heap.size := by have := HBj.out.size; have := HS1.out; omega
      have hj0 : (0 : Int) ≤ j := by omega
      have hjn : (j : Int) < nb := by omega
      have htj : ((j : Int)).toNat = j := by omega
      clear hc hch
      go_wp2_with fail
      refine reg_begin (by kernel_rfl) (fun w0a hx0a hHeld => ?_)
      have p1 : ∀ w', Ext w0a w' → w'.cell? ⟨w.heap.size, 1, none⟩ = some (.int .i64 (a : Int)) := fun w' h => ((HP.out.on (HBj.out.trans ((hx0a.trans h).mono (by omega))) (by omega)).cells).2.1
      have p3 : ∀ w', Ext w0a w' → w'.cell? ⟨w.heap.size, 3, none⟩ = some (.slice (some ⟨bb, boff, none⟩) nb cb) := fun w' h => ((HP.out.on (HBj.out.trans ((hx0a.trans h).mono (by omega))) (by omega)).cells).2.2.2.1
      have pc : ∀ w', Ext w0a w' → w'.cell? ⟨bb, boff + j, none⟩ = some (.int .u8 (ch.toNat : Int)) := fun w' h => HC.out w' (HBW.out.trans ((hx0a.trans h).mono (by omega)))
      refine reg_take 0 (v := ?vb0) at0 (by kernel_rfl) (by kernel_rfl) (by kernel_rfl) (by rfl) ?hyb0 hHeld ?restb0
      case hyb0 => (intro w' hSw; go_simp; try with_reducible rfl)
      try simp only [Act.put, List.setIfInBounds_toArray, List.set_cons_zero, List.set_cons_succ]
      refine reg_take 1 (v := ?vb1) (atS at0) (by kernel_rfl) (by kernel_rfl) (by kernel_rfl) (by rfl) ?hyb1 hHeld ?restb1
      case hyb1 => (intro w' hSw; go_simp; try with_reducible rfl)
      try simp only [Act.put, List.setIfInBounds_toArray, List.set_cons_zero, List.set_cons_succ]
      refine reg_take 2 (v := ?vb2) (atS (atS at0)) (by kernel_rfl) (by kernel_rfl) (by kernel_rfl) (by rfl) ?hyb2 hHeld ?restb2
      case hyb2 => (intro w' hSw; go_simp; try with_reducible rfl)
      try simp only [Act.put, List.setIfInBounds_toArray, List.set_cons_zero, List.set_cons_succ]
      refine reg_take 3 (v := ?vb3) (atS (atS (atS at0))) (by kernel_rfl) (by kernel_rfl) (by kernel_rfl) (by rfl) ?hyb3 hHeld ?restb3
      case hyb3 => (intro w' hSw; go_simp; try with_reducible rfl)
      try simp only [Act.put, List.setIfInBounds_toArray, List.set_cons_zero, List.set_cons_succ]
      refine reg_take 4 (v := ?vb4) (atS (atS (atS (atS at0)))) (by kernel_rfl) (by kernel_rfl) (by kernel_rfl) (by rfl) ?hyb4 hHeld ?restb4
      case hyb4 => (intro w' hSw; go_simp; try with_reducible rfl)
      try simp only [Act.put, List.setIfInBounds_toArray, List.set_cons_zero, List.set_cons_succ]
      refine reg_take 5 (v := ?vb5) (atS5 at0) (by kernel_rfl) (by kernel_rfl) (by kernel_rfl) (by rfl) ?hyb5 hHeld ?restb5
      case hyb5 => (intro w' hSw; go_simp; try with_reducible rfl)
      try simp only [Act.put, List.setIfInBounds_toArray, List.set_cons_zero, List.set_cons_succ]
      refine reg_take 6 (v := ?vb6) (atS5 (atS at0)) (by kernel_rfl) (by kernel_rfl) (by kernel_rfl) (by rfl) ?hyb6 hHeld ?restb6
      case hyb6 => (intro w' hSw; go_simp; try with_reducible rfl)
      try simp only [Act.put, List.setIfInBounds_toArray, List.set_cons_zero, List.set_cons_succ]
      refine reg_take 7 (v := ?vb7) (atS5 (atS (atS at0))) (by kernel_rfl) (by kernel_rfl) (by kernel_rfl) (by rfl) ?hyb7 hHeld ?restb7
      case hyb7 => (intro w' hSw; go_simp; try with_reducible rfl)
      try simp only [Act.put, List.setIfInBounds_toArray, List.set_cons_zero, List.set_cons_succ]
      refine reg_take 8 (v := ?vb8) (atS5 (atS (atS (atS at0)))) (by kernel_rfl) (by kernel_rfl) (by kernel_rfl) (by rfl) ?hyb8 hHeld ?restb8
      case hyb8 => (intro w' hSw; go_simp; try with_reducible rfl)
      try simp only [Act.put, List.setIfInBounds_toArray, List.set_cons_zero, List.set_cons_succ]
      refine reg_take 9 (v := ?vb9) (atS5 (atS (atS (atS (atS at0))))) (by kernel_rfl) (by kernel_rfl) (by kernel_rfl) (by rfl) ?hyb9 hHeld ?restb9
      case hyb9 => (intro w' hSw; go_simp; try with_reducible rfl)
      try simp only [Act.put, List.setIfInBounds_toArray, List.set_cons_zero, List.set_cons_succ]
      refine wpAnyH_ready (rs := [10]) (by kernel_rfl) (by simp) ?_
      refine AllReadyH.cons (atS5 (atS5 at0)) (fun K hK => ?_) AllReadyH.nil
      go_simp
      refine (rwrite_any (HRj.out.on hx0a) HOK.out HN.out (a + j) (by have := HY3.out; omega) ch).mono ?_
      rintro e w2 ⟨v2, rfl, ho2, hb2⟩
      obtain ⟨A2, c2, rfl, hr2⟩ := ho2.rd
      have HO2 := hid hr2; have HB2 := hid hb2
      clear ho2 hr2
      go_wp2_with fail
      refine hK.out _ _ HB2.out (fun hHeld => ?_)
      clear hK K
      try simp only [Act.put, List.setIfInBounds_toArray, List.set_cons_zero, List.set_cons_succ]
      refine reg_on HB2.out (fun hHeld => ?_)
      refine reg_take 11 (v := ?vb11) (atS5 (atS5 (atS at0))) (by kernel_rfl) (by kernel_rfl) (by kernel_rfl) (by rfl) ?hyb11 hHeld ?restb11
      case hyb11 => (intro w' hSw; go_simp; try with_reducible rfl)
      try simp only [Act.put, List.setIfInBounds_toArray, List.set_cons_zero]
      refine wpAnyH_done (by kernel_rfl) ?_ _
      refine NoPanic.normal ?_
      clear p1 p3 pc
      go_wp2_with fail
      have hln : (wrA (wrN l a (bs.take j)) (a + j) ch).length = n := by rw [wrA_length, wrN_length]; exact HL.out
      have h2 := HO2.out
      rw [Int.toNat_natCast, hln] at h2
      have hT := HT.out
      rw [Int.toNat_natCast] at hT
      exact ⟨⟨j + 1, A2, c2, by omega, by go_num, by rw [hln], hid (by rw [Int.toNat_natCast, hT]; exact h2), hid (HBj.out.trans ((Bt hx0a HB2.out).mono (by omega)))⟩, by simp [intOf]; omega⟩
    · obtain rfl : j = nb := by omega
      have et : bs.take j = bs := by rw [← HRL.out]; exact List.take_length
      rw [et] at HRj
      obtain ⟨lq, hlq⟩ : ∃ lq, lq = wrN l at_.toNat bs := ⟨_, rfl⟩
      rw [← hlq] at HRj
      have HLQ := hid hlq
      have HLq := hid HRj.out.1
      obtain ⟨w1q, hq⟩ : ∃ w1q, w1q = wr := ⟨_, rfl⟩
      subst hq
      obtain ⟨Bq, hBq⟩ : ∃ Bq, w1q.heap.size = Bq := ⟨_, rfl⟩
      obtain ⟨A3, cap, w3, hrun, ho3, hb3⟩ := copyW HRj.out HN.out
      have HBW : Hid (Below w.heap.size w w1q) := Bt1 HB1.out HS1.out HBj.out
      have HPq := hid (HP.out.on HBj.out (by omega))
      have hwq : w.heap.size < Bq := by have := HBj.out.size; have := HS1.out; omega
      have HRUN := hid hrun
      rw [hBq] at ho3 hb3
      have HO := hid ho3; have HB3 := hid hb3; have HSq := hid hBq
      clear hrun ho3 hb3 hBq hlq et HRj HBj HP
      go_wp2_with (at_builtin; refine wpList_appW2 rfl _ _ rfl rfl rfl HRUN.out ?_)
      go_loopw [11] (fun i wr => ∃ j : Nat, j ≤ n ∧ i = .int .i64 j ∧ Hid (OwW wr Bq (.slice A3 n cap) (mapTo idW lq j)) ∧ Hid (Below Bq w1q wr)) (fun i _ => n - (intOf i).toNat)
      case atStart => exact ⟨0, by omega, rfl, hid (by rw [mapTo_zero]; exact HO.out), HB3⟩
      case round =>
        obtain ⟨j, hj, rfl, HOj, HBj⟩ := hrel
        by_cases hlt : j < n
        · have hjl : j < lq.length := by have := HLq.out; omega
          have hjm : j < (mapTo idW lq j).length := by rw [mapTo_length]; exact hjl
          obtain ⟨g, cap', e, hbg, hgl, hnc, hcm, hfz, hcs⟩ := HOj.out.shape (by omega)
          obtain ⟨d1, d2, d3, d4⟩ := hcs j hjm
          rw [mapTo_get _ _ _ _ hjl, if_neg (by omega)] at d1 d2 d3 d4
          obtain ⟨rfl, hnl, rfl⟩ := Value.slice.inj e
          clear e hnl
          obtain ⟨x, hx⟩ : ∃ x, x = lq[j] := ⟨_, rfl⟩
          have HX := hid hx
          rw [← hx] at d1 d2 d3 d4
          unfold str at d1 d2
          obtain ⟨p0, p1, p2, p3, p4⟩ := (HPq.out.on HBj.out (by omega)).cells
          have hqs : w.heap.size < wr.heap.size := by omega
          clear hx hcs hjm hnc
          have HF : Hid (idW j x = x) := by show _ = _; rfl
          go_wp2_with fail
          have hr := mapTo_round HOj.out HBj.out (by have := HSq.out; omega) hbg hjl HX.out _ HF.out (.cells #[.string ⟨x.seen.toArray⟩, .string ⟨x.safe.toArray⟩, .bool x.loose, .bool x.fl] 102)
          exact ⟨⟨j + 1, by omega, by go_num, hid hr.1, hid hr.2⟩, by simp [intOf]; omega⟩
        · obtain rfl : j = n := by omega
          have e : mapTo idW lq j = wrN l at_.toNat bs := by rw [← HLq.out, mapTo_all, mapIdx_idW]; exact HLQ.out
          rw [e] at HOj
          clear e
          go_wp2_with fail
          refine bodyPost_ret (v := .tuple #[.slice A3 j cap, .string ⟨#[]⟩, .int .i64 0]) (by simp [results, Tryz.results15, go_sem]) rfl ?_
          exact ⟨_, rfl, OwW.less (B := Bq) (B' := w.heap.size) HOj.out (by omega), Bt1 HBW.out HSq.out HBj.out⟩
end Go.Proofs.YteggkojlpgkhbaaGreat

namespace Go.Proofs.YteggkojlpgkhbaaGreat
open Go.RowKit Go.Maps Go.Shelf
set_option linter.unusedVariables false

set_option maxRecDepth 20000 in
set_option maxHeartbeats 4000000 in
theorem do_crash {w : World} {A : Option Addr} {n c : Nat} {l : List Wd} (h : RdW w w.heap.size A n c l) (hn : n ≤ 8192) (at_ long : Int) (ab : Option Addr) (nb cb : Nat) (ak : Option Addr) (nk ck : Nat) {ks : List Int} (hks : RdI w w.heap.size ak nk ck ks) :
    Calls Tryz.prog 15 #[.slice A n c, .agg #[.int .i64 4, .int .i64 at_, .int .i64 long, .slice ab nb cb, .slice ak nk ck]] w (DoPost w (l.mapIdx (crW ks))) := by
  obtain ⟨w1, hw1⟩ : ∃ w1, w1 = w.alloc (.cells #[.int .i64 4, .int .i64 at_, .int .i64 long, .slice ab nb cb, .slice ak nk ck] 54) := ⟨_, rfl⟩
  have hb1 : Below w.heap.size w w1 := by rw [hw1]; exact B1 _ _
  have ho1 : OpB w1 w.heap.size 4 at_ long ab nb cb ak nk ck := by rw [hw1]; exact heap_alloc_new _ _
  have hs1 : w1.heap.size = w.heap.size + 1 := by rw [hw1]; simp
  have HK := hid hks; clear hks
  obtain ⟨A3, cap, w3, hrun, ho3, hb3⟩ := copyW (h.on hb1) hn
  rw [hs1] at hrun ho3 hb3
  rw [hw1] at hrun
  have HRUN := hid hrun; have HO := hid ho3; have HB3 := hid hb3; have HB1 := hid hb1; have HP := hid ho1; have HL := hid h.1; have HS1 := hid hs1
  have hni : (n : Int) ≤ 8192 := by omega
  clear hrun ho3 hb3 hb1 ho1 hw1 h hn hs1
  go_enter Tryz.func15, Tryz.ntmps15
  go_wp2_with (at_builtin; refine wpList_appW2 rfl _ _ rfl rfl rfl HRUN.out ?_)
  go_loopw [11] (fun i wr => ∃ j : Nat, j ≤ n ∧ i = .int .i64 j ∧ Hid (OwW wr (w.heap.size + 1) (.slice A3 n cap) (mapTo (crW ks) l j)) ∧ Hid (Below (w.heap.size + 1) w1 wr)) (fun i _ => n - (intOf i).toNat)
  case atStart => exact ⟨0, by omega, rfl, hid (by rw [mapTo_zero]; exact HO.out), HB3⟩
  case round =>
    obtain ⟨j, hj, rfl, HOj, HBj⟩ := hrel
    by_cases hlt : j < n
    · have hjl : j < l.length := by have := HL.out; omega
      have hjm : j < (mapTo (crW ks) l j).length := by rw [mapTo_length]; exact hjl
      obtain ⟨g, cap', e, hbg, hgl, hnc, hcm, hfz, hcs⟩ := HOj.out.shape (by omega)
      obtain ⟨d1, d2, d3, d4⟩ := hcs j hjm
      rw [mapTo_get _ _ _ _ hjl, if_neg (by omega)] at d1 d2 d3 d4
      obtain ⟨rfl, hnl, rfl⟩ := Value.slice.inj e
      clear e hnl
      obtain ⟨x, hx⟩ : ∃ x, x = l[j] := ⟨_, rfl⟩
      have HX := hid hx
      rw [← hx] at d1 d2 d3 d4
      unfold str at d1 d2
      obtain ⟨p0, p1, p2, p3, p4⟩ := (HP.out.on HBj.out (by omega)).cells
      have hqs : w.heap.size < wr.heap.size := by omega
      clear hx hcs hjm hnc
      have HBW : Hid (Below w.heap.size w wr) := Bt1 HB1.out HS1.out HBj.out
      cases hlo : x.loose with
      | false =>
        have HF : Hid ((crW ks) j x = ⟨x.seen, x.seen, false, false⟩) := by show _ = _; unfold crW; rw [if_neg (by rw [hlo]; simp)]
        rw [hlo] at d3
        clear hlo
        go_wp2_with fail
        have hr := mapTo_round HOj.out HBj.out (by have := HS1.out; omega) hbg hjl HX.out _ HF.out (.cells #[.string ⟨x.seen.toArray⟩, .string ⟨x.seen.toArray⟩, .bool false, .bool false] 102)
        exact ⟨⟨j + 1, by omega, by go_num, hid hr.1, hid hr.2⟩, by simp [intOf]; omega⟩
      | true =>
        by_cases hm : (j : Int) ∈ ks
        · have HF : Hid ((crW ks) j x = ⟨x.seen, x.seen, false, false⟩) := by show _ = _; unfold crW; rw [if_neg (by simp [hm])]
          have hdm : decide ((j : Int) ∈ ks) = true := by simpa using hm
          rw [hlo] at d3
          have HDM := hid hdm
          clear hlo hm hdm
          go_wp2_with fail
          refine (rhas_any ((HK.out.on (Bt HBW.out (B1 wr _)))) (j : Int)).mono ?_
          rintro e w' ⟨rfl, rfl⟩
          rw [HDM.out]
          go_wp2_with fail
          have hr := mapTo_round HOj.out HBj.out (by have := HS1.out; omega) hbg hjl HX.out _ HF.out (.cells #[.string ⟨x.seen.toArray⟩, .string ⟨x.seen.toArray⟩, .bool false, .bool false] 102)
          exact ⟨⟨j + 1, by omega, by go_num, hid hr.1, hid hr.2⟩, by simp [intOf]; omega⟩
        · have HF : Hid ((crW ks) j x = ⟨x.safe, x.safe, false, false⟩) := by show _ = _; unfold crW; rw [if_pos ⟨hlo, hm⟩]
          have hdm : decide ((j : Int) ∈ ks) = false := by simpa using hm
          rw [hlo] at d3
          have HDM := hid hdm
          clear hlo hm hdm
          go_wp2_with fail
          refine (rhas_any ((HK.out.on (Bt HBW.out (B1 wr _)))) (j : Int)).mono ?_
          rintro e w' ⟨rfl, rfl⟩
          rw [HDM.out]
          go_wp2_with fail
          have hr := mapTo_round HOj.out HBj.out (by have := HS1.out; omega) hbg hjl HX.out _ HF.out (.cells #[.string ⟨x.safe.toArray⟩, .string ⟨x.safe.toArray⟩, .bool false, .bool false] 102)
          exact ⟨⟨j + 1, by omega, by go_num, hid hr.1, hid hr.2⟩, by simp [intOf]; omega⟩
    · obtain rfl : j = n := by omega
      have e : mapTo (crW ks) l j = l.mapIdx (crW ks) := by rw [← HL.out]; exact mapTo_all _ _
      rw [e] at HOj
      clear e
      go_wp2_with fail
      refine bodyPost_ret (v := .tuple #[.slice A3 j cap, .string ⟨#[]⟩, .int .i64 0]) (by simp [results, Tryz.results15, go_sem]) rfl ?_
      exact ⟨_, rfl, OwW.less HOj.out (by omega), Bt1 HB1.out HS1.out HBj.out⟩
end Go.Proofs.YteggkojlpgkhbaaGreat
