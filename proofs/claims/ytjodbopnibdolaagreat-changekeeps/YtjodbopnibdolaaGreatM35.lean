/-
  The contract of own of layer 8's law.
  Objects by their values, and what a table makes of them: mathematics.
  Of a chain of changes: it is right, of the first fields, and what no change names keeps its value: mathematics.
-/
import Derived.Test.YtjodbopnibdolaaGreatM33
import Derived.Test.YtjodbopnibdolaaGreatM15
import Derived.Test.YtjodbopnibdolaaGreatM34
import Derived.Test.YtjodbopnibdolaaGreatM29
import Derived.Test.YtjodbopnibdolaaGreatM30
import Derived.Test.YtjodbopnibdolaaGreatM32

namespace Go.Proofs.YtjodbopnibdolaaGreat
open Go.RowKit
set_option linter.unusedVariables false
set_option linter.unusedSimpArgs false

def crCells (p : Ch × Value) : List Value := [.int .i64 p.1.op, .string (bs p.1.nm), .string (bs p.1.to.nm), .int .i64 p.1.to.k, .int .i64 p.1.to.g, .int .i64 p.1.dk, .int .u64 p.1.dn, .string p.1.dt, p.2]
def cellsCr (l : List (Ch × Value)) : List Value := (l.map crCells).flatten
theorem cellsCr_length (l : List (Ch × Value)) : (cellsCr l).length = l.length * 9 := by
  induction l with
  | nil => rfl
  | cons o os ih => have : cellsCr (o :: os) = crCells o ++ cellsCr os := rfl; rw [this, List.length_append, ih]; simp [crCells]; omega
theorem cellsCr_get : ∀ (os : List (Ch × Value)) (i : Nat) (h : i < os.length), ∀ j, j < 9 → (cellsCr os)[i * 9 + j]? = (crCells os[i])[j]? := by
  intro os
  induction os with
  | nil => intro i h; simp at h
  | cons x os ih =>
    intro i h j hj
    have e : cellsCr (x :: os) = crCells x ++ cellsCr os := rfl
    have hl : (crCells x).length = 9 := rfl
    rw [e]
    cases i with
    | zero => rw [List.getElem?_append_left (by omega), Nat.zero_mul, Nat.zero_add]; rfl
    | succ i =>
      rw [List.getElem?_append_right (by omega), hl, show (i + 1) * 9 + j - 9 = i * 9 + j by omega]
      exact ih i (by simpa using h) j hj
def OwC (w : World) (base : Nat) (v : Value) (l : List (Ch × Value)) : Prop := w.ownsRow base 57 9 v l.length (cellsCr l)
theorem OwC.nil (w : World) (base : Nat) : OwC w base (.slice none 0 0) [] := World.ownsRow_nil _ _ _ _
section
variable {w w' : World} {base : Nat} {v : Value} {l : List (Ch × Value)}
theorem OwC.on (h : OwC w base v l) (hb : Below w.heap.size w w') : OwC w' base v l := by
  refine ⟨h.1, ?_⟩
  rcases h.2 with h1 | ⟨g, cap, cur, hv, hbase, hg, h3⟩
  · exact .inl h1
  · exact .inr ⟨g, cap, cur, hv, hbase, (hb.block g (row_lt hg)).trans hg, h3⟩
theorem OwC.row (h : OwC w base v l) : ∀ j, v.ownBlock = some j → base ≤ j := by
  intro j hj
  rcases h.2 with ⟨e, _⟩ | ⟨g, cap, cur, e, hbase, _⟩
  · rw [e] at hj; simp [Value.ownBlock] at hj
  · rw [e] at hj; simp [Value.ownBlock] at hj; omega
theorem OwC.shape (h : OwC w base v l) : ∃ A n c, v = .slice A n c := by
  rcases h.2 with ⟨e, _⟩ | ⟨g, cap, cur, e, _⟩
  · exact ⟨_, _, _, e⟩
  · exact ⟨_, _, _, e⟩
theorem OwC.rd (h : OwC w base v l) (hx : ∀ p ∈ l, (I64 p.1.op ∧ I64 p.1.to.k ∧ I64 p.1.to.g ∧ I64 p.1.dk ∧ U64 p.1.dn) ∧ ∃ A n c, p.2 = .slice A n c ∧ RdI w w.heap.size A n c p.1.od) : ∃ A cap, v = .slice A l.length cap ∧ RdC w w.heap.size A l.length cap (l.map Prod.fst) := by
  rcases h.2 with ⟨rfl, hn⟩ | ⟨g, cap, cur, rfl, hbase, hg, hnc, hm, hs, hl⟩
  · have : l = [] := List.eq_nil_of_length_eq_zero hn
    subst this
    exact ⟨none, 0, rfl, rfl, by simp, by simp [maxLen], by simp, fun h => by simp at h⟩
  · refine ⟨some ⟨g, 0, none⟩, cap, rfl, by simp, hnc, hm, fun c hc => ?_, fun hn => ⟨g, 0, rfl, row_lt hg, fun i hi => ?_⟩⟩
    · obtain ⟨p, hp, rfl⟩ := List.mem_map.1 hc
      exact (hx p hp).1
    · have hi' : i < l.length := by simpa using hi
      obtain ⟨_, A, n, c, e, hr⟩ := hx l[i] (List.getElem_mem hi')
      have t : ∀ j, j < 9 → w.cell? ⟨g, 0 + i * 9 + j, none⟩ = (crCells l[i])[j]? := fun j hj => by
        rw [row_cell hg, Nat.zero_add, ← cellsCr_get l i hi' j hj, ← hl, List.getElem?_take_of_lt (by omega), Array.getElem?_toList]
      refine ⟨A, n, c, ?_, by simpa using hr⟩
      have t8 := t 8 (by omega)
      simp only [List.getElem_map]
      exact ⟨t 0 (by omega), t 1 (by omega), t 2 (by omega), t 3 (by omega), t 4 (by omega), t 5 (by omega), t 6 (by omega), t 7 (by omega), by rw [t8]; exact congrArg some e⟩
end
theorem infoCh : (Tryz.prog.info? 57).map (fun i => (i.zero, i.size, i.bytes)) = some (some (.agg #[.int .i64 0, .string ⟨#[]⟩, .string ⟨#[]⟩, .int .i64 0, .int .i64 0, .int .i64 0, .int .u64 0, .string ⟨#[]⟩, .slice none 0 0]), 9, 112) := by kernel_rfl
def chObj (c : Ch) (A : Option Addr) (n cp : Nat) (ty : TypeId) : Obj := .cells #[.int .i64 c.op, .string (bs c.nm), .string (bs c.to.nm), .int .i64 c.to.k, .int .i64 c.to.g, .int .i64 c.dk, .int .u64 c.dn, .string c.dt, .slice A n cp] ty
theorem run_appCh {w : World} {base : Nat} {v : Value} {l : List (Ch × Value)} (h : OwC w base v l) (c : Ch) (A : Option Addr) (n cp : Nat) (hlen : l.length ≤ 1000000) (hb : base ≤ w.heap.size) (ty : TypeId) :
    ∃ v' w', (Builtin.append_ #[40, 40] ty #[v, .slice (some ⟨w.heap.size, 0, none⟩) 1 1]).run Tryz.prog (w.alloc (chObj c A n cp 57)) = .ok v' w' ∧ OwC w' base v' (l ++ [(c, .slice A n cp)]) ∧ (w.alloc (chObj c A n cp 57)).grownBy w' v.ownBlock := by
  have hi8 := infoCh
  have hk : Below w.heap.size w (w.alloc (chObj c A n cp 57)) := B1 _ _
  cases hi : Tryz.prog.info? 57 with
  | none => rw [hi] at hi8; cases hi8
  | some i =>
    rw [hi] at hi8
    simp only [Option.map_some, Option.some.injEq, Prod.mk.injEq] at hi8
    obtain ⟨hz, hsz, hby⟩ := hi8
    obtain ⟨v', W', hr, ho, hg, hnil⟩ := run_append_own (P := Tryz.prog) (w.alloc (chObj c A n cp 57)) base 40 ty 57 i _ 9 112 Tryz.underlying40 hi hz hsz hby rfl (by omega) v l.length (cellsCr l) (h.on hk) ⟨w.heap.size, 0, none⟩ 1 1 (crCells (c, .slice A n cp)) rfl (fun j u hj => by
      unfold chObj
      rw [add_plain, Nat.zero_add, row_cell (heap_alloc_new w _)]
      match j, hj with | 0, h => exact h | 1, h => exact h | 2, h => exact h | 3, h => exact h | 4, h => exact h | 5, h => exact h | 6, h => exact h | 7, h => exact h | 8, h => exact h) (by intro u hu; simp [crCells] at hu; rcases hu with rfl | rfl | rfl | rfl | rfl | rfl | rfl | rfl | rfl <;> rfl) (by unfold maxLen; omega) (by omega) (Nat.le_trans hb hk.size)
    refine ⟨v', W', hr, ?_, hg⟩
    unfold OwC
    have e : cellsCr (l ++ [(c, .slice A n cp)]) = cellsCr l ++ crCells (c, .slice A n cp) := by simp [cellsCr]
    rw [List.length_append, e]; exact ho

/-- What own has made so far. -/
def OwnSt (w W : World) (cs : List Ch) (j : Nat) (v : Value) : Prop := ∃ ps : List (Ch × Value), ps.map Prod.fst = cs.take j ∧ (∀ p ∈ ps, ∃ A n c, p.2 = .slice A n c ∧ RdI w w.heap.size A n c p.1.od) ∧ OwC W w.heap.size v ps ∧ Below w.heap.size w W
set_option maxHeartbeats 4000000 in
theorem own_any {w : World} {Ac : Option Addr} {m mc : Nat} {cs : List Ch} (hcs : RdC w w.heap.size Ac m mc cs) (hm : m ≤ 1000000) :
    Calls Tryz.prog 9 #[.slice Ac m mc] w fun e w' => ∃ A n c, e = .returned (.slice A n c) ∧ RdC w' w'.heap.size A n c cs ∧ Below w.heap.size w w' := by
  have HM := hid hcs.1
  have hmm : (m : Int) ≤ 1000000 := by omega
  have HX : Hid (∀ c ∈ cs, I64 c.op ∧ I64 c.to.k ∧ I64 c.to.g ∧ I64 c.dk ∧ U64 c.dn) := hid hcs.2.2.2.1
  have HC := hid hcs; clear hcs
  go_enter Tryz.func9, Tryz.ntmps9
  go_wp2_with fail
  go_loopw [3, 8] (fun s i wr => ∃ (j : Nat), j ≤ m ∧ i = .int .i64 j ∧ Hid (OwnSt w wr cs j s)) (fun _ i _ => m - (intOf i).toNat)
  case atStart => exact ⟨0, by omega, rfl, hid ⟨[], rfl, by simp, OwC.nil _ _, B0 w⟩⟩
  case round =>
    obtain ⟨j, hj, rfl, ⟨ps, hps, hrd, how, hbl⟩⟩ := hrel
    obtain ⟨A0, n0, c0, rfl⟩ := how.shape
    by_cases hlt : j < m
    · obtain ⟨c, hc⟩ : ∃ c, cs[j]? = some c := ⟨_, List.getElem?_eq_getElem (by have := HM.out; omega)⟩
      obtain ⟨_, _, b, off, Ao, no, co, rfl, hcc, hod⟩ := HC.out.at hc
      obtain ⟨d0, d1, d2, d3, d4, d5, d6, d7, d8⟩ := hcc wr hbl
      have hji : (j : Int) < m := by omega
      have hj0 : (0 : Int) ≤ j := by omega
      obtain ⟨p, hp⟩ : ∃ p, p = wr.heap.size := ⟨_, rfl⟩
      obtain ⟨w3, hw3⟩ : ∃ w3, w3 = wr.alloc (.cells #[.int .i64 c.op, .string (bs c.nm), .string (bs c.to.nm), .int .i64 c.to.k, .int .i64 c.to.g, .int .i64 c.dk, .int .u64 c.dn, .string c.dt, .slice Ao no co] 52) := ⟨_, rfl⟩
      have HP := hid hp; have HW3 := hid hw3
      have HCB : Hid (CB w3 p c Ao no co 52) := by rw [hw3, hp]; exact hid (CB.new wr c Ao no co _)
      have hb3 : Below wr.heap.size wr w3 := by rw [hw3]; exact B1 _ _
      have hlen : ps.length ≤ 1000000 := by have := congrArg List.length hps; rw [List.length_map, List.length_take] at this; omega
      obtain ⟨v', w4, hrun, hown, hgr⟩ := run_appCh (how.on hb3) c Ao no co hlen (Nat.le_trans hbl.size hb3.size) 40
      have hbl4 : Below w.heap.size w w4 := Below.grown ((hbl.trans (hb3.mono hbl.size)).trans ((B1 w3 (chObj c Ao no co 57)).mono (Nat.le_trans hbl.size hb3.size))) hgr (by have := hbl.size; have := hb3.size; simp; omega) (fun i e => how.row i e)
      have HRUN := hid hrun
      have HST : Hid (OwnSt w w4 cs (j + 1) v') := hid ⟨ps ++ [(c, .slice Ao no co)], by rw [List.map_append, hps, List.take_add_one, hc]; rfl, fun q hq => by
        rw [List.mem_append] at hq
        rcases hq with hq | hq
        · exact hrd q hq
        · simp at hq; subst hq; exact ⟨_, _, _, rfl, hod⟩, hown, hbl4⟩
      unfold chObj at HRUN
      clear hcc hod hc hp hw3 hrun hown hgr hbl4 hlen hb3 hps hrd how hbl
      go_upto_region 5 with fail
      rw [← HW3.out, ← HP.out]
      clear d0 d1 d2 d3 d4 d5 d6 d7 d8
      obtain ⟨y0, y1, y2, y3, y4, y5, y6, y7, y8⟩ := HCB.out.cells
      go_wp2_with (at_builtin; refine wpList_appG rfl _ _ rfl rfl rfl HRUN.out ?_)
      exact ⟨⟨j + 1, by omega, by go_num, HST⟩, by simp [intOf]; omega⟩
    · obtain rfl : j = m := by omega
      have et : cs.take j = cs := by rw [← HM.out]; exact List.take_length
      rw [et] at hps
      have HR : Hid (∃ A n c, Value.slice A0 n0 c0 = .slice A n c ∧ RdC wr wr.heap.size A n c cs) := hid (by
        obtain ⟨A, cap, e, hr⟩ := how.rd (fun p hp => by
          obtain ⟨A, n, c, e, hri⟩ := hrd p hp
          refine ⟨HX.out p.1 (by rw [← hps]; exact List.mem_map.2 ⟨p, hp, rfl⟩), A, n, c, e, hri.on hbl⟩)
        rw [hps] at hr
        exact ⟨_, _, _, e, hr⟩)
      have HBL := hid hbl
      clear hps hrd how hbl et
      go_wp2_with fail
      go_ret
      obtain ⟨A, n, c, e, hr⟩ := HR.out
      cases e
      exact ⟨_, _, _, rfl, hr, HBL.out⟩
end Go.Proofs.YtjodbopnibdolaaGreat

namespace Go.Proofs.YtjodbopnibdolaaGreat
open Go.RowKit
set_option linter.unusedVariables false
set_option linter.unusedSimpArgs false

/-- Values that are right of the fields. -/
def okV (l : List Fd) (vs : List Va) : Prop := l.length ≤ vs.length ∧ ∀ (i : Nat) f v, l[i]? = some f → vs[i]? = some v → rightF v.k v.n v.t.size f.k f.g = true ∧ U64 v.n
theorem okV.at {l : List Fd} {vs : List Va} (h : okV l vs) {i : Nat} {f : Fd} (hf : l[i]? = some f) : ∃ v, vs[i]? = some v ∧ rightF v.k v.n v.t.size f.k f.g = true ∧ U64 v.n := by
  have hi := (List.getElem?_eq_some_iff.1 hf).1
  obtain ⟨v, hv⟩ : ∃ v, vs[i]? = some v := ⟨_, List.getElem?_eq_getElem (by have := h.1; omega)⟩
  exact ⟨v, hv, h.2 i f v hf hv⟩
theorem layT_layN {l : List Fd} (hr : rightL l = true) : layT l = layN l := layT_right hr
theorem objS_len {l : List Fd} {vs : List Va} (hr : rightL l = true) (h : okV l vs) : ∀ k, k ≤ l.length → ((objS l vs k).length : Int) = layN l
  | 0, _ => by
    have := layN_bounds hr
    show ((List.replicate (layT l).toNat (0 : UInt8)).length : Int) = _
    rw [List.length_replicate, layT_layN hr]; omega
  | k + 1, hk => by
    obtain ⟨f, hf⟩ : ∃ f, l[k]? = some f := ⟨_, List.getElem?_eq_getElem (by omega)⟩
    obtain ⟨v, hv, hvr, _⟩ := h.at hf
    obtain ⟨p, hp⟩ : ∃ p, (layP 0 l)[k]? = some p := ⟨_, layP_get hf 0⟩
    have ih := objS_len hr h k (by omega)
    have hfi := ((rightL_iff.1 hr).2 k f hf).2.2
    rw [objS_succ hf hv, set_some ⟨hr, ih⟩ hfi hf hp, if_pos hvr]
    show ((setL _ _ _).length : Int) = _
    rw [set_length hr ih hf hp hvr]; exact ih
theorem objS_set {l : List Fd} {vs : List Va} (hr : rightL l = true) (h : okV l vs) {k : Nat} {f : Fd} {v : Va} (hf : l[k]? = some f) (hv : vs[k]? = some v) : setS6 (objS l vs k) l f.nm v.k v.n v.t = (objS l vs (k + 1), 0) := by
  obtain ⟨p, hp⟩ : ∃ p, (layP 0 l)[k]? = some p := ⟨_, layP_get hf 0⟩
  have hk := (List.getElem?_eq_some_iff.1 hf).1
  have ih := objS_len hr h k (by omega)
  have hfi := ((rightL_iff.1 hr).2 k f hf).2.2
  have hvr := (h.2 k f v hf hv).1
  rw [objS_succ hf hv, set_some ⟨hr, ih⟩ hfi hf hp, if_pos hvr]
theorem objS_get {l : List Fd} {vs : List Va} (hr : rightL l = true) (h : okV l vs) : ∀ k, k ≤ l.length → ∀ i f v, i < k → l[i]? = some f → vs[i]? = some v → getR (objS l vs k) l f.nm = .tuple #[.agg #[.int .i64 v.k, .int .u64 v.n, .string v.t], .int .i64 0]
  | 0, _, i, _, _, hi, _, _ => by omega
  | k + 1, hk, i, f, v, hi, hf, hv => by
    obtain ⟨g, hg⟩ : ∃ g, l[k]? = some g := ⟨_, List.getElem?_eq_getElem (by omega)⟩
    obtain ⟨u, hu, hur, hun⟩ := h.at hg
    obtain ⟨p, hp⟩ : ∃ p, (layP 0 l)[k]? = some p := ⟨_, layP_get hg 0⟩
    have hlen := objS_len hr h k (by omega)
    have hfi := ((rightL_iff.1 hr).2 k g hg).2.2
    have e : objS l vs (k + 1) = setL (objS l vs k) p.toNat (encB u.k u.n u.t g.k g.g) := by
      rw [objS_succ hg hu, set_some ⟨hr, hlen⟩ hfi hg hp, if_pos hur]
    rw [e]
    by_cases c : i = k
    · subst c
      rw [hf] at hg; cases hg
      rw [hv] at hu; cases hu
      exact get_set_same hr hlen hf hp hun hur
    · rw [get_set_other hr hlen hg hp hur hf c]
      exact objS_get hr h k (by omega) i f v (by omega) hf hv
/-- All of an object. -/
def objA (l : List Fd) (vs : List Va) : List UInt8 := objS l vs l.length
theorem objA_len {l : List Fd} {vs : List Va} (hr : rightL l = true) (h : okV l vs) : ((objA l vs).length : Int) = layN l := objS_len hr h _ (Nat.le_refl _)
theorem objA_get {l : List Fd} {vs : List Va} (hr : rightL l = true) (h : okV l vs) {i : Nat} {f : Fd} {v : Va} (hf : l[i]? = some f) (hv : vs[i]? = some v) : getR (objA l vs) l f.nm = .tuple #[.agg #[.int .i64 v.k, .int .u64 v.n, .string v.t], .int .i64 0] :=
  objS_get hr h _ (Nat.le_refl _) i f v (List.getElem?_eq_some_iff.1 hf).1 hf hv
theorem objS_short {l : List Fd} {vs : List Va} (hr : rightL l = true) (h : okV l vs) : ∀ k, (objS l vs k).length ≤ 1160
  | 0 => by
    have h1 := objS_len hr h 0 (by omega); have := layN_bounds hr; omega
  | k + 1 => by
    by_cases c : k + 1 ≤ l.length
    · have h1 := objS_len hr h (k + 1) c; have := layN_bounds hr; omega
    · have e : objS l vs (k + 1) = objS l vs k := by
        show (match l[k]?, vs[k]? with | some f, some v => _ | _, _ => _) = _
        rw [List.getElem?_eq_none (by omega)]
      rw [e]; exact objS_short hr h k

/-- What a move makes. -/
def valF (o : List Fd) (vs : List Va) (m : Mv) (f : Fd) : Va :=
  if m.fr = -1 then ⟨m.k, m.n, m.t⟩ else match vs[m.fr.toNat]?, o[m.fr.toNat]? with
    | some v, some g => ⟨f.k, castN v.n g.k f.k, castT v.t f.k f.g⟩
    | _, _ => ⟨0, 0, ⟨#[]⟩⟩
def valsT (T : Tb) (vs : List Va) : List Va := (T.mv.zip T.nw).map fun p => valF T.o vs p.1 p.2
theorem valsT_get {T : Tb} {vs : List Va} {i : Nat} {m : Mv} {f : Fd} (hm : T.mv[i]? = some m) (hf : T.nw[i]? = some f) : (valsT T vs)[i]? = some (valF T.o vs m f) := by
  unfold valsT; rw [List.getElem?_map, zip_get hm hf]; rfl
theorem valsT_length {T : Tb} (hT : rightT T = true) (vs : List Va) : (valsT T vs).length = T.nw.length := by
  unfold valsT; rw [List.length_map, List.length_zip, (rightT_iff.1 hT).2.2.1, Nat.min_self]
theorem valF_right {T : Tb} {vs : List Va} (hT : rightT T = true) (h : okV T.o vs) (hu : ∀ m ∈ T.mv, U64 m.n) {i : Nat} {m : Mv} {f : Fd} (hm : T.mv[i]? = some m) (hf : T.nw[i]? = some f) : rightF (valF T.o vs m f).k (valF T.o vs m f).n (valF T.o vs m f).t.size f.k f.g = true ∧ U64 (valF T.o vs m f).n := by
  have hb := (rightT_iff.1 hT).2.2.2 i m f hm hf
  unfold valF
  rcases mvB_from hb with e | ⟨g, h0, hg, _, hc⟩
  · rw [if_pos e]
    rw [mvB_new e] at hb
    simp only [Bool.and_eq_true] at hb
    exact ⟨hb.1, hu m (List.mem_of_getElem? hm)⟩
  · rw [if_neg (by omega)]
    obtain ⟨v, hv, hvr, hvn⟩ := h.at hg
    rw [hv, hg]
    exact ⟨(cast_right hvn hvr hc).1, castN_U64 hvn⟩
theorem valsT_ok {T : Tb} {vs : List Va} (hT : rightT T = true) (h : okV T.o vs) (hu : ∀ m ∈ T.mv, U64 m.n) : okV T.nw (valsT T vs) := by
  refine ⟨Nat.le_of_eq (valsT_length hT vs).symm, fun i f v hf hv => ?_⟩
  have hi := (List.getElem?_eq_some_iff.1 hf).1
  obtain ⟨m, hm⟩ : ∃ m, T.mv[i]? = some m := ⟨_, List.getElem?_eq_getElem (by have := (rightT_iff.1 hT).2.2.1; omega)⟩
  rw [valsT_get hm hf] at hv
  cases hv
  exact valF_right hT h hu hm hf
/-- A cast to the same field leaves a right value as it was. -/
theorem cast_self {k n : Int} {t : ByteArray} {fk g : Int} (h : rightF k n t.size fk g = true) : fk = k ∧ castN n fk fk = n ∧ castT t fk g = t := by
  obtain ⟨hvk, hm⟩ := right_kind h
  refine ⟨hvk.symm, ?_, ?_⟩
  · unfold castN
    by_cases h10 : fk = 10
    · subst h10; rfl
    · rw [if_neg h10, if_neg (by omega)]
  · unfold castT
    by_cases h12 : fk = 12
    · subst h12
      rw [if_pos rfl]
      have hs : (t.size : Int) = g := by
        unfold rightF at h
        simp only [Bool.and_eq_true, if_true, decide_eq_true_eq] at h
        exact h.2.2
      have hg : g.toNat = t.size := by omega
      rw [hg]
      apply ByteArray.ext
      show ((t ++ zs t.size).extract 0 t.size).data = t.data
      rw [ByteArray.data_extract, ByteArray.data_append]
      have e : t.size = t.data.size := rfl
      rw [e]
      apply Array.ext'
      simp
      exact List.take_of_length_le (by rw [Array.length_toList]; exact Nat.le_refl _)
    · rw [if_neg h12]
      have hs : t.size = 0 := by
        unfold rightF at h
        rw [if_neg h12] at h
        simp only [Bool.and_eq_true, decide_eq_true_eq] at h
        exact h.2.1
      exact (size_nil t hs).symm
/-- A field that stays is made its own value. -/
theorem valF_kept {T : Tb} {vs : List Va} (h : okV T.o vs) {x : Nat} {f : Fd} {v : Va} {m : Mv} (hf : T.o[x]? = some f) (hv : vs[x]? = some v) (hm : m.fr = (x : Int)) : valF T.o vs m f = v := by
  unfold valF
  rw [if_neg (by omega), hm, Int.toNat_natCast, hv, hf]
  obtain ⟨h1, h2, h3⟩ := cast_self (h.2 x f v hf hv).1
  show Va.mk f.k (castN v.n f.k f.k) (castT v.t f.k f.g) = v
  rw [h2, h3, h1]
end Go.Proofs.YtjodbopnibdolaaGreat

namespace Go.Proofs.YtjodbopnibdolaaGreat
open Go.RowKit
set_option linter.unusedVariables false
set_option linter.unusedSimpArgs false

theorem thr_U64 {a b : Tb} (ha : ∀ m ∈ a.mv, U64 m.n) (hb : ∀ m ∈ b.mv, U64 m.n) : ∀ m ∈ thrL a b, U64 m.n := fun y hy => by
  unfold thrL at hy
  rw [List.mem_map] at hy
  obtain ⟨p, hp, rfl⟩ := hy
  obtain ⟨i, hi⟩ := List.getElem?_of_mem hp
  obtain ⟨h1, h2⟩ := zip_at hi
  have hm := hb _ (List.mem_of_getElem? h1)
  unfold thrM
  by_cases c : 0 ≤ p.1.fr
  · rw [if_pos c]
    cases hx : a.mv[p.1.fr.toNat]? with
    | none => exact hm
    | some x =>
      cases hg : a.nw[p.1.fr.toNat]? with
      | none => exact hm
      | some g =>
        have hxx := ha x (List.mem_of_getElem? hx)
        dsimp only
        by_cases c2 : 0 ≤ x.fr
        · rw [if_pos c2]; exact hxx
        · rw [if_neg c2]; exact castN_U64 hxx
  · rw [if_neg c]; exact hm
theorem mkT_U64 {l : List Fd} {c : Ch} (h : mkE l c = 0) (hc : chOk c) : ∀ m ∈ (mkT l c).mv, U64 m.n := by
  obtain ⟨hr, h1, h5, hk, hcc, ha, ho, hn⟩ := mkE_facts h
  rw [mkT_ok h]
  exact fun m hm => (mvC_ok hc (right_len hr) (fun e => by
    have hab : allB c.od l.length = true := by unfold noOrd at ho; rw [e] at ho; simpa using ho
    exact allB_mem hab) m hm).2.2
theorem all_rightT : ∀ {cs : List Ch} {T R : Tb}, (∀ c ∈ cs, chOk c) → allF T cs = (R, 0) → rightT T = true → (∀ m ∈ T.mv, U64 m.n) → rightT R = true ∧ R.o = T.o ∧ ∀ m ∈ R.mv, U64 m.n
  | [], T, R, _, h, hr, hu => by
    have e : T = R := congrArg Prod.fst h
    rw [← e]; exact ⟨hr, rfl, hu⟩
  | c :: cs, T, R, hc, h, hr, hu => by
    unfold allF at h
    by_cases h0 : mkE T.nw c ≠ 0
    · rw [if_pos h0] at h; exact absurd (congrArg Prod.snd h) h0
    · rw [if_neg h0] at h
      have h0' : mkE T.nw c = 0 := by omega
      cases hcb : compB T (mkT T.nw c) with
      | false => rw [hcb] at h; have := congrArg Prod.snd h; simp at this
      | true =>
        rw [hcb, if_pos rfl] at h
        have hr2 := compT_right hu (compE_ok' hcb)
        have e := compT_ok' hcb
        obtain ⟨g1, g2, g3⟩ := all_rightT (fun c hc' => hc c (List.mem_cons_of_mem _ hc')) h hr2 (by rw [e]; exact thr_U64 hu (mkT_U64 h0' (hc c (by simp))))
        exact ⟨g1, g2.trans (by rw [e]), g3⟩
theorem all8_rightT {l : List Fd} {cs : List Ch} (h : (all8 l cs).2 = 0) (hr : rightL l = true) (hc : ∀ c ∈ cs, chOk c) : rightT (all8 l cs).1 = true ∧ (all8 l cs).1.o = l ∧ ∀ m ∈ (all8 l cs).1.mv, U64 m.n := by
  unfold all8 at h ⊢
  rw [if_pos hr] at h ⊢
  obtain ⟨g1, g2, g3⟩ := all_rightT hc (Prod.ext rfl h) (same_rightT hr) (fun m hm => by
    rw [sameT_right hr] at hm
    obtain ⟨i, hi⟩ := List.getElem?_of_mem hm
    have hl : i < l.length := by
      have := (List.getElem?_eq_some_iff.1 hi).1
      have e : (selfL l.length).length = l.length := selfL_length _
      exact e ▸ this
    rw [show (selfL l.length)[i]? = some (selfM i) from selfL_get hl] at hi
    cases hi
    exact (show U64 0 from ⟨Int.le_refl _, by rw [pw8]; decide⟩))
  exact ⟨g1, g2.trans (by rw [sameT_right hr]), g3⟩
/-- What no change names: it is there, and its value, too. -/
theorem all8_value {l : List Fd} {cs : List Ch} {vs : List Va} (h : (all8 l cs).2 = 0) (hr : rightL l = true) (hc : ∀ c ∈ cs, chOk c) (hv : okV l vs) {x : Nat} {f : Fd} {v : Va} (hf : l[x]? = some f) (hvx : vs[x]? = some v) (hn : namedB cs f.nm = false) :
    ∃ i : Nat, (all8 l cs).1.nw[i]? = some f ∧ (valsT (all8 l cs).1 vs)[i]? = some v := by
  obtain ⟨j, m, h1, h2, h3⟩ := all8_kept h hr hf hn
  obtain ⟨g1, g2, g3⟩ := all8_rightT h hr hc
  refine ⟨j, h1, ?_⟩
  rw [valsT_get h2 h1, valF_kept (by rw [g2]; exact hv) (by rw [g2]; exact hf) hvx h3]
end Go.Proofs.YtjodbopnibdolaaGreat
