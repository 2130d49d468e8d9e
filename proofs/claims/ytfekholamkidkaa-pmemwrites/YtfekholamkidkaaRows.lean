/-
  No cell of these rows narrows 'for every input' (looked for: loops, veiled, ifaces, maps, wideKeys, modest, calm, conditions, laid).
  DERIVED. THE GIVEN ROWS OF THIS SEAT. 5 by the template 'for every input the law returns true; each argument reads behind the call as it read before'; 0 by the template 'total and deterministic' (their statements: YtfekholamkidkaaTotals.lean).
  GIVEN WITH THE SEED: the statements are not yours to turn. If you find one false, say at which input.
  Laid BY PROGRAM, IN A SANDBOX (cutbox-rows.mjs): the forced cells as the released guide's own fill.sh prints them over the translation 1545469899b2f6d9… (all of the seat's roots in one cut). By AI agents, Wed Nov 11 2026. No macro, syntax, notation, axiom, sorry.
-/
import Derived.Test.YtfekholamkidkaaChecked
import GoSem.Claim
import GoSem.ClaimJoined
import GoSem.ClaimMapViews
import Derived.JoinedTies
import Derived.KernelRfl
namespace Go.Proofs.Ytfekholamkidkaa
/- THE CELL 'sum', in the pinned program and in every row, IS THE sha256 OF THE DUMP (.gsa) THAT YtfekholamkidkaaProg.lean LOADS. Nothing in Lean hashes anything: it is a label: what it is worth is what the hold of that sum in a sandbox is worth. -/
noncomputable def Try.pinned : Pinned := { name := "ytfekholamkidkaa", sum := "1545469899b2f6d90646dbce3dc5ba386a3ac78deb71d62c4bdd3c73b56c481d", checked := Try.checked }
namespace Rows
def none {H : Type} : Left H := { results := [], args := [] }

/-- 'ecdysislaw03.PmemNew': WHATEVER THE INPUT: true; the input reads as it did. -/
def pmemNewSpec : ChangeSpec := { name := "pmemNew", fn := fun _ => fun
  | [d] => { results := [.lit (.bool true)], args := [d] }
  | _ => none }
def pmemNewRow : OpenClaim := { program := "ytfekholamkidkaa", sum := "1545469899b2f6d90646dbce3dc5ba386a3ac78deb71d62c4bdd3c73b56c481d", func := "ecdysis/ecdysislaw03.PmemNew", spec := "pmemNew", unfollowed := true, recurses := true, apart := false }
def PmemNewSaid : Prop := pmemNewRow.holds Try.pinned (OpenSpec.ofChange pmemNewSpec)

/-- ITS FALSE NEIGHBOUR: 'it returns false'. Refute it at one input. -/
def pmemNewWrong : ChangeSpec := { name := "pmemNew", fn := fun _ => fun
  | [d] => { results := [.lit (.bool false)], args := [d] }
  | _ => none }
def PmemNewWrongFalsely : Prop := pmemNewRow.holds Try.pinned (OpenSpec.ofChange pmemNewWrong)

/-- 'ecdysislaw03.PmemSafe': WHATEVER THE INPUT: true; the input reads as it did. -/
def pmemSafeSpec : ChangeSpec := { name := "pmemSafe", fn := fun _ => fun
  | [d1, d2, d3] => { results := [.lit (.bool true)], args := [d1, d2, d3] }
  | _ => none }
def pmemSafeRow : OpenClaim := { program := "ytfekholamkidkaa", sum := "1545469899b2f6d90646dbce3dc5ba386a3ac78deb71d62c4bdd3c73b56c481d", func := "ecdysis/ecdysislaw03.PmemSafe", spec := "pmemSafe", inPlace := ["maps.clone"], unfollowed := true, recurses := true, apart := false }
def PmemSafeSaid : Prop := pmemSafeRow.holds Try.pinned (OpenSpec.ofChange pmemSafeSpec)

/-- ITS FALSE NEIGHBOUR: 'it returns false'. Refute it at one input. -/
def pmemSafeWrong : ChangeSpec := { name := "pmemSafe", fn := fun _ => fun
  | [d1, d2, d3] => { results := [.lit (.bool false)], args := [d1, d2, d3] }
  | _ => none }
def PmemSafeWrongFalsely : Prop := pmemSafeRow.holds Try.pinned (OpenSpec.ofChange pmemSafeWrong)

/-- 'ecdysislaw03.PmemCopies': WHATEVER THE INPUT: true; the input reads as it did. -/
def pmemCopiesSpec : ChangeSpec := { name := "pmemCopies", fn := fun _ => fun
  | [d1, d2] => { results := [.lit (.bool true)], args := [d1, d2] }
  | _ => none }
def pmemCopiesRow : OpenClaim := { program := "ytfekholamkidkaa", sum := "1545469899b2f6d90646dbce3dc5ba386a3ac78deb71d62c4bdd3c73b56c481d", func := "ecdysis/ecdysislaw03.PmemCopies", spec := "pmemCopies", inPlace := ["maps.clone"], unfollowed := true, recurses := true, apart := false }
def PmemCopiesSaid : Prop := pmemCopiesRow.holds Try.pinned (OpenSpec.ofChange pmemCopiesSpec)

/-- ITS FALSE NEIGHBOUR: 'it returns false'. Refute it at one input. -/
def pmemCopiesWrong : ChangeSpec := { name := "pmemCopies", fn := fun _ => fun
  | [d1, d2] => { results := [.lit (.bool false)], args := [d1, d2] }
  | _ => none }
def PmemCopiesWrongFalsely : Prop := pmemCopiesRow.holds Try.pinned (OpenSpec.ofChange pmemCopiesWrong)

/-- 'ecdysislaw03.PmemWrites': WHATEVER THE INPUT: true; the input reads as it did. -/
def pmemWritesSpec : ChangeSpec := { name := "pmemWrites", fn := fun _ => fun
  | [d1, d2] => { results := [.lit (.bool true)], args := [d1, d2] }
  | _ => none }
def pmemWritesRow : OpenClaim := { program := "ytfekholamkidkaa", sum := "1545469899b2f6d90646dbce3dc5ba386a3ac78deb71d62c4bdd3c73b56c481d", func := "ecdysis/ecdysislaw03.PmemWrites", spec := "pmemWrites", unfollowed := true, recurses := true, apart := false }
def PmemWritesSaid : Prop := pmemWritesRow.holds Try.pinned (OpenSpec.ofChange pmemWritesSpec)

/-- ITS FALSE NEIGHBOUR: 'it returns false'. Refute it at one input. -/
def pmemWritesWrong : ChangeSpec := { name := "pmemWrites", fn := fun _ => fun
  | [d1, d2] => { results := [.lit (.bool false)], args := [d1, d2] }
  | _ => none }
def PmemWritesWrongFalsely : Prop := pmemWritesRow.holds Try.pinned (OpenSpec.ofChange pmemWritesWrong)

/-- 'ecdysislaw03.PmemFences': WHATEVER THE INPUT: true; the input reads as it did. -/
def pmemFencesSpec : ChangeSpec := { name := "pmemFences", fn := fun _ => fun
  | [d] => { results := [.lit (.bool true)], args := [d] }
  | _ => none }
def pmemFencesRow : OpenClaim := { program := "ytfekholamkidkaa", sum := "1545469899b2f6d90646dbce3dc5ba386a3ac78deb71d62c4bdd3c73b56c481d", func := "ecdysis/ecdysislaw03.PmemFences", spec := "pmemFences", unfollowed := true, recurses := true, apart := false }
def PmemFencesSaid : Prop := pmemFencesRow.holds Try.pinned (OpenSpec.ofChange pmemFencesSpec)

/-- ITS FALSE NEIGHBOUR: 'it returns false'. Refute it at one input. -/
def pmemFencesWrong : ChangeSpec := { name := "pmemFences", fn := fun _ => fun
  | [d] => { results := [.lit (.bool false)], args := [d] }
  | _ => none }
def PmemFencesWrongFalsely : Prop := pmemFencesRow.holds Try.pinned (OpenSpec.ofChange pmemFencesWrong)

/- THE SECOND FORM. 'bulk': how many values and letters a reading holds, each counted each time it is reached (what is shared counts as often as it is met; a slice's spare places count too). A statement '..UptoSaid' is the law's where the arguments, and the package variables that the reading takes, are together of bulk at most 1048576: NARROWER than '..Said'. Prove '..Said' where nothing that the law and all that it calls make is longer than what came in: it says more and counts as full. Else prove '..UptoSaid'. A law counts once. -/
mutual
def uptoBulk {H : Type} : DataW H → Nat
  | .lit (.string bytes) => bytes.length + 1
  | .lit _ => 1
  | .nil => 1
  | .ptr d => uptoBulk d + 1
  | .slice elems spare => uptoBulkAll elems + uptoBulkAll spare + 1
  | .agg parts => uptoBulkAll parts + 1
  | .iface _ d => uptoBulk d + 1
  | .map entries => uptoBulkEntries entries + 1
  | .held _ => 1
def uptoBulkAll {H : Type} : List (DataW H) → Nat
  | [] => 0
  | d :: r => uptoBulk d + uptoBulkAll r
def uptoBulkEntries {H : Type} : List (Lit × DataW H) → Nat
  | [] => 0
  | x :: r => uptoBulkEntry x + uptoBulkEntries r
def uptoBulkEntry {H : Type} : Lit × DataW H → Nat
  | (.string bytes, d) => bytes.length + uptoBulk d + 1
  | (_, d) => uptoBulk d + 1
 end
def uptoSmall : (H : Type) → List (DataW H) → Bool := fun _ ds => decide (uptoBulkAll ds ≤ 1048576)
def OpenSpec.upto (s : _root_.Go.ChangeSpec) : _root_.Go.OpenSpec := { _root_.Go.OpenSpec.ofChange s with cond := some uptoSmall }

/-- 'ecdysislaw03.PmemNew', WHERE WHAT IT READS IS OF BULK AT MOST 1048576: true; the input reads as it did. -/
def pmemNewUptoRow : OpenClaim := { program := "ytfekholamkidkaa", sum := "1545469899b2f6d90646dbce3dc5ba386a3ac78deb71d62c4bdd3c73b56c481d", func := "ecdysis/ecdysislaw03.PmemNew", spec := "pmemNew", unfollowed := true, recurses := true, apart := false, narrowed := true }
def PmemNewUptoSaid : Prop := pmemNewUptoRow.holds Try.pinned (OpenSpec.upto pmemNewSpec)

/-- 'ecdysislaw03.PmemSafe', WHERE WHAT IT READS IS OF BULK AT MOST 1048576: true; the input reads as it did. -/
def pmemSafeUptoRow : OpenClaim := { program := "ytfekholamkidkaa", sum := "1545469899b2f6d90646dbce3dc5ba386a3ac78deb71d62c4bdd3c73b56c481d", func := "ecdysis/ecdysislaw03.PmemSafe", spec := "pmemSafe", inPlace := ["maps.clone"], unfollowed := true, recurses := true, apart := false, narrowed := true }
def PmemSafeUptoSaid : Prop := pmemSafeUptoRow.holds Try.pinned (OpenSpec.upto pmemSafeSpec)

/-- 'ecdysislaw03.PmemCopies', WHERE WHAT IT READS IS OF BULK AT MOST 1048576: true; the input reads as it did. -/
def pmemCopiesUptoRow : OpenClaim := { program := "ytfekholamkidkaa", sum := "1545469899b2f6d90646dbce3dc5ba386a3ac78deb71d62c4bdd3c73b56c481d", func := "ecdysis/ecdysislaw03.PmemCopies", spec := "pmemCopies", inPlace := ["maps.clone"], unfollowed := true, recurses := true, apart := false, narrowed := true }
def PmemCopiesUptoSaid : Prop := pmemCopiesUptoRow.holds Try.pinned (OpenSpec.upto pmemCopiesSpec)

/-- 'ecdysislaw03.PmemWrites', WHERE WHAT IT READS IS OF BULK AT MOST 1048576: true; the input reads as it did. -/
def pmemWritesUptoRow : OpenClaim := { program := "ytfekholamkidkaa", sum := "1545469899b2f6d90646dbce3dc5ba386a3ac78deb71d62c4bdd3c73b56c481d", func := "ecdysis/ecdysislaw03.PmemWrites", spec := "pmemWrites", unfollowed := true, recurses := true, apart := false, narrowed := true }
def PmemWritesUptoSaid : Prop := pmemWritesUptoRow.holds Try.pinned (OpenSpec.upto pmemWritesSpec)

/-- 'ecdysislaw03.PmemFences', WHERE WHAT IT READS IS OF BULK AT MOST 1048576: true; the input reads as it did. -/
def pmemFencesUptoRow : OpenClaim := { program := "ytfekholamkidkaa", sum := "1545469899b2f6d90646dbce3dc5ba386a3ac78deb71d62c4bdd3c73b56c481d", func := "ecdysis/ecdysislaw03.PmemFences", spec := "pmemFences", unfollowed := true, recurses := true, apart := false, narrowed := true }
def PmemFencesUptoSaid : Prop := pmemFencesUptoRow.holds Try.pinned (OpenSpec.upto pmemFencesSpec)

end Rows
end Go.Proofs.Ytfekholamkidkaa
