/-
  No cell of these rows narrows 'for every input' (looked for: loops, veiled, ifaces, maps, wideKeys, modest, calm, conditions, laid).
  DERIVED. THE GIVEN ROWS OF THIS SEAT. 5 by the template 'for every input the law returns true; each argument reads behind the call as it read before'; 0 by the template 'total and deterministic' (their statements: YtpmljbcgaeodjaaTotals.lean).
  GIVEN WITH THE SEED: the statements are not yours to turn. If you find one false, say at which input.
  Laid BY PROGRAM, IN A SANDBOX (cutbox-rows.mjs): the forced cells as the released guide's own fill.sh prints them over the translation de688281ad730d07… (all of the seat's roots in one cut). By AI agents, Wed Nov 11 2026. No macro, syntax, notation, axiom, sorry.
-/
import Derived.Test.YtpmljbcgaeodjaaChecked
import GoSem.Claim
import GoSem.ClaimJoined
import GoSem.ClaimMapViews
import Derived.JoinedTies
import Derived.KernelRfl
namespace Go.Proofs.Ytpmljbcgaeodjaa
/- THE CELL 'sum', in the pinned program and in every row, IS THE sha256 OF THE DUMP (.gsa) THAT YtpmljbcgaeodjaaProg.lean LOADS. Nothing in Lean hashes anything: it is a label: what it is worth is what the hold of that sum in a sandbox is worth. -/
noncomputable def Try.pinned : Pinned := { name := "ytpmljbcgaeodjaa", sum := "de688281ad730d074ee8fe5fd867ff8123833957a690cf0c61754f4fca2a6d54", checked := Try.checked }
namespace Rows
def none {H : Type} : Left H := { results := [], args := [] }

/-- 'ecdysislaw04.WalAtomic': WHATEVER THE INPUT: true; the input reads as it did. -/
def walAtomicSpec : ChangeSpec := { name := "walAtomic", fn := fun _ => fun
  | [d1, d2, d3] => { results := [.lit (.bool true)], args := [d1, d2, d3] }
  | _ => none }
def walAtomicRow : OpenClaim := { program := "ytpmljbcgaeodjaa", sum := "de688281ad730d074ee8fe5fd867ff8123833957a690cf0c61754f4fca2a6d54", func := "ecdysis/ecdysislaw04.WalAtomic", spec := "walAtomic", inPlace := ["maps.clone"], unfollowed := true, recurses := true, apart := false }
def WalAtomicSaid : Prop := walAtomicRow.holds Try.pinned (OpenSpec.ofChange walAtomicSpec)

/-- ITS FALSE NEIGHBOUR: 'it returns false'. Refute it at one input. -/
def walAtomicWrong : ChangeSpec := { name := "walAtomic", fn := fun _ => fun
  | [d1, d2, d3] => { results := [.lit (.bool false)], args := [d1, d2, d3] }
  | _ => none }
def WalAtomicWrongFalsely : Prop := walAtomicRow.holds Try.pinned (OpenSpec.ofChange walAtomicWrong)

/-- 'ecdysislaw04.WalSeqs': WHATEVER THE INPUT: true; the input reads as it did. -/
def walSeqsSpec : ChangeSpec := { name := "walSeqs", fn := fun _ => fun
  | [d] => { results := [.lit (.bool true)], args := [d] }
  | _ => none }
def walSeqsRow : OpenClaim := { program := "ytpmljbcgaeodjaa", sum := "de688281ad730d074ee8fe5fd867ff8123833957a690cf0c61754f4fca2a6d54", func := "ecdysis/ecdysislaw04.WalSeqs", spec := "walSeqs", unfollowed := true, recurses := true, apart := false }
def WalSeqsSaid : Prop := walSeqsRow.holds Try.pinned (OpenSpec.ofChange walSeqsSpec)

/-- ITS FALSE NEIGHBOUR: 'it returns false'. Refute it at one input. -/
def walSeqsWrong : ChangeSpec := { name := "walSeqs", fn := fun _ => fun
  | [d] => { results := [.lit (.bool false)], args := [d] }
  | _ => none }
def WalSeqsWrongFalsely : Prop := walSeqsRow.holds Try.pinned (OpenSpec.ofChange walSeqsWrong)

/-- 'ecdysislaw04.WalNothing': WHATEVER THE INPUT: true; the input reads as it did. -/
def walNothingSpec : ChangeSpec := { name := "walNothing", fn := fun _ => fun
  | [d] => { results := [.lit (.bool true)], args := [d] }
  | _ => none }
def walNothingRow : OpenClaim := { program := "ytpmljbcgaeodjaa", sum := "de688281ad730d074ee8fe5fd867ff8123833957a690cf0c61754f4fca2a6d54", func := "ecdysis/ecdysislaw04.WalNothing", spec := "walNothing", unfollowed := true, recurses := true, apart := false }
def WalNothingSaid : Prop := walNothingRow.holds Try.pinned (OpenSpec.ofChange walNothingSpec)

/-- ITS FALSE NEIGHBOUR: 'it returns false'. Refute it at one input. -/
def walNothingWrong : ChangeSpec := { name := "walNothing", fn := fun _ => fun
  | [d] => { results := [.lit (.bool false)], args := [d] }
  | _ => none }
def WalNothingWrongFalsely : Prop := walNothingRow.holds Try.pinned (OpenSpec.ofChange walNothingWrong)

/-- 'ecdysislaw04.WalTorn': WHATEVER THE INPUT: true; the input reads as it did. -/
def walTornSpec : ChangeSpec := { name := "walTorn", fn := fun _ => fun
  | [d1, d2, d3] => { results := [.lit (.bool true)], args := [d1, d2, d3] }
  | _ => none }
def walTornRow : OpenClaim := { program := "ytpmljbcgaeodjaa", sum := "de688281ad730d074ee8fe5fd867ff8123833957a690cf0c61754f4fca2a6d54", func := "ecdysis/ecdysislaw04.WalTorn", spec := "walTorn", unfollowed := true, recurses := true, apart := false }
def WalTornSaid : Prop := walTornRow.holds Try.pinned (OpenSpec.ofChange walTornSpec)

/-- ITS FALSE NEIGHBOUR: 'it returns false'. Refute it at one input. -/
def walTornWrong : ChangeSpec := { name := "walTorn", fn := fun _ => fun
  | [d1, d2, d3] => { results := [.lit (.bool false)], args := [d1, d2, d3] }
  | _ => none }
def WalTornWrongFalsely : Prop := walTornRow.holds Try.pinned (OpenSpec.ofChange walTornWrong)

/-- 'ecdysislaw04.WalRooms': WHATEVER THE INPUT: true; the input reads as it did. -/
def walRoomsSpec : ChangeSpec := { name := "walRooms", fn := fun _ => fun
  | [d] => { results := [.lit (.bool true)], args := [d] }
  | _ => none }
def walRoomsRow : OpenClaim := { program := "ytpmljbcgaeodjaa", sum := "de688281ad730d074ee8fe5fd867ff8123833957a690cf0c61754f4fca2a6d54", func := "ecdysis/ecdysislaw04.WalRooms", spec := "walRooms", unfollowed := true, recurses := true, apart := false }
def WalRoomsSaid : Prop := walRoomsRow.holds Try.pinned (OpenSpec.ofChange walRoomsSpec)

/-- ITS FALSE NEIGHBOUR: 'it returns false'. Refute it at one input. -/
def walRoomsWrong : ChangeSpec := { name := "walRooms", fn := fun _ => fun
  | [d] => { results := [.lit (.bool false)], args := [d] }
  | _ => none }
def WalRoomsWrongFalsely : Prop := walRoomsRow.holds Try.pinned (OpenSpec.ofChange walRoomsWrong)

/- THE SECOND FORM. 'bulk': how many values and letters a reading holds, each counted each time it is reached (what is shared counts as often as it is met; a slice's spare places count too). A statement '..UptoSaid' is the law's where the arguments, and the package variables that the reading takes, are together of bulk at most 1048576: NARROWER than '..Said'. Prove '..Said' where nothing that the law and all that it calls make is longer than what came in: it says more and counts as full. Else prove '..UptoSaid'. A law counts once. -/
mutual
def uptoBulk {H : Type} : DataW H → Nat
  | .lit (.string bytes) => bytes.length + 1
  | .lit _ => 1
  | .nil => 1
  | .ptr d => uptoBulk d + 1
  | .slice elems spare => uptoBulkAll elems + uptoBulkAll spare + 1
  | .agg parts => uptoBulkAll parts + 1
  | .iface _ d => uptoBulk d + 1
  | .map entries => uptoBulkEntries entries + 1
  | .held _ => 1
def uptoBulkAll {H : Type} : List (DataW H) → Nat
  | [] => 0
  | d :: r => uptoBulk d + uptoBulkAll r
def uptoBulkEntries {H : Type} : List (Lit × DataW H) → Nat
  | [] => 0
  | x :: r => uptoBulkEntry x + uptoBulkEntries r
def uptoBulkEntry {H : Type} : Lit × DataW H → Nat
  | (.string bytes, d) => bytes.length + uptoBulk d + 1
  | (_, d) => uptoBulk d + 1
 end
def uptoSmall : (H : Type) → List (DataW H) → Bool := fun _ ds => decide (uptoBulkAll ds ≤ 1048576)
def OpenSpec.upto (s : _root_.Go.ChangeSpec) : _root_.Go.OpenSpec := { _root_.Go.OpenSpec.ofChange s with cond := some uptoSmall }

/-- 'ecdysislaw04.WalAtomic', WHERE WHAT IT READS IS OF BULK AT MOST 1048576: true; the input reads as it did. -/
def walAtomicUptoRow : OpenClaim := { program := "ytpmljbcgaeodjaa", sum := "de688281ad730d074ee8fe5fd867ff8123833957a690cf0c61754f4fca2a6d54", func := "ecdysis/ecdysislaw04.WalAtomic", spec := "walAtomic", inPlace := ["maps.clone"], unfollowed := true, recurses := true, apart := false, narrowed := true }
def WalAtomicUptoSaid : Prop := walAtomicUptoRow.holds Try.pinned (OpenSpec.upto walAtomicSpec)

/-- 'ecdysislaw04.WalSeqs', WHERE WHAT IT READS IS OF BULK AT MOST 1048576: true; the input reads as it did. -/
def walSeqsUptoRow : OpenClaim := { program := "ytpmljbcgaeodjaa", sum := "de688281ad730d074ee8fe5fd867ff8123833957a690cf0c61754f4fca2a6d54", func := "ecdysis/ecdysislaw04.WalSeqs", spec := "walSeqs", unfollowed := true, recurses := true, apart := false, narrowed := true }
def WalSeqsUptoSaid : Prop := walSeqsUptoRow.holds Try.pinned (OpenSpec.upto walSeqsSpec)

/-- 'ecdysislaw04.WalNothing', WHERE WHAT IT READS IS OF BULK AT MOST 1048576: true; the input reads as it did. -/
def walNothingUptoRow : OpenClaim := { program := "ytpmljbcgaeodjaa", sum := "de688281ad730d074ee8fe5fd867ff8123833957a690cf0c61754f4fca2a6d54", func := "ecdysis/ecdysislaw04.WalNothing", spec := "walNothing", unfollowed := true, recurses := true, apart := false, narrowed := true }
def WalNothingUptoSaid : Prop := walNothingUptoRow.holds Try.pinned (OpenSpec.upto walNothingSpec)

/-- 'ecdysislaw04.WalTorn', WHERE WHAT IT READS IS OF BULK AT MOST 1048576: true; the input reads as it did. -/
def walTornUptoRow : OpenClaim := { program := "ytpmljbcgaeodjaa", sum := "de688281ad730d074ee8fe5fd867ff8123833957a690cf0c61754f4fca2a6d54", func := "ecdysis/ecdysislaw04.WalTorn", spec := "walTorn", unfollowed := true, recurses := true, apart := false, narrowed := true }
def WalTornUptoSaid : Prop := walTornUptoRow.holds Try.pinned (OpenSpec.upto walTornSpec)

/-- 'ecdysislaw04.WalRooms', WHERE WHAT IT READS IS OF BULK AT MOST 1048576: true; the input reads as it did. -/
def walRoomsUptoRow : OpenClaim := { program := "ytpmljbcgaeodjaa", sum := "de688281ad730d074ee8fe5fd867ff8123833957a690cf0c61754f4fca2a6d54", func := "ecdysis/ecdysislaw04.WalRooms", spec := "walRooms", unfollowed := true, recurses := true, apart := false, narrowed := true }
def WalRoomsUptoSaid : Prop := walRoomsUptoRow.holds Try.pinned (OpenSpec.upto walRoomsSpec)

end Rows
end Go.Proofs.Ytpmljbcgaeodjaa
