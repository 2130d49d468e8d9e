/-
  The contract of the document's own Set for layer 1.
-/
import Derived.Test.YtacakogncjhlfaaRefB
namespace Go.Proofs.Ytacakogncjhlfaa
open Go.RowKit
set_option linter.unusedVariables false

end Go.Proofs.Ytacakogncjhlfaa
