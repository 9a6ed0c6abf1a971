/-
  'add' of package node: the entries of another node behind those of a node of the caller's own (DOC). Conditions: the other node's lists and texts are short.
-/
import Derived.Test.YtlgfdfpafmopdaaDoorNo
namespace Go.Proofs.YtlgfdfpafmopdaaDoor
open Go.RowKit
set_option linter.unusedVariables false

end Go.Proofs.YtlgfdfpafmopdaaDoor
