/-
  'fit' of the law over nodes. Conditions: lists and texts of fewer than 10^8 parts.
-/
import Derived.Test.YtlgfdfpafmopdaaDoorNl
namespace Go.Proofs.YtlgfdfpafmopdaaDoor
open Go.RowKit
set_option linter.unusedVariables false

def Nv.fits (v : Nv) : Bool := v.lens && fitN v.leaf v.es

end Go.Proofs.YtlgfdfpafmopdaaDoor
