/-
  'Place' of the document's nodes: where a key belongs. Condition: there are fewer than 10^9 entries.
-/
import Derived.Test.YtlgfdfpafmopdaaDoorNf
namespace Go.Proofs.YtlgfdfpafmopdaaDoor
open Go.RowKit
set_option linter.unusedVariables false

/-- Is the key that entry's? -/
def hitN (es : List En) (key : ByteArray) : Bool := match es[plcN es key]? with
  | some e => e.key.toList == key.toList
  | none => false
theorem plc_step (es : List En) (key : ByteArray) (at_ k : Nat) (e : En) (h : es[k]? = some e) : plcE key at_ k (es.drop k) = plcE key (if sle e.key key then k else at_) (k + 1) (es.drop (k + 1)) := by
  obtain ⟨hk, he⟩ := List.getElem?_eq_some_iff.1 h
  rw [List.drop_eq_getElem_cons hk, he, plcE]

end Go.Proofs.YtlgfdfpafmopdaaDoor
