/-
  A slice of calls (Op) that came in.
-/
import Derived.Test.YthchadnbeinojaaRowsIn
namespace Go.Proofs.Ythchadnbeinojaa
open Go.RowKit
set_option linter.unusedVariables false

/-- One call: its kind, its number, its text. -/
structure Op3 where
  q : Int
  i : Int
  x : ByteArray

/-- A slice of calls that came in: nil, or a row whose elements are 'os'. -/
def IsOps (w : World) (a : Option Addr) (len cap : Nat) (os : List Op3) : Prop :=
  len = 0 ∨ ∃ b o, a = some ⟨b, o, none⟩ ∧ b < w.heap.size ∧ len ≤ os.length ∧ len ≤ maxLen ∧ ∀ (k : Nat) (c : Op3), os[k]? = some c →
    w.cell? ⟨b, o + k * 3, none⟩ = some (.int .i64 c.q) ∧ w.cell? ⟨b, o + k * 3 + 1, none⟩ = some (.int .i64 c.i) ∧ w.cell? ⟨b, o + k * 3 + 2, none⟩ = some (.string c.x) ∧
      -9223372036854775808 ≤ c.i ∧ c.i ≤ 9223372036854775807
end Go.Proofs.Ythchadnbeinojaa
