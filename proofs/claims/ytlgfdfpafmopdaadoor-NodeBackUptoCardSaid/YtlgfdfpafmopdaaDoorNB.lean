/-
  The law NodeBytes, walked: it answers true and turns nothing that was there, if package node answers as the document has it. Condition: lists and texts of fewer than 10^8 parts.
-/
import Derived.Test.YtlgfdfpafmopdaaDoorNspec
namespace Go.Proofs.YtlgfdfpafmopdaaDoor
open Go.RowKit
set_option linter.unusedVariables false

/-- Block p is the boxed node. -/
def IsNb (w : World) (p : Nat) (v : Nv) : Prop := w.heap[p]? = some (.cells #[.bool v.leaf, .slice v.ka v.kn v.kc, .slice v.va v.vn v.vc, .slice v.ia v.im v.ic] 25 (0, 0))
theorem IsNb.c {w : World} {p : Nat} {v : Nv} (h : IsNb w p v) : w.cell? ⟨p, 0, none⟩ = some (.bool v.leaf) ∧ w.cell? ⟨p, 1, none⟩ = some (.slice v.ka v.kn v.kc) ∧ w.cell? ⟨p, 2, none⟩ = some (.slice v.va v.vn v.vc) ∧ w.cell? ⟨p, 3, none⟩ = some (.slice v.ia v.im v.ic) := by
  refine ⟨?_, ?_, ?_, ?_⟩ <;> rw [blk_cell h] <;> rfl

end Go.Proofs.YtlgfdfpafmopdaaDoor
