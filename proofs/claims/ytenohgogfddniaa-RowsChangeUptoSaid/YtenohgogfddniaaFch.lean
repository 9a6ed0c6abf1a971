/-
  The cells of a change. Plain.
-/
import Derived.Test.YtenohgogfddniaaTo
import Derived.Test.YtenohgogfddniaaRow
namespace Go.Proofs.Ytenohgogfddniaa
open Go.RowKit
def fChg (c : Ch) : List Value := [.string c.key, .string c.val, .bool c.gone]
theorem fChg_one (c : Ch) : ∀ v ∈ fChg c, v.oneCell' = true := fun v hv => by
  unfold fChg at hv
  simp only [List.mem_cons, List.not_mem_nil, or_false] at hv
  rcases hv with rfl | rfl | rfl <;> rfl
end Go.Proofs.Ytenohgogfddniaa
