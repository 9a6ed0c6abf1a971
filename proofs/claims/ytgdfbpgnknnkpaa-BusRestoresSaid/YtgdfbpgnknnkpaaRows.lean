/-
  No cell of these rows narrows 'for every input' (looked for: loops, veiled, ifaces, maps, wideKeys, modest, calm, conditions, laid).
  DERIVED. THE GIVEN ROWS OF THIS SEAT. 6 by the template 'for every input the law returns true; each argument reads behind the call as it read before'; 0 by the template 'total and deterministic' (their statements: YtgdfbpgnknnkpaaTotals.lean).
  GIVEN WITH THE SEED: the statements are not yours to turn. If you find one false, say at which input.
  Laid BY PROGRAM, IN A SANDBOX (cutbox-rows.mjs): the forced cells as the released guide's own fill.sh prints them over the translation 7413cba7172b8285… (all of the seat's roots in one cut). By AI agents, Wed Nov 11 2026. No macro, syntax, notation, axiom, sorry.
-/
import Derived.Test.YtgdfbpgnknnkpaaChecked
import GoSem.Claim
import GoSem.ClaimJoined
import GoSem.ClaimMapViews
import Derived.JoinedTies
import Derived.KernelRfl
namespace Go.Proofs.Ytgdfbpgnknnkpaa
/- THE CELL 'sum', in the pinned program and in every row, IS THE sha256 OF THE DUMP (.gsa) THAT YtgdfbpgnknnkpaaProg.lean LOADS. Nothing in Lean hashes anything: it is a label: what it is worth is what the hold of that sum in a sandbox is worth. -/
noncomputable def Try.pinned : Pinned := { name := "ytgdfbpgnknnkpaa", sum := "7413cba7172b82851e4e2a27b92dec34f863a688609c26638924b95dee898ae1", checked := Try.checked }
namespace Rows
def none {H : Type} : Left H := { results := [], args := [] }

/-- 'chandlerlaw07.BusPlays': WHATEVER THE INPUT: true; the input reads as it did. -/
def busPlaysSpec : ChangeSpec := { name := "busPlays", fn := fun _ => fun
  | [d] => { results := [.lit (.bool true)], args := [d] }
  | _ => none }
def busPlaysRow : OpenClaim := { program := "ytgdfbpgnknnkpaa", sum := "7413cba7172b82851e4e2a27b92dec34f863a688609c26638924b95dee898ae1", func := "chandler/chandlerlaw07.BusPlays", spec := "busPlays", apart := false }
def BusPlaysSaid : Prop := busPlaysRow.holds Try.pinned (OpenSpec.ofChange busPlaysSpec)

/-- ITS FALSE NEIGHBOUR: 'it returns false'. Refute it at one input. -/
def busPlaysWrong : ChangeSpec := { name := "busPlays", fn := fun _ => fun
  | [d] => { results := [.lit (.bool false)], args := [d] }
  | _ => none }
def BusPlaysWrongFalsely : Prop := busPlaysRow.holds Try.pinned (OpenSpec.ofChange busPlaysWrong)

/-- 'chandlerlaw07.BusRestores': WHATEVER THE INPUT: true; the input reads as it did. -/
def busRestoresSpec : ChangeSpec := { name := "busRestores", fn := fun _ => fun
  | [d1, d2, d3] => { results := [.lit (.bool true)], args := [d1, d2, d3] }
  | _ => none }
def busRestoresRow : OpenClaim := { program := "ytgdfbpgnknnkpaa", sum := "7413cba7172b82851e4e2a27b92dec34f863a688609c26638924b95dee898ae1", func := "chandler/chandlerlaw07.BusRestores", spec := "busRestores", apart := false }
def BusRestoresSaid : Prop := busRestoresRow.holds Try.pinned (OpenSpec.ofChange busRestoresSpec)

/-- ITS FALSE NEIGHBOUR: 'it returns false'. Refute it at one input. -/
def busRestoresWrong : ChangeSpec := { name := "busRestores", fn := fun _ => fun
  | [d1, d2, d3] => { results := [.lit (.bool false)], args := [d1, d2, d3] }
  | _ => none }
def BusRestoresWrongFalsely : Prop := busRestoresRow.holds Try.pinned (OpenSpec.ofChange busRestoresWrong)

/-- 'chandlerlaw07.BusFull': WHATEVER THE INPUT: true; the input reads as it did. -/
def busFullSpec : ChangeSpec := { name := "busFull", fn := fun _ => fun
  | [d] => { results := [.lit (.bool true)], args := [d] }
  | _ => none }
def busFullRow : OpenClaim := { program := "ytgdfbpgnknnkpaa", sum := "7413cba7172b82851e4e2a27b92dec34f863a688609c26638924b95dee898ae1", func := "chandler/chandlerlaw07.BusFull", spec := "busFull", apart := false }
def BusFullSaid : Prop := busFullRow.holds Try.pinned (OpenSpec.ofChange busFullSpec)

/-- ITS FALSE NEIGHBOUR: 'it returns false'. Refute it at one input. -/
def busFullWrong : ChangeSpec := { name := "busFull", fn := fun _ => fun
  | [d] => { results := [.lit (.bool false)], args := [d] }
  | _ => none }
def BusFullWrongFalsely : Prop := busFullRow.holds Try.pinned (OpenSpec.ofChange busFullWrong)

/-- 'chandlerlaw07.BusKeeps': WHATEVER THE INPUT: true; the input reads as it did. -/
def busKeepsSpec : ChangeSpec := { name := "busKeeps", fn := fun _ => fun
  | [d] => { results := [.lit (.bool true)], args := [d] }
  | _ => none }
def busKeepsRow : OpenClaim := { program := "ytgdfbpgnknnkpaa", sum := "7413cba7172b82851e4e2a27b92dec34f863a688609c26638924b95dee898ae1", func := "chandler/chandlerlaw07.BusKeeps", spec := "busKeeps", apart := false }
def BusKeepsSaid : Prop := busKeepsRow.holds Try.pinned (OpenSpec.ofChange busKeepsSpec)

/-- ITS FALSE NEIGHBOUR: 'it returns false'. Refute it at one input. -/
def busKeepsWrong : ChangeSpec := { name := "busKeeps", fn := fun _ => fun
  | [d] => { results := [.lit (.bool false)], args := [d] }
  | _ => none }
def BusKeepsWrongFalsely : Prop := busKeepsRow.holds Try.pinned (OpenSpec.ofChange busKeepsWrong)

/-- 'chandlerlaw07.BusOrder': WHATEVER THE INPUT: true; the input reads as it did. -/
def busOrderSpec : ChangeSpec := { name := "busOrder", fn := fun _ => fun
  | [d] => { results := [.lit (.bool true)], args := [d] }
  | _ => none }
def busOrderRow : OpenClaim := { program := "ytgdfbpgnknnkpaa", sum := "7413cba7172b82851e4e2a27b92dec34f863a688609c26638924b95dee898ae1", func := "chandler/chandlerlaw07.BusOrder", spec := "busOrder", apart := false }
def BusOrderSaid : Prop := busOrderRow.holds Try.pinned (OpenSpec.ofChange busOrderSpec)

/-- ITS FALSE NEIGHBOUR: 'it returns false'. Refute it at one input. -/
def busOrderWrong : ChangeSpec := { name := "busOrder", fn := fun _ => fun
  | [d] => { results := [.lit (.bool false)], args := [d] }
  | _ => none }
def BusOrderWrongFalsely : Prop := busOrderRow.holds Try.pinned (OpenSpec.ofChange busOrderWrong)

/-- 'chandlerlaw07.BusTwins': WHATEVER THE INPUT: true; the input reads as it did. -/
def busTwinsSpec : ChangeSpec := { name := "busTwins", fn := fun _ => fun
  | [d1, d2] => { results := [.lit (.bool true)], args := [d1, d2] }
  | _ => none }
def busTwinsRow : OpenClaim := { program := "ytgdfbpgnknnkpaa", sum := "7413cba7172b82851e4e2a27b92dec34f863a688609c26638924b95dee898ae1", func := "chandler/chandlerlaw07.BusTwins", spec := "busTwins", apart := false }
def BusTwinsSaid : Prop := busTwinsRow.holds Try.pinned (OpenSpec.ofChange busTwinsSpec)

/-- ITS FALSE NEIGHBOUR: 'it returns false'. Refute it at one input. -/
def busTwinsWrong : ChangeSpec := { name := "busTwins", fn := fun _ => fun
  | [d1, d2] => { results := [.lit (.bool false)], args := [d1, d2] }
  | _ => none }
def BusTwinsWrongFalsely : Prop := busTwinsRow.holds Try.pinned (OpenSpec.ofChange busTwinsWrong)

/- THE SECOND FORM. 'bulk': how many values and letters a reading holds, each counted each time it is reached (what is shared counts as often as it is met; a slice's spare places count too). A statement '..UptoSaid' is the law's where the arguments, and the package variables that the reading takes, are together of bulk at most 1048576: NARROWER than '..Said'. Prove '..Said' where nothing that the law and all that it calls make is longer than what came in: it says more and counts as full. Else prove '..UptoSaid'. A law counts once. -/
mutual
def uptoBulk {H : Type} : DataW H → Nat
  | .lit (.string bytes) => bytes.length + 1
  | .lit _ => 1
  | .nil => 1
  | .ptr d => uptoBulk d + 1
  | .slice elems spare => uptoBulkAll elems + uptoBulkAll spare + 1
  | .agg parts => uptoBulkAll parts + 1
  | .iface _ d => uptoBulk d + 1
  | .map entries => uptoBulkEntries entries + 1
  | .held _ => 1
def uptoBulkAll {H : Type} : List (DataW H) → Nat
  | [] => 0
  | d :: r => uptoBulk d + uptoBulkAll r
def uptoBulkEntries {H : Type} : List (Lit × DataW H) → Nat
  | [] => 0
  | x :: r => uptoBulkEntry x + uptoBulkEntries r
def uptoBulkEntry {H : Type} : Lit × DataW H → Nat
  | (.string bytes, d) => bytes.length + uptoBulk d + 1
  | (_, d) => uptoBulk d + 1
 end
def uptoSmall : (H : Type) → List (DataW H) → Bool := fun _ ds => decide (uptoBulkAll ds ≤ 1048576)
def OpenSpec.upto (s : _root_.Go.ChangeSpec) : _root_.Go.OpenSpec := { _root_.Go.OpenSpec.ofChange s with cond := some uptoSmall }

/-- 'chandlerlaw07.BusPlays', WHERE WHAT IT READS IS OF BULK AT MOST 1048576: true; the input reads as it did. -/
def busPlaysUptoRow : OpenClaim := { program := "ytgdfbpgnknnkpaa", sum := "7413cba7172b82851e4e2a27b92dec34f863a688609c26638924b95dee898ae1", func := "chandler/chandlerlaw07.BusPlays", spec := "busPlays", apart := false, narrowed := true }
def BusPlaysUptoSaid : Prop := busPlaysUptoRow.holds Try.pinned (OpenSpec.upto busPlaysSpec)

/-- 'chandlerlaw07.BusRestores', WHERE WHAT IT READS IS OF BULK AT MOST 1048576: true; the input reads as it did. -/
def busRestoresUptoRow : OpenClaim := { program := "ytgdfbpgnknnkpaa", sum := "7413cba7172b82851e4e2a27b92dec34f863a688609c26638924b95dee898ae1", func := "chandler/chandlerlaw07.BusRestores", spec := "busRestores", apart := false, narrowed := true }
def BusRestoresUptoSaid : Prop := busRestoresUptoRow.holds Try.pinned (OpenSpec.upto busRestoresSpec)

/-- 'chandlerlaw07.BusFull', WHERE WHAT IT READS IS OF BULK AT MOST 1048576: true; the input reads as it did. -/
def busFullUptoRow : OpenClaim := { program := "ytgdfbpgnknnkpaa", sum := "7413cba7172b82851e4e2a27b92dec34f863a688609c26638924b95dee898ae1", func := "chandler/chandlerlaw07.BusFull", spec := "busFull", apart := false, narrowed := true }
def BusFullUptoSaid : Prop := busFullUptoRow.holds Try.pinned (OpenSpec.upto busFullSpec)

/-- 'chandlerlaw07.BusKeeps', WHERE WHAT IT READS IS OF BULK AT MOST 1048576: true; the input reads as it did. -/
def busKeepsUptoRow : OpenClaim := { program := "ytgdfbpgnknnkpaa", sum := "7413cba7172b82851e4e2a27b92dec34f863a688609c26638924b95dee898ae1", func := "chandler/chandlerlaw07.BusKeeps", spec := "busKeeps", apart := false, narrowed := true }
def BusKeepsUptoSaid : Prop := busKeepsUptoRow.holds Try.pinned (OpenSpec.upto busKeepsSpec)

/-- 'chandlerlaw07.BusOrder', WHERE WHAT IT READS IS OF BULK AT MOST 1048576: true; the input reads as it did. -/
def busOrderUptoRow : OpenClaim := { program := "ytgdfbpgnknnkpaa", sum := "7413cba7172b82851e4e2a27b92dec34f863a688609c26638924b95dee898ae1", func := "chandler/chandlerlaw07.BusOrder", spec := "busOrder", apart := false, narrowed := true }
def BusOrderUptoSaid : Prop := busOrderUptoRow.holds Try.pinned (OpenSpec.upto busOrderSpec)

/-- 'chandlerlaw07.BusTwins', WHERE WHAT IT READS IS OF BULK AT MOST 1048576: true; the input reads as it did. -/
def busTwinsUptoRow : OpenClaim := { program := "ytgdfbpgnknnkpaa", sum := "7413cba7172b82851e4e2a27b92dec34f863a688609c26638924b95dee898ae1", func := "chandler/chandlerlaw07.BusTwins", spec := "busTwins", apart := false, narrowed := true }
def BusTwinsUptoSaid : Prop := busTwinsUptoRow.holds Try.pinned (OpenSpec.upto busTwinsSpec)

end Rows
end Go.Proofs.Ytgdfbpgnknnkpaa
