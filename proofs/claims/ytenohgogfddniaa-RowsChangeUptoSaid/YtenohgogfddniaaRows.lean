/-
  No cell of these rows narrows 'for every input' (looked for: loops, veiled, ifaces, maps, wideKeys, modest, calm, conditions, laid).
  DERIVED. THE GIVEN ROWS OF THIS SEAT. 4 by the template 'for every input the law returns true; each argument reads behind the call as it read before'; 0 by the template 'total and deterministic' (their statements: YtenohgogfddniaaTotals.lean).
  GIVEN WITH THE SEED: the statements are not yours to turn. If you find one false, say at which input.
  Laid BY PROGRAM, IN A SANDBOX (cutbox-rows.mjs): the forced cells as the released guide's own fill.sh prints them over the translation 99682437853854a1… (all of the seat's roots in one cut). By AI agents, Wed Nov 11 2026. No macro, syntax, notation, axiom, sorry.
-/
import Derived.Test.YtenohgogfddniaaChecked
import GoSem.Claim
import GoSem.ClaimJoined
import GoSem.ClaimMapViews
import Derived.JoinedTies
import Derived.KernelRfl
namespace Go.Proofs.Ytenohgogfddniaa
/- THE CELL 'sum', in the pinned program and in every row, IS THE sha256 OF THE DUMP (.gsa) THAT YtenohgogfddniaaProg.lean LOADS. Nothing in Lean hashes anything: it is a label: what it is worth is what the hold of that sum in a sandbox is worth. -/
noncomputable def Try.pinned : Pinned := { name := "ytenohgogfddniaa", sum := "99682437853854a1a3f977fc740839fd62ff44416f78509620334267fe91d55d", checked := Try.checked }
namespace Rows
def none {H : Type} : Left H := { results := [], args := [] }

/-- 'chandlerlaw06.RowsEncode': WHATEVER THE INPUT: true; the input reads as it did. -/
def rowsEncodeSpec : ChangeSpec := { name := "rowsEncode", fn := fun _ => fun
  | [d1, d2] => { results := [.lit (.bool true)], args := [d1, d2] }
  | _ => none }
def rowsEncodeRow : OpenClaim := { program := "ytenohgogfddniaa", sum := "99682437853854a1a3f977fc740839fd62ff44416f78509620334267fe91d55d", func := "chandler/chandlerlaw06.RowsEncode", spec := "rowsEncode", inPlace := ["internal/bytealg.IndexByteString", "internal/bytealg.IndexString", "internal/abi.NoEscape"], unfollowed := true, recurses := true, named := ["internal/bytealg.MaxLen"], apart := false }
def RowsEncodeSaid : Prop := rowsEncodeRow.holds Try.pinned (OpenSpec.ofChange rowsEncodeSpec)

/-- ITS FALSE NEIGHBOUR: 'it returns false'. Refute it at one input. -/
def rowsEncodeWrong : ChangeSpec := { name := "rowsEncode", fn := fun _ => fun
  | [d1, d2] => { results := [.lit (.bool false)], args := [d1, d2] }
  | _ => none }
def RowsEncodeWrongFalsely : Prop := rowsEncodeRow.holds Try.pinned (OpenSpec.ofChange rowsEncodeWrong)

/-- 'chandlerlaw06.RowsDecode': WHATEVER THE INPUT: true; the input reads as it did. -/
def rowsDecodeSpec : ChangeSpec := { name := "rowsDecode", fn := fun _ => fun
  | [d1, d2] => { results := [.lit (.bool true)], args := [d1, d2] }
  | _ => none }
def rowsDecodeRow : OpenClaim := { program := "ytenohgogfddniaa", sum := "99682437853854a1a3f977fc740839fd62ff44416f78509620334267fe91d55d", func := "chandler/chandlerlaw06.RowsDecode", spec := "rowsDecode", inPlace := ["internal/bytealg.IndexByteString", "internal/bytealg.IndexString", "internal/abi.NoEscape"], unfollowed := true, recurses := true, named := ["internal/bytealg.MaxLen"], apart := false }
def RowsDecodeSaid : Prop := rowsDecodeRow.holds Try.pinned (OpenSpec.ofChange rowsDecodeSpec)

/-- ITS FALSE NEIGHBOUR: 'it returns false'. Refute it at one input. -/
def rowsDecodeWrong : ChangeSpec := { name := "rowsDecode", fn := fun _ => fun
  | [d1, d2] => { results := [.lit (.bool false)], args := [d1, d2] }
  | _ => none }
def RowsDecodeWrongFalsely : Prop := rowsDecodeRow.holds Try.pinned (OpenSpec.ofChange rowsDecodeWrong)

/-- 'chandlerlaw06.RowsChange': WHATEVER THE INPUT: true; the input reads as it did. -/
def rowsChangeSpec : ChangeSpec := { name := "rowsChange", fn := fun _ => fun
  | [d1, d2, d3] => { results := [.lit (.bool true)], args := [d1, d2, d3] }
  | _ => none }
def rowsChangeRow : OpenClaim := { program := "ytenohgogfddniaa", sum := "99682437853854a1a3f977fc740839fd62ff44416f78509620334267fe91d55d", func := "chandler/chandlerlaw06.RowsChange", spec := "rowsChange", inPlace := ["internal/bytealg.IndexByteString", "internal/bytealg.IndexString", "internal/abi.NoEscape"], unfollowed := true, recurses := true, named := ["internal/bytealg.MaxLen"], apart := false }
def RowsChangeSaid : Prop := rowsChangeRow.holds Try.pinned (OpenSpec.ofChange rowsChangeSpec)

/-- ITS FALSE NEIGHBOUR: 'it returns false'. Refute it at one input. -/
def rowsChangeWrong : ChangeSpec := { name := "rowsChange", fn := fun _ => fun
  | [d1, d2, d3] => { results := [.lit (.bool false)], args := [d1, d2, d3] }
  | _ => none }
def RowsChangeWrongFalsely : Prop := rowsChangeRow.holds Try.pinned (OpenSpec.ofChange rowsChangeWrong)

/-- 'chandlerlaw06.RowsOrder': WHATEVER THE INPUT: true; the input reads as it did. -/
def rowsOrderSpec : ChangeSpec := { name := "rowsOrder", fn := fun _ => fun
  | [d1, d2, d3] => { results := [.lit (.bool true)], args := [d1, d2, d3] }
  | _ => none }
def rowsOrderRow : OpenClaim := { program := "ytenohgogfddniaa", sum := "99682437853854a1a3f977fc740839fd62ff44416f78509620334267fe91d55d", func := "chandler/chandlerlaw06.RowsOrder", spec := "rowsOrder", inPlace := ["internal/bytealg.IndexByteString", "internal/bytealg.IndexString", "internal/abi.NoEscape"], unfollowed := true, recurses := true, named := ["internal/bytealg.MaxLen"], apart := false }
def RowsOrderSaid : Prop := rowsOrderRow.holds Try.pinned (OpenSpec.ofChange rowsOrderSpec)

/-- ITS FALSE NEIGHBOUR: 'it returns false'. Refute it at one input. -/
def rowsOrderWrong : ChangeSpec := { name := "rowsOrder", fn := fun _ => fun
  | [d1, d2, d3] => { results := [.lit (.bool false)], args := [d1, d2, d3] }
  | _ => none }
def RowsOrderWrongFalsely : Prop := rowsOrderRow.holds Try.pinned (OpenSpec.ofChange rowsOrderWrong)

/- THE SECOND FORM. 'bulk': how many values and letters a reading holds, each counted each time it is reached (what is shared counts as often as it is met; a slice's spare places count too). A statement '..UptoSaid' is the law's where the arguments, and the package variables that the reading takes, are together of bulk at most 1048576: NARROWER than '..Said'. Prove '..Said' where nothing that the law and all that it calls make is longer than what came in: it says more and counts as full. Else prove '..UptoSaid'. A law counts once. -/
mutual
def uptoBulk {H : Type} : DataW H → Nat
  | .lit (.string bytes) => bytes.length + 1
  | .lit _ => 1
  | .nil => 1
  | .ptr d => uptoBulk d + 1
  | .slice elems spare => uptoBulkAll elems + uptoBulkAll spare + 1
  | .agg parts => uptoBulkAll parts + 1
  | .iface _ d => uptoBulk d + 1
  | .map entries => uptoBulkEntries entries + 1
  | .held _ => 1
def uptoBulkAll {H : Type} : List (DataW H) → Nat
  | [] => 0
  | d :: r => uptoBulk d + uptoBulkAll r
def uptoBulkEntries {H : Type} : List (Lit × DataW H) → Nat
  | [] => 0
  | x :: r => uptoBulkEntry x + uptoBulkEntries r
def uptoBulkEntry {H : Type} : Lit × DataW H → Nat
  | (.string bytes, d) => bytes.length + uptoBulk d + 1
  | (_, d) => uptoBulk d + 1
 end
def uptoSmall : (H : Type) → List (DataW H) → Bool := fun _ ds => decide (uptoBulkAll ds ≤ 1048576)
def OpenSpec.upto (s : _root_.Go.ChangeSpec) : _root_.Go.OpenSpec := { _root_.Go.OpenSpec.ofChange s with cond := some uptoSmall }

/-- 'chandlerlaw06.RowsEncode', WHERE WHAT IT READS IS OF BULK AT MOST 1048576: true; the input reads as it did. -/
def rowsEncodeUptoRow : OpenClaim := { program := "ytenohgogfddniaa", sum := "99682437853854a1a3f977fc740839fd62ff44416f78509620334267fe91d55d", func := "chandler/chandlerlaw06.RowsEncode", spec := "rowsEncode", inPlace := ["internal/bytealg.IndexByteString", "internal/bytealg.IndexString", "internal/abi.NoEscape"], unfollowed := true, recurses := true, named := ["internal/bytealg.MaxLen"], apart := false, narrowed := true }
def RowsEncodeUptoSaid : Prop := rowsEncodeUptoRow.holds Try.pinned (OpenSpec.upto rowsEncodeSpec)

/-- 'chandlerlaw06.RowsDecode', WHERE WHAT IT READS IS OF BULK AT MOST 1048576: true; the input reads as it did. -/
def rowsDecodeUptoRow : OpenClaim := { program := "ytenohgogfddniaa", sum := "99682437853854a1a3f977fc740839fd62ff44416f78509620334267fe91d55d", func := "chandler/chandlerlaw06.RowsDecode", spec := "rowsDecode", inPlace := ["internal/bytealg.IndexByteString", "internal/bytealg.IndexString", "internal/abi.NoEscape"], unfollowed := true, recurses := true, named := ["internal/bytealg.MaxLen"], apart := false, narrowed := true }
def RowsDecodeUptoSaid : Prop := rowsDecodeUptoRow.holds Try.pinned (OpenSpec.upto rowsDecodeSpec)

/-- 'chandlerlaw06.RowsChange', WHERE WHAT IT READS IS OF BULK AT MOST 1048576: true; the input reads as it did. -/
def rowsChangeUptoRow : OpenClaim := { program := "ytenohgogfddniaa", sum := "99682437853854a1a3f977fc740839fd62ff44416f78509620334267fe91d55d", func := "chandler/chandlerlaw06.RowsChange", spec := "rowsChange", inPlace := ["internal/bytealg.IndexByteString", "internal/bytealg.IndexString", "internal/abi.NoEscape"], unfollowed := true, recurses := true, named := ["internal/bytealg.MaxLen"], apart := false, narrowed := true }
def RowsChangeUptoSaid : Prop := rowsChangeUptoRow.holds Try.pinned (OpenSpec.upto rowsChangeSpec)

/-- 'chandlerlaw06.RowsOrder', WHERE WHAT IT READS IS OF BULK AT MOST 1048576: true; the input reads as it did. -/
def rowsOrderUptoRow : OpenClaim := { program := "ytenohgogfddniaa", sum := "99682437853854a1a3f977fc740839fd62ff44416f78509620334267fe91d55d", func := "chandler/chandlerlaw06.RowsOrder", spec := "rowsOrder", inPlace := ["internal/bytealg.IndexByteString", "internal/bytealg.IndexString", "internal/abi.NoEscape"], unfollowed := true, recurses := true, named := ["internal/bytealg.MaxLen"], apart := false, narrowed := true }
def RowsOrderUptoSaid : Prop := rowsOrderUptoRow.holds Try.pinned (OpenSpec.upto rowsOrderSpec)

end Rows
end Go.Proofs.Ytenohgogfddniaa
