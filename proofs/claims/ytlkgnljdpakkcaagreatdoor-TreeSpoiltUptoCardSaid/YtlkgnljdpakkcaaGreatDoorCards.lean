/-
  DERIVED. GIVEN WITH THE SEED: THE CARDS: each row of YtlkgnljdpakkcaaGreatDoorRows.lean that lists a variable, with what it lists TIED to the program's text (the seventh form; the later family's looks); each row that meets fmt, with fmt's text TOLD by the authors' own Lean function (tested against real Go, not proved from fmt's source: count such statements apart). THE CARD IS WHAT COUNTS. Prove the row's statement (the work); the ties are given (YtlkgnljdpakkcaaGreatDoorTie.lean); close each card by the builder's one call (the guide's Derived/Test/ToyasCard.lean, 'card_holds'). Laid BY PROGRAM, IN A SANDBOX (cutbox-door.mjs). By AI agents, Wed Nov 11 2026. No macro, syntax, notation, axiom, sorry.
-/
import Derived.Test.YtlkgnljdpakkcaaGreatDoorRows
import GoSem.ClaimSeven
namespace Go.Proofs.YtlkgnljdpakkcaaGreatDoor
namespace Rows

/-- THE TIED CARD OF 'chandlerlaw05.TreePlays'. -/
def treePlaysCard : Claim7 := { stood := { row := treePlaysRow, standIns := [], harness := (true, "ece32ae5863fa0e5e859d4d55603a21cce0dd5b18b00735232120c17c4c7840b"), looks := false }, kinds := [], alts := [], laidByText := true, laidKinds := [.data, .pinned], laidTests := true, laidLooks := .later }
def TreePlaysCardSaid : Prop := Claim7.holds Tryz.pinned (.plain (OpenSpec.ofChange treePlaysSpec)) treePlaysCard

/-- THE TIED CARD OF 'chandlerlaw05.TreeCuts'. -/
def treeCutsCard : Claim7 := { stood := { row := treeCutsRow, standIns := [], harness := (true, "ece32ae5863fa0e5e859d4d55603a21cce0dd5b18b00735232120c17c4c7840b"), looks := false }, kinds := [], alts := [], laidByText := true, laidKinds := [.data, .pinned], laidTests := true, laidLooks := .later }
def TreeCutsCardSaid : Prop := Claim7.holds Tryz.pinned (.plain (OpenSpec.ofChange treeCutsSpec)) treeCutsCard

/-- THE TIED CARD OF 'chandlerlaw05.TreeSpoilt'. -/
def treeSpoiltCard : Claim7 := { stood := { row := treeSpoiltRow, standIns := [], harness := (true, "ece32ae5863fa0e5e859d4d55603a21cce0dd5b18b00735232120c17c4c7840b"), looks := false }, kinds := [], alts := [], laidByText := true, laidKinds := [.data, .pinned], laidTests := true, laidLooks := .later }
def TreeSpoiltCardSaid : Prop := Claim7.holds Tryz.pinned (.plain (OpenSpec.ofChange treeSpoiltSpec)) treeSpoiltCard

/-- THE TIED CARD OF 'chandlerlaw05.TreeHalves'. -/
def treeHalvesCard : Claim7 := { stood := { row := treeHalvesRow, standIns := [], harness := (true, "ece32ae5863fa0e5e859d4d55603a21cce0dd5b18b00735232120c17c4c7840b"), looks := false }, kinds := [], alts := [], laidByText := true, laidKinds := [.data, .pinned], laidTests := true, laidLooks := .later }
def TreeHalvesCardSaid : Prop := Claim7.holds Tryz.pinned (.plain (OpenSpec.ofChange treeHalvesSpec)) treeHalvesCard

/-- THE TIED CARD OF 'chandlerlaw05.TreeGets'. -/
def treeGetsCard : Claim7 := { stood := { row := treeGetsRow, standIns := [], harness := (true, "ece32ae5863fa0e5e859d4d55603a21cce0dd5b18b00735232120c17c4c7840b"), looks := false }, kinds := [], alts := [], laidByText := true, laidKinds := [.data, .pinned], laidTests := true, laidLooks := .later }
def TreeGetsCardSaid : Prop := Claim7.holds Tryz.pinned (.plain (OpenSpec.ofChange treeGetsSpec)) treeGetsCard

/-- THE TIED CARD OF 'chandlerlaw06.RowsKept'. -/
def rowsKeptCard : Claim7 := { stood := { row := rowsKeptRow, standIns := [], harness := (true, "ece32ae5863fa0e5e859d4d55603a21cce0dd5b18b00735232120c17c4c7840b"), looks := false }, kinds := [], alts := [], laidByText := true, laidKinds := [.data, .pinned], laidTests := true, laidLooks := .later }
def RowsKeptCardSaid : Prop := Claim7.holds Tryz.pinned (.plain (OpenSpec.ofChange rowsKeptSpec)) rowsKeptCard

/-- THE TIED CARD OF 'chandlerlaw06.RowsFinds'. -/
def rowsFindsCard : Claim7 := { stood := { row := rowsFindsRow, standIns := [], harness := (true, "ece32ae5863fa0e5e859d4d55603a21cce0dd5b18b00735232120c17c4c7840b"), looks := false }, kinds := [], alts := [], laidByText := true, laidKinds := [.data, .pinned], laidTests := true, laidLooks := .later }
def RowsFindsCardSaid : Prop := Claim7.holds Tryz.pinned (.plain (OpenSpec.ofChange rowsFindsSpec)) rowsFindsCard

/-- THE TIED CARD OF 'chandlerlaw06.RowsTables'. -/
def rowsTablesCard : Claim7 := { stood := { row := rowsTablesRow, standIns := [], harness := (true, "ece32ae5863fa0e5e859d4d55603a21cce0dd5b18b00735232120c17c4c7840b"), looks := false }, kinds := [], alts := [], laidByText := true, laidKinds := [.data, .pinned], laidTests := true, laidLooks := .later }
def RowsTablesCardSaid : Prop := Claim7.holds Tryz.pinned (.plain (OpenSpec.ofChange rowsTablesSpec)) rowsTablesCard

/-- THE SECOND FORM's CARD OF 'chandlerlaw05.TreePlays'. -/
def treePlaysUptoCard : Claim7 := { stood := { row := treePlaysUptoRow, standIns := [], harness := (true, "ece32ae5863fa0e5e859d4d55603a21cce0dd5b18b00735232120c17c4c7840b"), looks := false }, kinds := [], alts := [], laidByText := true, laidKinds := [.data, .pinned], laidTests := true, laidLooks := .later }
def TreePlaysUptoCardSaid : Prop := Claim7.holds Tryz.pinned (.plain (OpenSpec.upto treePlaysSpec)) treePlaysUptoCard

/-- THE SECOND FORM's CARD OF 'chandlerlaw05.TreeCuts'. -/
def treeCutsUptoCard : Claim7 := { stood := { row := treeCutsUptoRow, standIns := [], harness := (true, "ece32ae5863fa0e5e859d4d55603a21cce0dd5b18b00735232120c17c4c7840b"), looks := false }, kinds := [], alts := [], laidByText := true, laidKinds := [.data, .pinned], laidTests := true, laidLooks := .later }
def TreeCutsUptoCardSaid : Prop := Claim7.holds Tryz.pinned (.plain (OpenSpec.upto treeCutsSpec)) treeCutsUptoCard

/-- THE SECOND FORM's CARD OF 'chandlerlaw05.TreeSpoilt'. -/
def treeSpoiltUptoCard : Claim7 := { stood := { row := treeSpoiltUptoRow, standIns := [], harness := (true, "ece32ae5863fa0e5e859d4d55603a21cce0dd5b18b00735232120c17c4c7840b"), looks := false }, kinds := [], alts := [], laidByText := true, laidKinds := [.data, .pinned], laidTests := true, laidLooks := .later }
def TreeSpoiltUptoCardSaid : Prop := Claim7.holds Tryz.pinned (.plain (OpenSpec.upto treeSpoiltSpec)) treeSpoiltUptoCard

/-- THE SECOND FORM's CARD OF 'chandlerlaw05.TreeHalves'. -/
def treeHalvesUptoCard : Claim7 := { stood := { row := treeHalvesUptoRow, standIns := [], harness := (true, "ece32ae5863fa0e5e859d4d55603a21cce0dd5b18b00735232120c17c4c7840b"), looks := false }, kinds := [], alts := [], laidByText := true, laidKinds := [.data, .pinned], laidTests := true, laidLooks := .later }
def TreeHalvesUptoCardSaid : Prop := Claim7.holds Tryz.pinned (.plain (OpenSpec.upto treeHalvesSpec)) treeHalvesUptoCard

/-- THE SECOND FORM's CARD OF 'chandlerlaw05.TreeGets'. -/
def treeGetsUptoCard : Claim7 := { stood := { row := treeGetsUptoRow, standIns := [], harness := (true, "ece32ae5863fa0e5e859d4d55603a21cce0dd5b18b00735232120c17c4c7840b"), looks := false }, kinds := [], alts := [], laidByText := true, laidKinds := [.data, .pinned], laidTests := true, laidLooks := .later }
def TreeGetsUptoCardSaid : Prop := Claim7.holds Tryz.pinned (.plain (OpenSpec.upto treeGetsSpec)) treeGetsUptoCard

/-- THE SECOND FORM's CARD OF 'chandlerlaw06.RowsKept'. -/
def rowsKeptUptoCard : Claim7 := { stood := { row := rowsKeptUptoRow, standIns := [], harness := (true, "ece32ae5863fa0e5e859d4d55603a21cce0dd5b18b00735232120c17c4c7840b"), looks := false }, kinds := [], alts := [], laidByText := true, laidKinds := [.data, .pinned], laidTests := true, laidLooks := .later }
def RowsKeptUptoCardSaid : Prop := Claim7.holds Tryz.pinned (.plain (OpenSpec.upto rowsKeptSpec)) rowsKeptUptoCard

/-- THE SECOND FORM's CARD OF 'chandlerlaw06.RowsFinds'. -/
def rowsFindsUptoCard : Claim7 := { stood := { row := rowsFindsUptoRow, standIns := [], harness := (true, "ece32ae5863fa0e5e859d4d55603a21cce0dd5b18b00735232120c17c4c7840b"), looks := false }, kinds := [], alts := [], laidByText := true, laidKinds := [.data, .pinned], laidTests := true, laidLooks := .later }
def RowsFindsUptoCardSaid : Prop := Claim7.holds Tryz.pinned (.plain (OpenSpec.upto rowsFindsSpec)) rowsFindsUptoCard

/-- THE SECOND FORM's CARD OF 'chandlerlaw06.RowsTables'. -/
def rowsTablesUptoCard : Claim7 := { stood := { row := rowsTablesUptoRow, standIns := [], harness := (true, "ece32ae5863fa0e5e859d4d55603a21cce0dd5b18b00735232120c17c4c7840b"), looks := false }, kinds := [], alts := [], laidByText := true, laidKinds := [.data, .pinned], laidTests := true, laidLooks := .later }
def RowsTablesUptoCardSaid : Prop := Claim7.holds Tryz.pinned (.plain (OpenSpec.upto rowsTablesSpec)) rowsTablesUptoCard
end Rows
end Go.Proofs.YtlkgnljdpakkcaaGreatDoor
