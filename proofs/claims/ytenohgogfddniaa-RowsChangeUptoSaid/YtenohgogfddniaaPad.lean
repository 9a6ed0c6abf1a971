/-
  'padded': the text with zero bytes behind it up to 1024, for every text of at most 1024 bytes; only new memory is written.
-/
import Derived.Test.YtenohgogfddniaaStr
import Derived.Test.YtenohgogfddniaaBase
import Derived.Lib.BufferWrite
import Derived.Great.Walk
import Derived.Laws.BytesString
import Derived.Deep.DeepMust
namespace Go.Proofs.Ytenohgogfddniaa
open Go.RowKit
set_option linter.unusedVariables false

/-- The text with zero bytes behind it. -/
def pad (x : ByteArray) : ByteArray := ⟨(x.data.toList ++ List.replicate (1024 - x.size) 0).toArray⟩
/-- A new array of 1024 bytes. -/
def zc : Array Value := Array.replicate 1024 (.int .u8 0)
theorem size_zc : zc.size = 1024 := by simp [zc]

theorem Try.info_u8 : (Try.prog.info? 5).map (·.size) = some 1 := by kernel_rfl

theorem pad_len (x : ByteArray) (hx : x.size ≤ 1024) : (pad x).data.toList.length = 1024 := by
  show ((x.data.toList ++ List.replicate (1024 - x.size) 0).toArray).toList.length = 1024
  rw [List.toList_toArray, List.length_append, List.length_replicate, Array.length_toList]
  have : x.data.size = x.size := rfl
  omega
theorem pad_size (x : ByteArray) (hx : x.size ≤ 1024) : (pad x).size = 1024 := by
  have := pad_len x hx
  rwa [Array.length_toList] at this

theorem pad_cells (x : ByteArray) : Lib.byteCells x.data.toList ++ zc.toList.drop x.size = ((pad x).data.toList.map fun b => (b.toNat : Int)).map (Value.int .u8) := by
  simp only [Lib.byteCells, zc, pad, Array.toList_replicate, List.drop_replicate, List.map_append, List.map_map, List.map_replicate, Function.comp_def]
  rfl

end Go.Proofs.Ytenohgogfddniaa
