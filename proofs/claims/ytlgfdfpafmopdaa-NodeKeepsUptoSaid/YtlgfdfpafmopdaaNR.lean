/-
  The law NodeReads, walked: it answers true and turns nothing that was there, if package node answers as the document has it. Condition: the text is shorter than 10^7 bytes.
-/
import Derived.Test.YtlgfdfpafmopdaaNK
namespace Go.Proofs.Ytlgfdfpafmopdaa
open Go.RowKit
set_option linter.unusedVariables false

theorem slice_pre (s t : ByteArray) (z : List UInt8) (h : s.data.toList = t.data.toList ++ z) (w : World) : (Instr.slice 9 (.string s) none (some (.int .i64 (t.size : Int))) none).run Try.prog w = .ok (.string t) w := by
  have hl : t.size ≤ s.size := by rw [Lib.size_eq s, h, List.length_append, ← Lib.size_eq]; omega
  rw [run_slice_string_h _ _ _ Try.underlying9 _ _ (by omega) (by omega), Int.toNat_natCast]
  congr 2
  apply ba_ext
  rw [Lib.extract_data, List.drop_zero, Nat.sub_zero, h, List.take_append_of_le_length (by rw [← Lib.size_eq]; omega), List.take_of_length_le (by rw [← Lib.size_eq]; omega)]

end Go.Proofs.Ytlgfdfpafmopdaa
