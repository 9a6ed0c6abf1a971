/-
  Texts with their length ahead: 'Text' and 'ReadText' of package pack, and the document's. Conditions: texts shorter than 10^9 bytes.
-/
import Derived.Test.YtlgfdfpafmopdaaNd
import Derived.Test.YtlgfdfpafmopdaaRRdu
import Derived.Test.YtlgfdfpafmopdaaShelf
import Derived.IntWalk
import Derived.Laws.DeepStrings4
namespace Go.Proofs.Ytlgfdfpafmopdaa
open Go.RowKit
set_option linter.unusedVariables false

theorem tx_ba (s : ByteArray) : (⟨(ub s.size).toArray⟩ : ByteArray) ++ s = ⟨(tx s).toArray⟩ := by
  have h : s = ⟨s.data.toList.toArray⟩ := by cases s; simp
  conv => lhs; rw [h]
  rw [jjoin]
  rfl
theorem rtext_any (s : ByteArray) (w : World) (hs : s.size ≤ 1000000000) :
    Calls Try.prog 45 #[.string s] w fun e w' => e = .returned (.string ⟨(tx s).toArray⟩) ∧ Tch [] w w' := by
  have HU := Lib.hid (fun w1 => ruint_any s.size w1 (by omega))
  have hcw : IntKind.u64.wrap (s.size : Int) = (s.size : Int) := by rw [IntKind.wrap_u64]; omega
  have hl := ub_len 9 s.size (by simp; omega)
  have hsum : ¬ 9223372036854775807 < (⟨(ub s.size).toArray⟩ : ByteArray).size + s.size := by
    have : (⟨(ub s.size).toArray⟩ : ByteArray).size = (ub s.size).length := List.size_toArray
    omega
  have HJ := Lib.hid (tx_ba s)
  clear hl
  go_enter Try.func45, Try.ntmps45
  go_wp2_with fail
  refine (HU.out _).mono ?_
  rintro e w1 ⟨rfl, t1⟩
  go_wp2_with fail
  go_ret
  exact ⟨by rw [HJ.out]; rfl, t1⟩
theorem text_any (s : ByteArray) (w : World) (hs : s.size ≤ 1000000000) :
    Calls Try.prog 29 #[.string s] w fun e w' => e = .returned (.string ⟨(tx s).toArray⟩) ∧ Tch [] w w' := by
  have HU := Lib.hid (fun w1 => uint_any s.size w1 (by omega))
  have hcw : IntKind.u64.wrap (s.size : Int) = (s.size : Int) := by rw [IntKind.wrap_u64]; omega
  have hl := ub_len 9 s.size (by simp; omega)
  have hsum : ¬ 9223372036854775807 < (⟨(ub s.size).toArray⟩ : ByteArray).size + s.size := by
    have : (⟨(ub s.size).toArray⟩ : ByteArray).size = (ub s.size).length := List.size_toArray
    omega
  have HJ := Lib.hid (tx_ba s)
  clear hl
  go_enter Try.func29, Try.ntmps29
  go_wp2_with fail
  refine (HU.out _).mono ?_
  rintro e w1 ⟨rfl, t1⟩
  go_wp2_with fail
  go_ret
  exact ⟨by rw [HJ.out]; rfl, t1⟩

/-- A piece of a text. -/
theorem slice_str (s : ByteArray) (q v : Nat) (h : q + v ≤ s.size) (w : World) : (Instr.slice 9 (.string s) (some (.int .i64 (q : Int))) (some (.int .i64 ((q : Int) + (v : Int)))) none).run Try.prog w = .ok (.string (s.extract q (q + v))) w := by
  rw [run_slice_string_if _ _ _ _ _ _ _ Try.underlying9, if_pos (by omega), if_pos (by omega)]
  rw [Int.toNat_natCast, show ((q : Int) + (v : Int)).toNat = q + v from by omega]
/-- What ReadText answers. -/
def rtxE (L : List UInt8) (p : Nat) : Ending := .returned (.tuple #[.string (rtx L).2.1, .int .i64 (if (rtx L).1 = 0 then ((p + (rtx L).2.2 : Nat) : Int) else 0), .int .i64 (rtx L).1])
theorem ext_drop (s : ByteArray) (p n v : Nat) : s.extract (p + n) (p + n + v) = ⟨(((s.data.toList.drop p).drop n).take v).toArray⟩ := by
  apply ba_ext
  rw [Lib.extract_data, List.drop_drop, List.toList_toArray, show p + n + v - (p + n) = v from by omega]
theorem clone_any (s : ByteArray) (w : World) (hs : s.size ≤ 1000000000) :
    Calls Try.prog 47 #[.string s] w fun e w' => e = .returned (.string s) ∧ Tch [] w w' := by
  have HC := Lib.hid (Try.stringslite_Clone s w (by omega))
  go_enter Try.func47, Try.ntmps47
  go_wp2_with fail
  refine HC.out.mono ?_
  rintro e w1 ⟨rfl, t1⟩
  go_wp2_with fail
  go_ret
  exact ⟨rfl, Tch.ofBelow t1⟩
end Go.Proofs.Ytlgfdfpafmopdaa
