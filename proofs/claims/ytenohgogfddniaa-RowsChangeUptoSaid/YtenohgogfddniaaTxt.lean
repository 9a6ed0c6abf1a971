/-
  Texts with their length ahead: 'Text' and 'ReadText' of package pack, and the document's. Conditions: texts shorter than 10^9 bytes.
-/
import Derived.Test.YtenohgogfddniaaNd
import Derived.Test.YtenohgogfddniaaRRdu
import Derived.Test.YtenohgogfddniaaShelf
import Derived.IntWalk
import Derived.Laws.DeepStrings4
namespace Go.Proofs.Ytenohgogfddniaa
open Go.RowKit
set_option linter.unusedVariables false

theorem tx_ba (s : ByteArray) : (⟨(ub s.size).toArray⟩ : ByteArray) ++ s = ⟨(tx s).toArray⟩ := by
  have h : s = ⟨s.data.toList.toArray⟩ := by cases s; simp
  conv => lhs; rw [h]
  rw [jjoin]
  rfl
theorem rtext_any (s : ByteArray) (w : World) (hs : s.size ≤ 1000000000) :
    Calls Try.prog 21 #[.string s] w fun e w' => e = .returned (.string ⟨(tx s).toArray⟩) ∧ Tch [] w w' := by
  have HU := Lib.hid (fun w1 => ruint_any s.size w1 (by omega))
  have hcw : IntKind.u64.wrap (s.size : Int) = (s.size : Int) := by rw [IntKind.wrap_u64]; omega
  have hl := ub_len 9 s.size (by simp; omega)
  have hsum : ¬ 9223372036854775807 < (⟨(ub s.size).toArray⟩ : ByteArray).size + s.size := by
    have : (⟨(ub s.size).toArray⟩ : ByteArray).size = (ub s.size).length := List.size_toArray
    omega
  have HJ := Lib.hid (tx_ba s)
  clear hl
  go_enter Try.func21, Try.ntmps21
  go_wp2_with fail
  refine (HU.out _).mono ?_
  rintro e w1 ⟨rfl, t1⟩
  go_wp2_with fail
  go_ret
  exact ⟨by rw [HJ.out]; rfl, t1⟩
theorem text_any (s : ByteArray) (w : World) (hs : s.size ≤ 1000000000) :
    Calls Try.prog 47 #[.string s] w fun e w' => e = .returned (.string ⟨(tx s).toArray⟩) ∧ Tch [] w w' := by
  have HU := Lib.hid (fun w1 => uint_any s.size w1 (by omega))
  have hcw : IntKind.u64.wrap (s.size : Int) = (s.size : Int) := by rw [IntKind.wrap_u64]; omega
  have hl := ub_len 9 s.size (by simp; omega)
  have hsum : ¬ 9223372036854775807 < (⟨(ub s.size).toArray⟩ : ByteArray).size + s.size := by
    have : (⟨(ub s.size).toArray⟩ : ByteArray).size = (ub s.size).length := List.size_toArray
    omega
  have HJ := Lib.hid (tx_ba s)
  clear hl
  go_enter Try.func47, Try.ntmps47
  go_wp2_with fail
  refine (HU.out _).mono ?_
  rintro e w1 ⟨rfl, t1⟩
  go_wp2_with fail
  go_ret
  exact ⟨by rw [HJ.out]; rfl, t1⟩

/-- A piece of a text. -/
theorem slice_str (s : ByteArray) (q v : Nat) (h : q + v ≤ s.size) (w : World) : (Instr.slice 9 (.string s) (some (.int .i64 (q : Int))) (some (.int .i64 ((q : Int) + (v : Int)))) none).run Try.prog w = .ok (.string (s.extract q (q + v))) w := by
  rw [run_slice_string_if _ _ _ _ _ _ _ Try.underlying9, if_pos (by omega), if_pos (by omega)]
  rw [Int.toNat_natCast, show ((q : Int) + (v : Int)).toNat = q + v from by omega]
/-- What ReadText answers. -/
def rtxE (L : List UInt8) (p : Nat) : Ending := .returned (.tuple #[.string (rtx L).2.1, .int .i64 (if (rtx L).1 = 0 then ((p + (rtx L).2.2 : Nat) : Int) else 0), .int .i64 (rtx L).1])
theorem ext_drop (s : ByteArray) (p n v : Nat) : s.extract (p + n) (p + n + v) = ⟨(((s.data.toList.drop p).drop n).take v).toArray⟩ := by
  apply ba_ext
  rw [Lib.extract_data, List.drop_drop, List.toList_toArray, show p + n + v - (p + n) = v from by omega]
theorem clone_any (s : ByteArray) (w : World) (hs : s.size ≤ 1000000000) :
    Calls Try.prog 51 #[.string s] w fun e w' => e = .returned (.string s) ∧ Tch [] w w' := by
  have HC := Lib.hid (Try.stringslite_Clone s w (by omega))
  go_enter Try.func51, Try.ntmps51
  go_wp2_with fail
  refine HC.out.mono ?_
  rintro e w1 ⟨rfl, t1⟩
  go_wp2_with fail
  go_ret
  exact ⟨rfl, Tch.ofBelow t1⟩
theorem rdtext_at (s : ByteArray) (p : Nat) (w : World) (hs : s.size ≤ 1000000000) :
    Calls Try.prog 53 #[.string s, .int .i64 p] w fun e w' => e = rtxE (s.data.toList.drop p) p ∧ Tch [] w w' := by
  have HR := Lib.hid (rdu_at s p w (by omega))
  obtain ⟨L, hL⟩ : ∃ L, s.data.toList.drop p = L := ⟨_, rfl⟩
  rcases hr : rdu L 0 0 with ⟨c, v, n⟩
  have hll : L.length = s.size - p := by rw [← hL, List.length_drop, ← Lib.size_eq]
  by_cases hc : c = 0
  · subst hc
    have hb := rdu_bound L 0 0 0 v n hr (by simp) (by omega) rfl
    rw [hL, rduE_ok hr] at HR
    have hq : p + n ≤ s.size := by omega
    have hw1 : IntKind.u64.wrap ((s.size : Int) - ((p + n : Nat) : Int)) = (s.size : Int) - ((p + n : Nat) : Int) := by rw [IntKind.wrap_u64]; omega
    by_cases ht : L.length - n < v
    · have hd : decide ((s.size : Int) - ((p + n : Nat) : Int) < (v : Int)) = true := by simp; omega
      have HF : Hid (rtxE L p = .returned (.tuple #[.string ⟨#[]⟩, .int .i64 0, .int .i64 20])) := by show _ = _; unfold rtxE rtx; rw [hr]; simp [ht]
      rw [hL]
      generalize p + n = q at HR hq hw1 hd
      clear hr hL hll ht hb
      go_enter Try.func53, Try.ntmps53
      go_wp2_with (first | (go_at_call 59; refine HR.out.mono ?_; rintro e w1 ⟨rfl, rfl⟩))
      go_ret3
      exact ⟨HF.out.symm, Tch.refl _ _⟩
    · have hd : decide ((s.size : Int) - ((p + n : Nat) : Int) < (v : Int)) = false := by simp; omega
      have HF : Hid (rtxE L p = .returned (.tuple #[.string (s.extract (p + n) (p + n + v)), .int .i64 (((p + n : Nat) : Int) + (v : Int)), .int .i64 0])) := by
        show _ = _
        unfold rtxE rtx
        rw [hr, ext_drop, hL]
        simp [ht, Int.add_assoc]
      rw [hL]
      have hv : p + n + v ≤ s.size := by omega
      have hw2 : IntKind.i64.wrap (v : Int) = (v : Int) := IntWalk.i64_in _ (by omega)
      have hsl := slice_str s (p + n) v hv
      generalize p + n = q at HR hq hw1 hd HF hv hsl
      clear hr hL hll ht hb
      have HCL := Lib.hid (clone_any (s.extract q (q + v)) w (by rw [Lib.size_eq, Lib.extract_data, List.length_take, List.length_drop, ← Lib.size_eq]; omega))
      go_enter Try.func53, Try.ntmps53
      go_wp2_with (go_at_call 59; refine HR.out.mono ?_; rintro e w1 ⟨rfl, rfl⟩)
      refine HCL.out.mono ?_
      rintro e w1 ⟨rfl, t1⟩
      go_wp2_with fail
      go_ret3
      exact ⟨HF.out.symm, t1⟩
  · have HF : Hid (rtxE L p = .returned (.tuple #[.string ⟨#[]⟩, .int .i64 0, .int .i64 c])) := by show _ = _; unfold rtxE rtx; rw [hr]; simp [hc]
    rw [hL] at HR
    unfold rduE at HR
    rw [hr] at HR
    simp only [if_neg hc] at HR
    have hne : (c != 0) = true := by simpa using hc
    rw [hL]
    clear hr hL hll hc
    go_enter Try.func53, Try.ntmps53
    go_wp2_with (first | (go_at_call 59; refine HR.out.mono ?_; rintro e w1 ⟨rfl, rfl⟩))
    go_ret3
    exact ⟨HF.out.symm, Tch.refl _ _⟩

end Go.Proofs.Ytenohgogfddniaa
