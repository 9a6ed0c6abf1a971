/-
  'ReadInt' of package pack.
-/
import Derived.Test.YtenohgogfddniaaPin
import Derived.Test.YtenohgogfddniaaTxt
namespace Go.Proofs.Ytenohgogfddniaa
open Go.RowKit
set_option linter.unusedVariables false

/-- A number with a sign, back from one without. -/
def unzz (u : Nat) : Int := if u % 2 = 0 then ((u / 2 : Nat) : Int) else -((u / 2 : Nat) : Int) - 1
theorem unzz_zz (v : Int) : unzz (zz v) = v := by unfold unzz zz; split <;> split <;> omega
theorem zz_unzz (u : Nat) : zz (unzz u) = u := by unfold unzz zz; split <;> split <;> omega
theorem unzz_in {u : Nat} (h : u < 18446744073709551616) : -9223372036854775808 ≤ unzz u ∧ unzz u < 9223372036854775808 := by unfold unzz; split <;> omega
/-- What ReadInt answers. -/
def rdiE (L : List UInt8) (p : Nat) : Ending := .returned (.tuple #[.int .i64 (if (rdu L 0 0).1 = 0 then unzz (rdu L 0 0).2.1 else 0), .int .i64 (if (rdu L 0 0).1 = 0 then ((p + (rdu L 0 0).2.2 : Nat) : Int) else 0), .int .i64 (rdu L 0 0).1])
set_option maxRecDepth 100000 in
set_option maxHeartbeats 1000000 in
theorem rdint_at (s : ByteArray) (p : Nat) (w : World) (hs : s.size ≤ 1000000000) :
    Calls Try.prog 52 #[.string s, .int .i64 p] w fun e w' => e = rdiE (s.data.toList.drop p) p ∧ w = w' := by
  have HR := Lib.hid (rdu_at s p w (by omega))
  obtain ⟨L, hL⟩ : ∃ L, s.data.toList.drop p = L := ⟨_, rfl⟩
  rcases hr : rdu L 0 0 with ⟨c, v, n⟩
  by_cases hc : c = 0
  · subst hc
    have hb := rdu_bound L 0 0 0 v n hr (by simp) (by omega) rfl
    rw [hL, rduE_ok hr] at HR
    have ha := Lib.u64_and1 (v : Int) (by omega) (by omega)
    have HF : Hid (rdiE L p = .returned (.tuple #[.int .i64 (unzz v), .int .i64 ((p + n : Nat) : Int), .int .i64 0])) := by show _ = _; unfold rdiE; rw [hr]; simp
    rw [hL]
    have hw1 : IntKind.i64.wrap ((v : Int) / 2) = (v : Int) / 2 := IntWalk.i64_in _ (by omega)
    generalize p + n = q at HR HF
    by_cases h2 : v % 2 = 0
    · have hd : ((v : Int) % 2 != 0) = false := by simp; omega
      have HU := Lib.hid (show unzz v = (v : Int) / 2 from by unfold unzz; rw [if_pos h2]; omega)
      clear hr hL hb h2
      go_enter Try.func52, Try.ntmps52
      go_wp2_with (go_at_call 59; refine HR.out.mono ?_; rintro e w1 ⟨rfl, rfl⟩)
      go_ret3
      exact ⟨by rw [HF.out, HU.out]; rfl, rfl⟩
    · have hd : ((v : Int) % 2 != 0) = true := by simp; omega
      have hnot : bits .xor .i64 (-1) ((v : Int) / 2) = unzz v := by
        have h := Lib.i64_not (v / 2) (by omega)
        unfold unzz; rw [if_neg h2]
        push_cast at h ⊢
        exact h
      clear hr hL hb h2
      go_enter Try.func52, Try.ntmps52
      go_wp2_with (go_at_call 59; refine HR.out.mono ?_; rintro e w1 ⟨rfl, rfl⟩)
      go_ret3
      exact ⟨by rw [HF.out]; rfl, rfl⟩
  · have HF : Hid (rdiE L p = .returned (.tuple #[.int .i64 0, .int .i64 0, .int .i64 c])) := by show _ = _; unfold rdiE; rw [hr]; simp [hc]
    rw [hL] at HR
    unfold rduE at HR
    rw [hr] at HR
    simp only [if_neg hc] at HR
    have hne : (c != 0) = true := by simpa using hc
    rw [hL]
    clear hr hL hc
    go_enter Try.func52, Try.ntmps52
    go_wp2_with (go_at_call 59; refine HR.out.mono ?_; rintro e w1 ⟨rfl, rfl⟩)
    go_ret3
    exact ⟨HF.out.symm, rfl⟩
end Go.Proofs.Ytenohgogfddniaa
