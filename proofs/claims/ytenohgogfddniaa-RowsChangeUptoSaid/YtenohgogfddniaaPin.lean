/-
  'Int' of package pack: a number with a sign, as one without. Condition: it is an int64's.
-/
import Derived.Test.YtenohgogfddniaaRwm
import Derived.Test.YtenohgogfddniaaUint
import Derived.Lib.Zigzag
import Derived.Laws.Shifts
import Derived.Laws.Bits
import Derived.OwnWalk
namespace Go.Proofs.Ytenohgogfddniaa
open Go.RowKit
set_option linter.unusedVariables false

theorem zz_is (v : Int) : zz v = Lib.zigzag v := by unfold zz Lib.zigzag; split <;> split <;> omega
set_option maxRecDepth 100000 in
set_option maxHeartbeats 1000000 in
theorem pint_any (v : Int) (w : World) (h1 : -9223372036854775808 ≤ v) (h2 : v < 9223372036854775808) :
    Calls Try.prog 46 #[.int .i64 v] w fun e w' => e = .returned (.string ⟨(ub (zz v)).toArray⟩) ∧ Tch [] w w' := by
  have hc : ∀ W, Calls Try.prog 56 #[.int .u64 (zz v : Nat)] W fun e w' => e = .returned (.string ⟨(ub (zz v)).toArray⟩) ∧ Tch [] W w' := fun W => uint_any (zz v) W (zz_lt h1 h2)
  have HC := Lib.hid hc
  clear hc
  by_cases h : v < 0
  · have hb : decide (v < 0) = true := decide_eq_true h
    have HZ := Lib.hid (show bits .xor .u64 IntKind.u64.max (IntKind.u64.wrap (IntKind.u64.wrap v * 2)) = ((zz v : Nat) : Int) from by rw [zz_is]; exact Lib.zigzag_neg h1 h)
    go_enter Try.func46, Try.ntmps46
    go_wp2_with fail
    rw [HZ.out]
    refine (HC.out _).mono ?_
    rintro e w' ⟨rfl, T⟩
    go_wp2
    go_ret
    exact ⟨rfl, T⟩
  · have hb : decide (v < 0) = false := decide_eq_false h
    have HZ := Lib.hid (show v * 2 = ((zz v : Nat) : Int) from by unfold zz; rw [if_neg h]; omega)
    go_enter Try.func46, Try.ntmps46
    go_wp2_with fail
    rw [HZ.out]
    refine (HC.out _).mono ?_
    rintro e w' ⟨rfl, T⟩
    go_wp2
    go_ret
    exact ⟨rfl, T⟩
end Go.Proofs.Ytenohgogfddniaa
