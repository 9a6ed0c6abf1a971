/-
  The methods of a disk of package sector, each as a contract on what the disk holds ('Dk'). Conditions: the disk is one that New makes ('IsDk'), or nil.
-/
import Derived.Test.YtclnhgfionfbbaaGreatDoorOnce
import Derived.Test.YtclnhgfionfbbaaGreatDoorPad
import Derived.Deep.QuietTactic
import Derived.BigQuiet
import Derived.StillTailTactics
import Derived.BigGuardPart
namespace Go.Proofs.YtclnhgfionfbbaaGreatDoor
open Go.RowKit
set_option linter.unusedVariables false

theorem on_any (b bs : Nat) (S : Dk) (w : World) (hd : IsDk w b bs S) :
    Calls Tryz.prog 26 #[.pointer (some ⟨b, 0, none⟩)] w fun e w' => e = .returned (.bool (S.power == 1)) ∧ w = w' := by
  have c4 := hd.c4
  go_enter Tryz.func26, Tryz.ntmps26
  go_wp2_with (first | (go_at_call 37; refine (ald b 4 S.power _ c4).mono ?_; rintro e w' ⟨rfl, rfl⟩))
  go_ret
  exact ⟨rfl, rfl⟩
theorem on_nil (w : World) :
    Calls Tryz.prog 26 #[.pointer none] w fun e w' => e = .returned (.bool false) ∧ w = w' := by
  go_enter Tryz.func26, Tryz.ntmps26
  go_wp2_with fail
  go_ret
  exact ⟨rfl, rfl⟩
theorem len_any (b bs : Nat) (S : Dk) (w : World) (hd : IsDk w b bs S) :
    Calls Tryz.prog 32 #[.pointer (some ⟨b, 0, none⟩)] w fun e w' => e = .returned (.int .i64 S.secs.length) ∧ w = w' := by
  have c0 := hd.c0
  go_enter Tryz.func32, Tryz.ntmps32
  go_wp2
  go_ret
  exact ⟨rfl, rfl⟩
theorem len_nil (w : World) :
    Calls Tryz.prog 32 #[.pointer none] w fun e w' => e = .returned (.int .i64 0) ∧ w = w' := by
  go_enter Tryz.func32, Tryz.ntmps32
  go_wp2
  go_ret
  exact ⟨rfl, rfl⟩
theorem writes_any (b bs : Nat) (S : Dk) (w : World) (hd : IsDk w b bs S) (_h0 : 0 ≤ S.done) (_h1 : S.done ≤ 9223372036854775807) :
    Calls Tryz.prog 15 #[.pointer (some ⟨b, 0, none⟩)] w fun e w' => e = .returned (.int .i64 S.done) ∧ w = w' := by
  have c1 := hd.c1
  go_enter Tryz.func15, Tryz.ntmps15
  go_wp2_with (first | (go_at_call 37; refine (ald b 1 S.done _ c1).mono ?_; rintro e w' ⟨rfl, rfl⟩))
  go_ret
  exact ⟨rfl, rfl⟩
theorem writes_nil (w : World) :
    Calls Tryz.prog 15 #[.pointer none] w fun e w' => e = .returned (.int .i64 0) ∧ w = w' := by
  go_enter Tryz.func15, Tryz.ntmps15
  go_wp2
  go_ret
  exact ⟨rfl, rfl⟩
theorem cut_any (b bs : Nat) (S : Dk) (n : Int) (w : World) (hd : IsDk w b bs S) (_h0 : -9223372036854775808 ≤ n) (_h1 : n ≤ 9223372036854775807) :
    Calls Tryz.prog 21 #[.pointer (some ⟨b, 0, none⟩), .int .i64 n] w fun e w' => e = .returned (.tuple #[]) ∧ (IsDk w' b bs { S with left := max n 0 } ∧ Tch [b] w w') := by
  have c3 := hd.c3
  have z3 := hd.z 3
  have HF := Lib.hid (And.intro (hd.set3 (max n 0)) ((Tch.refl [b] w).setCell (p := ⟨b, 3, none⟩) (by simp) (.int .i64 (max n 0))))
  go_enter Tryz.func21, Tryz.ntmps21
  go_wp2_with (first | (go_at_call 29; refine (ast b 3 _ _ _ c3 z3).mono ?_; rintro e w' ⟨rfl, rfl⟩))
  go_end0
  exact ⟨rfl, HF.out⟩
theorem cut_nil (n : Int) (w : World) :
    Calls Tryz.prog 21 #[.pointer none, .int .i64 n] w fun e w' => e = .returned (.tuple #[]) ∧ w = w' := by
  go_enter Tryz.func21, Tryz.ntmps21
  go_wp2
  go_end0
  exact ⟨rfl, rfl⟩
theorem start_any (b bs : Nat) (S : Dk) (w : World) (hd : IsDk w b bs S) :
    Calls Tryz.prog 10 #[.pointer (some ⟨b, 0, none⟩)] w fun e w' => e = .returned (.tuple #[]) ∧ (IsDk w' b bs { S with left := -1, power := 1 } ∧ Tch [b] w w') := by
  have c3 := hd.c3
  have z3 := hd.z 3
  have hd3 := hd.set3 (-1)
  have c4 := hd3.c4
  have z4 := hd3.z 4
  have HF := Lib.hid (And.intro (hd3.set4 1) (((Tch.refl [b] w).setCell (p := ⟨b, 3, none⟩) (by simp) (.int .i64 (-1))).setCell (p := ⟨b, 4, none⟩) (by simp) (.int .i64 1)))
  go_enter Tryz.func10, Tryz.ntmps10
  go_wp2_with fail
  refine (ast b 3 _ _ _ c3 z3).mono ?_
  rintro e w' ⟨rfl, rfl⟩
  go_wp2_with fail
  refine (ast b 4 _ _ _ c4 z4).mono ?_
  rintro e w' ⟨rfl, rfl⟩
  go_wp2_with fail
  go_end0
  exact ⟨rfl, HF.out⟩
theorem start_nil (w : World) :
    Calls Tryz.prog 10 #[.pointer none] w fun e w' => e = .returned (.tuple #[]) ∧ w = w' := by
  go_enter Tryz.func10, Tryz.ntmps10
  go_wp2
  go_end0
  exact ⟨rfl, rfl⟩

theorem ref_nil (i : Int) (w : World) :
    Calls Tryz.prog 40 #[.pointer none, .int .i64 i] w fun e w' => e = .returned (.int .i64 1) ∧ w = w' := by
  go_enter Tryz.func40, Tryz.ntmps40
  go_wp2
  go_ret
  exact ⟨rfl, rfl⟩
theorem ref_off (b bs : Nat) (S : Dk) (i : Int) (w : World) (hd : IsDk w b bs S) (hp : (S.power == 1) = false) :
    Calls Tryz.prog 40 #[.pointer (some ⟨b, 0, none⟩), .int .i64 i] w fun e w' => e = .returned (.int .i64 12) ∧ w = w' := by
  have HO := Lib.hid (on_any b bs S w hd)
  go_enter Tryz.func40, Tryz.ntmps40
  go_wp2_with (first | (go_at_call 26; refine HO.out.mono ?_; rintro e w' ⟨rfl, rfl⟩))
  go_ret
  exact ⟨rfl, rfl⟩
theorem ref_low (b bs : Nat) (S : Dk) (i : Int) (w : World) (hd : IsDk w b bs S) (hp : (S.power == 1) = true) (hi : i < 0) :
    Calls Tryz.prog 40 #[.pointer (some ⟨b, 0, none⟩), .int .i64 i] w fun e w' => e = .returned (.int .i64 10) ∧ w = w' := by
  have HO := Lib.hid (on_any b bs S w hd)
  have c0 := hd.c0
  go_enter Tryz.func40, Tryz.ntmps40
  go_wp2_with (first | (go_at_call 26; refine HO.out.mono ?_; rintro e w' ⟨rfl, rfl⟩))
  go_ret
  exact ⟨rfl, rfl⟩
theorem ref_high (b bs : Nat) (S : Dk) (i : Int) (w : World) (hd : IsDk w b bs S) (hp : (S.power == 1) = true) (hi : ¬ i < 0) (hi2 : S.secs.length ≤ i) :
    Calls Tryz.prog 40 #[.pointer (some ⟨b, 0, none⟩), .int .i64 i] w fun e w' => e = .returned (.int .i64 10) ∧ w = w' := by
  have HO := Lib.hid (on_any b bs S w hd)
  have c0 := hd.c0
  have hj : decide (i < 0) = false := by simp; omega
  go_enter Tryz.func40, Tryz.ntmps40
  go_wp2_with (first | (go_at_call 26; refine HO.out.mono ?_; rintro e w' ⟨rfl, rfl⟩))
  go_ret
  exact ⟨rfl, rfl⟩
theorem ref_in (b bs : Nat) (S : Dk) (i : Int) (w : World) (hd : IsDk w b bs S) (hp : (S.power == 1) = true) (hi : ¬ i < 0) (hi2 : ¬ S.secs.length ≤ i) :
    Calls Tryz.prog 40 #[.pointer (some ⟨b, 0, none⟩), .int .i64 i] w fun e w' => e = .returned (.int .i64 0) ∧ w = w' := by
  have HO := Lib.hid (on_any b bs S w hd)
  have c0 := hd.c0
  have hk : decide ((S.secs.length : Int) ≤ i) = false := by simp; omega
  have hj : decide (i < 0) = false := by simp; omega
  go_enter Tryz.func40, Tryz.ntmps40
  go_wp2_with (first | (go_at_call 26; refine HO.out.mono ?_; rintro e w' ⟨rfl, rfl⟩))
  go_ret
  exact ⟨rfl, rfl⟩
end Go.Proofs.YtclnhgfionfbbaaGreatDoor
