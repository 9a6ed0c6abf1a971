/-
  '(*Disk).Write': its errors in their order, and what the disk holds behind a write that is done. Conditions: the disk is one that New makes, or nil; its count of writes is below the greatest int64.
-/
import Derived.Test.YtclnhgfionfbbaaGreatDoorDisk
namespace Go.Proofs.YtclnhgfionfbbaaGreatDoor
open Go.RowKit
set_option linter.unusedVariables false

theorem take_free (b bs : Nat) (S : Dk) (w : World) (hd : IsDk w b bs S) (hl : (S.left == -1) = true) :
    Calls Tryz.prog 41 #[.pointer (some ⟨b, 0, none⟩)] w fun e w' => e = .returned (.bool true) ∧ w = w' := by
  have c3 := hd.c3
  go_enter Tryz.func41, Tryz.ntmps41
  go_wp2_with (first | (go_at_call 37; refine (ald b 3 _ _ c3).mono ?_; rintro e w' ⟨rfl, rfl⟩))
  go_ret
  exact ⟨rfl, rfl⟩
theorem take_none (b bs : Nat) (S : Dk) (w : World) (hd : IsDk w b bs S) (hl : (S.left == -1) = false) (hl0 : (S.left == 0) = true) :
    Calls Tryz.prog 41 #[.pointer (some ⟨b, 0, none⟩)] w fun e w' => e = .returned (.bool false) ∧ (IsDk w' b bs { S with power := 0 } ∧ Tch [b] w w') := by
  have c3 := hd.c3
  have c4 := hd.c4
  have z4 := hd.z 4
  have HF := Lib.hid (And.intro (hd.set4 0) ((Tch.refl [b] w).setCell (p := ⟨b, 4, none⟩) (by simp) (.int .i64 0)))
  go_enter Tryz.func41, Tryz.ntmps41
  go_wp2_with (first | (go_at_call 37; refine (ald b 3 _ _ c3).mono ?_; rintro e w' ⟨rfl, rfl⟩) | (go_at_call 29; refine (ast b 4 _ _ _ c4 z4).mono ?_; rintro e w' ⟨rfl, rfl⟩))
  go_ret
  exact ⟨rfl, HF.out⟩
theorem take_one (b bs : Nat) (S : Dk) (w : World) (hd : IsDk w b bs S) (hl : (S.left == -1) = false) (hl0 : (S.left == 0) = false) (h0 : -1 ≤ S.left) (h1 : S.left ≤ 9223372036854775807) :
    Calls Tryz.prog 41 #[.pointer (some ⟨b, 0, none⟩)] w fun e w' => e = .returned (.bool true) ∧ (IsDk w' b bs { S with left := S.left - 1 } ∧ Tch [b] w w') := by
  have c3 := hd.c3
  have z3 := hd.z 3
  have HW := Lib.hid (show wrap64 (S.left + -1) = S.left - 1 from by simp at hl hl0; rw [show S.left + -1 = S.left - 1 from by omega]; exact IntWalk.wrap64_in _ ⟨by omega, by omega⟩)
  have HF := Lib.hid (And.intro (hd.set3 (S.left - 1)) ((Tch.refl [b] w).setCell (p := ⟨b, 3, none⟩) (by simp) (.int .i64 (S.left - 1))))
  have HA := Lib.hid (aad b 3 S.left (-1) w c3 z3)
  rw [HW.out] at HA
  clear HW
  go_enter Tryz.func41, Tryz.ntmps41
  go_wp2_with (first | (go_at_call 37; refine (ald b 3 _ _ c3).mono ?_; rintro e w' ⟨rfl, rfl⟩) | (go_at_call 43; refine HA.out.mono ?_; rintro e w' ⟨rfl, rfl⟩))
  go_ret
  exact ⟨rfl, HF.out⟩

/-- What a cut leaves behind a write. -/
def tk (l : Int) : Int := if l = -1 then -1 else l - 1

theorem take_yes (b bs : Nat) (S : Dk) (w : World) (hd : IsDk w b bs S) (hl0 : S.left ≠ 0) (h0 : -1 ≤ S.left) (h1 : S.left ≤ 9223372036854775807) :
    Calls Tryz.prog 41 #[.pointer (some ⟨b, 0, none⟩)] w fun e w' => e = .returned (.bool true) ∧ (IsDk w' b bs { S with left := tk S.left } ∧ Tch [b] w w') := by
  by_cases h : S.left = -1
  · refine (take_free b bs S w hd (by simp [h])).mono ?_
    rintro e w' ⟨rfl, rfl⟩
    refine ⟨rfl, ?_, Tch.refl _ _⟩
    rw [show tk S.left = S.left from by simp [tk, h]]
    exact hd
  · refine (take_one b bs S w hd (by simp [h]) (by simp [hl0]) h0 h1).mono ?_
    rintro e w' ⟨rfl, hd', t'⟩
    refine ⟨rfl, ?_, t'⟩
    rw [show tk S.left = S.left - 1 from by simp [tk, h]]
    exact hd'

/-- The disk behind a write that is done. -/
def Dk.put (S : Dk) (i : Nat) (x : ByteArray) : Dk := { S with secs := S.secs.set i (pad x), done := S.done + 1, reach := max S.reach (i + 1), left := tk S.left }

set_option maxRecDepth 100000 in
set_option maxHeartbeats 1000000 in
theorem write_ok (b bs : Nat) (S : Dk) (i : Nat) (x : ByteArray) (w : World) (hd : IsDk w b bs S) (hp : (S.power == 1) = true) (hi : i < S.secs.length) (hx : x.size ≤ 1024) (hl0 : S.left ≠ 0) (h0 : -1 ≤ S.left) (h1 : S.left ≤ 9223372036854775807)
    (hn0 : 0 ≤ S.done) (hn1 : S.done < 9223372036854775807) :
    Calls Tryz.prog 24 #[.pointer (some ⟨b, 0, none⟩), .int .i64 i, .string x] w fun e w' => e = .returned (.int .i64 0) ∧ (IsDk w' b bs (S.put i x) ∧ Tch [b, bs] w w') := by
  have HR := Lib.hid (ref_in b bs S i w hd hp (by omega) (by omega))
  have HT := Lib.hid (take_yes b bs S w hd hl0 h0 h1)
  have HP := Lib.hid (fun w1 => pad_any x hx w1)
  have hlen := hd.len
  have hbn := hd.ne
  clear hp hl0 h0 h1
  go_enter Tryz.func24, Tryz.ntmps24
  go_wp2_with (first | (go_at_call 40; refine HR.out.mono ?_; rintro e w' ⟨rfl, rfl⟩) | (go_at_call 41; refine HT.out.mono ?_; rintro e w1 ⟨rfl, hd1, t1⟩))
  have c0 := hd1.c0
  have ci := hd1.sc i _ (List.getElem?_eq_getElem hi)
  have zi := hd1.sz i
  have hi2 : (i : Int) < (S.secs.length : Int) := by omega
  go_region_with (go_at_call 42; refine (HP.out _).mono ?_; rintro e w2 ⟨rfl, t2⟩; have hd2 := IsDk.keep (w := w1) (L := []) hd1 ⟨t2.os, t2.tape, t2.output, t2.size, t2.block⟩ (by simp) (by simp); have q0 := hd2.c0; have qi := hd2.sc i _ (List.getElem?_eq_getElem hi); have zi2 := hd2.sz i)
  all_goals
    have t2' : Tch [b, bs] w1 w2 := Tch.mono (L := []) ⟨t2.os, t2.tape, t2.output, t2.size, t2.block⟩ (by simp)
    have hd3 := hd2.sec i (pad x)
    have t3 := (t1.mono (L' := [b, bs]) (by simp)).trans (t2'.setCell (p := ⟨bs, i, none⟩) (by simp) (.string (pad x)))
    have HA := Lib.hid (aad b 1 S.done 1 _ hd3.c1 (hd3.z 1))
    rw [show wrap64 (S.done + 1) = S.done + 1 from IntWalk.wrap64_in _ ⟨by omega, by omega⟩] at HA
    have hd4 := hd3.set1 (S.done + 1)
    have t4 := t3.setCell (p := ⟨b, 1, none⟩) (by simp) (.int .i64 (S.done + 1))
    clear t3 t2' hd3 hd2 hd1 q0 qi zi2 c0 ci zi
    go_wp2_with (first | (go_at_call 43; refine HA.out.mono ?_; rintro e w3 ⟨rfl, rfl⟩))
    generalize (w2.setCell ⟨bs, i, none⟩ (.string (pad x))).setCell ⟨b, 1, none⟩ (.int .i64 (S.done + 1)) = W4 at hd4 t4 ⊢
    have c2 := hd4.c2
    have z2 := hd4.z 2
    have hwr : IntKind.i64.wrap ((i : Int) + 1) = (i : Int) + 1 := IntWalk.i64_in _ (by omega)
    go_region_with (first | (go_at_call 37; refine (ald b 2 S.reach _ (by exact c2)).mono ?_; rintro e w5 ⟨rfl, rfl⟩) | (go_at_call 29; refine (ast b 2 _ _ _ (by exact c2) (by exact z2)).mono ?_; rintro e w5 ⟨rfl, rfl⟩))
    all_goals
      clear hwr
      go_wp2
      go_ret
      exact ⟨rfl, hd4.set2 (max S.reach (i + 1)) |>.drew, (t4.setCell (p := ⟨b, 2, none⟩) (by simp) _).drew⟩

theorem write_nil (i : Int) (x : ByteArray) (w : World) :
    Calls Tryz.prog 24 #[.pointer none, .int .i64 i, .string x] w fun e w' => e = .returned (.int .i64 1) ∧ w = w' := by
  go_enter Tryz.func24, Tryz.ntmps24
  go_wp2_with (first | (go_at_call 40; refine (ref_nil i w).mono ?_; rintro e w' ⟨rfl, rfl⟩))
  go_ret
  exact ⟨rfl, rfl⟩
theorem write_ref (b : Nat) (i : Int) (x : ByteArray) (w : World) (k : Int) (hk : (k != 0) = true)
    (hr : Calls Tryz.prog 40 #[.pointer (some ⟨b, 0, none⟩), .int .i64 i] w fun e w' => e = .returned (.int .i64 k) ∧ w = w') :
    Calls Tryz.prog 24 #[.pointer (some ⟨b, 0, none⟩), .int .i64 i, .string x] w fun e w' => e = .returned (.int .i64 k) ∧ w = w' := by
  have HR := Lib.hid hr
  clear hr
  go_enter Tryz.func24, Tryz.ntmps24
  go_wp2_with (first | (go_at_call 40; refine HR.out.mono ?_; rintro e w' ⟨rfl, rfl⟩))
  go_ret
  exact ⟨rfl, rfl⟩
theorem write_off (b bs : Nat) (S : Dk) (i : Int) (x : ByteArray) (w : World) (hd : IsDk w b bs S) (hp : (S.power == 1) = false) :
    Calls Tryz.prog 24 #[.pointer (some ⟨b, 0, none⟩), .int .i64 i, .string x] w fun e w' => e = .returned (.int .i64 12) ∧ w = w' :=
  write_ref b i x w 12 (by decide) (ref_off b bs S i w hd hp)
theorem write_at (b bs : Nat) (S : Dk) (i : Int) (x : ByteArray) (w : World) (hd : IsDk w b bs S) (hp : (S.power == 1) = true) (hi : i < 0 ∨ S.secs.length ≤ i) :
    Calls Tryz.prog 24 #[.pointer (some ⟨b, 0, none⟩), .int .i64 i, .string x] w fun e w' => e = .returned (.int .i64 10) ∧ w = w' :=
  write_ref b i x w 10 (by decide) (by
    by_cases h : i < 0
    · exact ref_low b bs S i w hd hp h
    · exact ref_high b bs S i w hd hp h (by omega))
theorem write_long (b bs : Nat) (S : Dk) (i : Nat) (x : ByteArray) (w : World) (hd : IsDk w b bs S) (hp : (S.power == 1) = true) (hi : i < S.secs.length) (hx : 1024 < x.size) :
    Calls Tryz.prog 24 #[.pointer (some ⟨b, 0, none⟩), .int .i64 i, .string x] w fun e w' => e = .returned (.int .i64 11) ∧ w = w' := by
  have HR := Lib.hid (ref_in b bs S i w hd hp (by omega) (by omega))
  go_enter Tryz.func24, Tryz.ntmps24
  go_wp2_with (first | (go_at_call 40; refine HR.out.mono ?_; rintro e w' ⟨rfl, rfl⟩))
  go_ret
  exact ⟨rfl, rfl⟩
theorem write_cut (b bs : Nat) (S : Dk) (i : Nat) (x : ByteArray) (w : World) (hd : IsDk w b bs S) (hp : (S.power == 1) = true) (hi : i < S.secs.length) (hx : x.size ≤ 1024) (hl : S.left = 0) :
    Calls Tryz.prog 24 #[.pointer (some ⟨b, 0, none⟩), .int .i64 i, .string x] w fun e w' => e = .returned (.int .i64 12) ∧ (IsDk w' b bs { S with power := 0 } ∧ Tch [b] w w') := by
  have HR := Lib.hid (ref_in b bs S i w hd hp (by omega) (by omega))
  have HT := Lib.hid (take_none b bs S w hd (by simp [hl]) (by simp [hl]))
  clear hl
  go_enter Tryz.func24, Tryz.ntmps24
  go_wp2_with (first | (go_at_call 40; refine HR.out.mono ?_; rintro e w' ⟨rfl, rfl⟩) | (go_at_call 41; refine HT.out.mono ?_; rintro e w1 ⟨rfl, hd1, t1⟩))
  go_ret
  exact ⟨rfl, hd1, t1⟩
end Go.Proofs.YtclnhgfionfbbaaGreatDoor
