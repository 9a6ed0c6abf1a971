/-
  The law SectorTwins, walked: for every two scripts it answers true and turns nothing that was there.
-/
import Derived.Test.YthchadnbeinojaaWakes
import Derived.Test.YthchadnbeinojaaStep
import Derived.Test.YthchadnbeinojaaOps
namespace Go.Proofs.Ythchadnbeinojaa
open Go.RowKit
set_option linter.unusedVariables false

/-- The four disks stand apart. -/
def TwRel (w : World) (A B C E len1 len2 : Nat) (v12 : Value) (wr : World) : Prop :=
  ∃ (k : Nat) (D D' : Ds), (k ≤ len1 ∨ k ≤ len2) ∧ v12 = .int .i64 k ∧ IsDs wr (A + 1) A D ∧ IsRf wr (C + 1) C D ∧ IsDs wr (B + 1) B D' ∧ IsRf wr (E + 1) E D' ∧ Tch [] w wr ∧ D.done ≤ k ∧ D'.done ≤ k

set_option maxRecDepth 100000 in
set_option maxHeartbeats 2000000 in
theorem twins_walk (a1 : Option Addr) (len1 cap1 : Nat) (os1 : List Op3) (a2 : Option Addr) (len2 cap2 : Nat) (os2 : List Op3) (w : World) (hw1 : IsOps w a1 len1 cap1 os1) (hw2 : IsOps w a2 len2 cap2 os2) :
    Calls Try.prog 5 #[.slice a1 len1 cap1, .slice a2 len2 cap2] w fun e w' => e = .returned (.bool true) ∧ Tch [] w w' := by
  have hlm1 : len1 ≤ 9223372036854775807 := by
    rcases hw1 with h | ⟨_, _, _, _, _, h2, _⟩
    · omega
    · unfold maxLen at h2; omega
  have hlm2 : len2 ≤ 9223372036854775807 := by
    rcases hw2 with h | ⟨_, _, _, _, _, h2, _⟩
    · omega
    · unfold maxLen at h2; omega
  have HW := Lib.hid (fun w1 => wakes_any w1)
  have HN5 := Lib.hid (fun w1 => dnew 5 w1 (by omega) (by omega))
  have HN3 := Lib.hid (fun w1 => dnew 3 w1 (by omega) (by omega))
  have HM5 := Lib.hid (fun w1 => fnew 5 w1 (by omega) (by omega))
  have HM3 := Lib.hid (fun w1 => fnew 3 w1 (by omega) (by omega))
  go_enter Try.func5, Try.ntmps5
  go_wp2_with fail
  refine (HN5.out w).mono ?_
  rintro e w1 ⟨rfl, hd1, t1⟩
  go_wp2_with fail
  refine (HN3.out w1).mono ?_
  rintro e w2 ⟨rfl, he2, t2⟩
  go_wp2_with fail
  refine (HM5.out w2).mono ?_
  rintro e w3 ⟨rfl, hf3, t3⟩
  go_wp2_with fail
  refine (HM3.out w3).mono ?_
  rintro e w4 ⟨rfl, hg4, t4⟩
  have l1 := hd1.lt
  have l2 := he2.lt
  have l3 := hf3.lt
  have hd4 := ((hd1.keep t2 (by simp) (by simp)).keep t3 (by simp) (by simp)).keep t4 (by simp) (by simp)
  have he4 := (he2.keep t3 (by simp) (by simp)).keep t4 (by simp) (by simp)
  have hf4 := hf3.keep t4 (by simp) (by simp)
  have T4 := ((t1.trans t2).trans t3).trans t4
  have L := Lib.hid (And.intro (show w.heap.size + 1 < w1.heap.size from l1.1) (And.intro (show w1.heap.size + 1 < w2.heap.size from l2.1) (show w2.heap.size + 1 < w3.heap.size from l3.1)))
  have hwA : Hid (w.heap.size ≤ w.heap.size) := Nat.le_refl _
  clear HN5 HN3 HM5 HM3 t1 t2 t3 t4 hd1 he2 hf3 l1 l2 l3
  generalize hA : w.heap.size = A at hd4 L hwA ⊢
  generalize w1.heap.size = B at he4 L ⊢
  generalize w2.heap.size = C at hf4 L ⊢
  generalize w3.heap.size = E at hg4 L ⊢
  have HA := Lib.hid hA
  clear hA
  go_wp2_with (first | (go_at_call 15; refine (cut_nil 1 _).mono ?_; rintro e w5 ⟨rfl, rfl⟩) | (go_at_call 19; refine (start_nil _).mono ?_; rintro e w5 ⟨rfl, rfl⟩) | (go_at_call 20; refine (read_nil 0 _).mono ?_; rintro e w5 ⟨rfl, rfl⟩))
  refine (HW.out w4).mono ?_
  rintro e w5 ⟨rfl, t5⟩
  have hd5 := hd4.keep t5 (by simp) (by simp)
  have he5 := he4.keep t5 (by simp) (by simp)
  have hf5 := hf4.keep t5 (by simp) (by simp)
  have hg5 := hg4.keep t5 (by simp) (by simp)
  have T5 := T4.trans t5
  clear HW hd4 he4 hf4 hg4 T4 t5
  go_wp2_with (first | (go_at_call 16; refine (write_nil 0 _ _).mono ?_; rintro e w6 ⟨rfl, rfl⟩) | (go_at_call 21; refine (len_nil _).mono ?_; rintro e w6 ⟨rfl, rfl⟩) | (go_at_call 18; refine (writes_nil _).mono ?_; rintro e w6 ⟨rfl, rfl⟩) | (go_at_call 22; refine (highest_nil _).mono ?_; rintro e w6 ⟨rfl, rfl⟩) | (go_at_call 17; refine (on_nil _).mono ?_; rintro e w6 ⟨rfl, rfl⟩))
  go_loopw [12] (fun v12 wr => TwRel w A B C E len1 len2 v12 wr) (fun v12 _ => (max len1 len2) - (intOf v12).toNat)
  case atStart => exact ⟨0, _, _, by omega, rfl, hd5, hf5, he5, hg5, T5, by simp [freshD], by simp [freshD]⟩
  case round =>
    obtain ⟨k, D, D', hk, rfl, hd, hf, he, hg, T, hdn, hdn'⟩ := hrel
    obtain ⟨l1, l2, l3⟩ := L.out
    have hA := HA.out
    by_cases h1 : k < len1
    · have HS1 := Lib.hid (step_any (A + 1) A (C + 1) C D)
      rcases hw1 with h | ⟨ab1, ao1, rfl, hab1, hlo1, _, hc1⟩
      · omega
      obtain ⟨x10, x11, x12, b10, b11⟩ := hc1 k os1[k] (List.getElem?_eq_getElem (by omega))
      rw [← T.cell hab1 (by simp)] at x10 x11 x12
      generalize os1[k].q = q1 at x10
      generalize os1[k].i = i1 at x11 b10 b11
      generalize os1[k].x = y1 at x12
      have hk1 : (k : Int) < (len1 : Int) := by omega
      clear hc1
      have HS := Lib.hid (step_any (A + 1) A (C + 1) C D q1 i1 y1 wr hd hf b10 b11 (by omega) (by omega) (by omega) (by omega) (by omega))
      clear HS1 hd hf
      by_cases h2 : k < len2
      · skip
        rcases hw2 with h | ⟨ab2, ao2, rfl, hab2, hlo2, _, hc2⟩
        · omega
        obtain ⟨x20, x21, x22, b20, b21⟩ := hc2 k os2[k] (List.getElem?_eq_getElem (by omega))
        rw [← T.cell hab2 (by simp)] at x20 x21 x22
        generalize os2[k].q = q2 at x20
        generalize os2[k].i = i2 at x21 b20 b21
        generalize os2[k].x = y2 at x22
        have hk2 : (k : Int) < (len2 : Int) := by omega
        clear hc2
        have hA2 := hA
        clear hA
        go_wp2_with fail
        refine HS.out.mono ?_
        rintro e w5 ⟨rfl, D1, hd5, hf5, hn5, t5⟩
        have he5 := he.keep t5 (by simp; omega) (by simp; omega)
        have hg5 := hg.keep t5 (by simp; omega) (by simp; omega)
        have T5 := T.transNew t5 (by simp; omega)
        have z0 := (t5.cell (o := ao2 + k * 3) (Nat.lt_of_lt_of_le hab2 T.size) (by simp; omega)).trans x20
        have z1 := (t5.cell (o := ao2 + k * 3 + 1) (Nat.lt_of_lt_of_le hab2 T.size) (by simp; omega)).trans x21
        have z2 := (t5.cell (o := ao2 + k * 3 + 2) (Nat.lt_of_lt_of_le hab2 T.size) (by simp; omega)).trans x22
        have HS2 := Lib.hid (step_any (B + 1) B (E + 1) E D' q2 i2 y2 w5 he5 hg5 b20 b21 (by omega) (by omega) (by omega) (by omega) (by omega))
        clear he hg he5 hg5 x10 x11 x12 x20 x21 x22 HS hA2
        go_wp2_with (first | (go_at_call 14; refine HS2.out.mono ?_; rintro e w6 ⟨rfl, D2, he6, hg6, hn6, t6⟩))
        have hA := HA.out
        go_roundw
        case rel => exact ⟨k + 1, D1, D2, by omega, by go_num, hd5.keep t6 (by simp; omega) (by simp; omega), hf5.keep t6 (by simp; omega) (by simp; omega), he6, hg6, T5.transNew t6 (by simp; omega), by omega, by omega⟩
        case measure => simp [intOf]; omega
      · have n2 : decide ((k : Int) < (len2 : Int)) = false := by simp; omega
        clear hA
        go_wp2_with (first | (go_at_call 14; refine HS.out.mono ?_; rintro e w5 ⟨rfl, D1, hd5, hf5, hn5, t5⟩))
        have hA := HA.out
        have he5 := he.keep t5 (by simp; omega) (by simp; omega)
        have hg5 := hg.keep t5 (by simp; omega) (by simp; omega)
        go_roundw
        case rel => exact ⟨k + 1, D1, D', by omega, by go_num, hd5, hf5, he5, hg5, T.transNew t5 (by simp; omega), by omega, by omega⟩
        case measure => simp [intOf]; omega
    · have n1 : decide ((k : Int) < (len1 : Int)) = false := by simp; omega
      by_cases h2 : k < len2
      · skip
        rcases hw2 with h | ⟨ab2, ao2, rfl, hab2, hlo2, _, hc2⟩
        · omega
        obtain ⟨x20, x21, x22, b20, b21⟩ := hc2 k os2[k] (List.getElem?_eq_getElem (by omega))
        rw [← T.cell hab2 (by simp)] at x20 x21 x22
        generalize os2[k].q = q2 at x20
        generalize os2[k].i = i2 at x21 b20 b21
        generalize os2[k].x = y2 at x22
        have hk2 : (k : Int) < (len2 : Int) := by omega
        clear hc2
        have HS2 := Lib.hid (step_any (B + 1) B (E + 1) E D' q2 i2 y2 wr he hg b20 b21 (by omega) (by omega) (by omega) (by omega) (by omega))
        clear he hg hA
        go_wp2_with (first | (go_at_call 14; refine HS2.out.mono ?_; rintro e w6 ⟨rfl, D2, he6, hg6, hn6, t6⟩))
        have hA := HA.out
        go_roundw
        case rel => exact ⟨k + 1, D, D2, by omega, by go_num, hd.keep t6 (by simp; omega) (by simp; omega), hf.keep t6 (by simp; omega) (by simp; omega), he6, hg6, T.transNew t6 (by simp; omega), by omega, by omega⟩
        case measure => simp [intOf]; omega
      · have n2 : decide ((k : Int) < (len2 : Int)) = false := by simp; omega
        have HT1 := Lib.hid (told_any (A + 1) A (C + 1) C D wr hd hf (by omega))
        clear hA
        go_wp2_with fail
        refine HT1.out.mono ?_
        rintro e w6 ⟨rfl, t6⟩
        have HT2 := Lib.hid (told_any (B + 1) B (E + 1) E D' w6 (he.keep t6 (by simp) (by simp)) (hg.keep t6 (by simp) (by simp)) (by omega))
        go_wp2_with (first | (go_at_call 13; refine HT2.out.mono ?_; rintro e w7 ⟨rfl, t7⟩))
        go_ret
        exact ⟨rfl, (T.trans t6).trans t7⟩
end Go.Proofs.Ythchadnbeinojaa
