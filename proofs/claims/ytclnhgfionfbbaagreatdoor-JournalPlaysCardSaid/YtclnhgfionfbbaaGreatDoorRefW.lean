/-
  Write and Read of the document's own disk: what each answers and leaves. Condition: the disk is one that its New makes; its count of writes is below the greatest int64 at a write.
-/
import Derived.Test.YtclnhgfionfbbaaGreatDoorBare
namespace Go.Proofs.YtclnhgfionfbbaaGreatDoor
open Go.RowKit
set_option linter.unusedVariables false

set_option maxRecDepth 100000 in
set_option maxHeartbeats 1000000 in
theorem rwrite_off (b bs : Nat) (R : Rk) (i : Int) (x : ByteArray) (w : World) (hd : IsRk w b bs R) (ho : R.off = true) :
    Calls Tryz.prog 25 #[.pointer (some ⟨b, 0, none⟩), .int .i64 i, .string x] w fun e w' => e = .returned (.int .i64 12) ∧ w = w' := by
  have c5 := hd.c5
  rw [ho] at c5
  go_enter Tryz.func25, Tryz.ntmps25
  go_wp2_with fail
  go_ret
  exact ⟨rfl, rfl⟩
theorem rwrite_at (b bs : Nat) (R : Rk) (i : Int) (x : ByteArray) (w : World) (hd : IsRk w b bs R) (ho : R.off = false) (hi : i < 0 ∨ R.secs.length ≤ i) :
    Calls Tryz.prog 25 #[.pointer (some ⟨b, 0, none⟩), .int .i64 i, .string x] w fun e w' => e = .returned (.int .i64 10) ∧ w = w' := by
  have c5 := hd.c5
  have c0 := hd.c0
  rw [ho] at c5
  by_cases h : i < 0
  · go_enter Tryz.func25, Tryz.ntmps25
    go_wp2_with fail
    go_ret
    exact ⟨rfl, rfl⟩
  · have h1 : decide (i < 0) = false := by simpa using h
    have h2 : (R.secs.length : Int) ≤ i := by omega
    go_enter Tryz.func25, Tryz.ntmps25
    go_wp2_with fail
    go_ret
    exact ⟨rfl, rfl⟩
theorem rwrite_long (b bs : Nat) (R : Rk) (i : Nat) (x : ByteArray) (w : World) (hd : IsRk w b bs R) (ho : R.off = false) (hi : i < R.secs.length) (hx : 1024 < x.size) :
    Calls Tryz.prog 25 #[.pointer (some ⟨b, 0, none⟩), .int .i64 i, .string x] w fun e w' => e = .returned (.int .i64 11) ∧ w = w' := by
  have c5 := hd.c5
  have c0 := hd.c0
  rw [ho] at c5
  have h1 : decide ((i : Int) < 0) = false := by simp
  have h2 : decide ((R.secs.length : Int) ≤ (i : Int)) = false := by simp; omega
  have h3 : decide (R.secs.length ≤ i) = false := by simp [hi]
  go_enter Tryz.func25, Tryz.ntmps25
  go_wp2_with fail
  go_ret
  exact ⟨rfl, rfl⟩
theorem rwrite_cut (b bs : Nat) (R : Rk) (i : Nat) (x : ByteArray) (w : World) (hd : IsRk w b bs R) (ho : R.off = false) (hi : i < R.secs.length) (hx : x.size ≤ 1024) (hs : R.set = true) (hl : R.left = 0) :
    Calls Tryz.prog 25 #[.pointer (some ⟨b, 0, none⟩), .int .i64 i, .string x] w fun e w' => e = .returned (.int .i64 12) ∧ (IsRk w' b bs { R with off := true } ∧ Tch [b] w w') := by
  have c5 := hd.c5
  have z5 := hd.z 5
  have c0 := hd.c0
  have c3 := hd.c3
  have c4 := hd.c4
  rw [ho] at c5
  rw [hs] at c3
  rw [hl] at c4
  have HF := Lib.hid (And.intro (hd.set5 true) ((Tch.refl [b] w).setCell (p := ⟨b, 5, none⟩) (by simp) (.bool true)))
  have h1 : decide ((i : Int) < 0) = false := by simp
  have h2 : decide ((R.secs.length : Int) ≤ (i : Int)) = false := by simp; omega
  have h3 : decide (R.secs.length ≤ i) = false := by simp [hi]
  clear ho hs hl hd
  go_enter Tryz.func25, Tryz.ntmps25
  go_wp2_with fail
  go_ret
  exact ⟨rfl, HF.out⟩

/-- The disk behind a write that is done. -/
def Rk.put2 (R : Rk) (i j : Nat) (x : ByteArray) : Rk := { R with secs := R.secs.set i (x.extract 0 j), done := R.done + 1, high := max R.high i, left := if R.set then R.left - 1 else R.left }

/-- What such a write answers and leaves. -/
def RwPost (b bs : Nat) (R : Rk) (i : Nat) (x : ByteArray) (w : World) (e : Ending) (w' : World) : Prop :=
  ∃ j, (j ≤ x.size ∧ ∀ q (h : q < x.size), j ≤ q → x[q]'h = 0) ∧ e = .returned (.int .i64 0) ∧ (IsRk w' b bs (R.put2 i j x) ∧ Tch [b, bs] w w')

set_option maxRecDepth 100000 in
set_option maxHeartbeats 1000000 in
theorem rwrite_ok (b bs : Nat) (R : Rk) (i : Nat) (x : ByteArray) (w : World) (hd : IsRk w b bs R) (ho : R.off = false) (hi : i < R.secs.length) (hx : x.size ≤ 1024) (hs : R.set = true → 0 < R.left ∧ R.left ≤ 9223372036854775807)
    (hn0 : 0 ≤ R.done) (hn1 : R.done < 9223372036854775807) :
    Calls Tryz.prog 25 #[.pointer (some ⟨b, 0, none⟩), .int .i64 i, .string x] w (RwPost b bs R i x w) := by
  have HB := Lib.hid (fun w1 => bare_any x w1 hx)
  have c5 := hd.c5
  have c0 := hd.c0
  have c3 := hd.c3
  have c4 := hd.c4
  have z4 := hd.z 4
  rw [ho] at c5
  have h1 : decide ((i : Int) < 0) = false := by simp
  have h2 : decide ((R.secs.length : Int) ≤ (i : Int)) = false := by simp; omega
  have h3 : decide (R.secs.length ≤ i) = false := by simp [hi]
  have hi2 : (i : Int) < (R.secs.length : Int) := by omega
  have hlen := hd.len
  -- what is left behind the count of a cut
  obtain ⟨R1, hR1⟩ : ∃ R1 : Rk, R1 = { R with left := if R.set then R.left - 1 else R.left } := ⟨_, rfl⟩
  by_cases hset : R.set = true
  · obtain ⟨hl0, hl1⟩ := hs hset
    rw [hset] at c3
    have hd1 : IsRk (w.setCell ⟨b, 4, none⟩ (.int .i64 (R.left - 1))) b bs R1 := by rw [hR1, if_pos hset]; exact hd.set4 (R.left - 1)
    have t1 := (Tch.refl [b] w).setCell (p := ⟨b, 4, none⟩) (by simp) (.int .i64 (R.left - 1))
    have hne : (R.left == 0) = false := by simp; omega
    have HR1 := Lib.hid hR1
    clear hR1 hs hset ho
    go_enter Tryz.func25, Tryz.ntmps25
    go_wp2_with fail
    generalize w.setCell ⟨b, 4, none⟩ (.int .i64 (R.left - 1)) = W1 at hd1 t1 ⊢
    have q0 : W1.cell? ⟨b, 0, none⟩ = some (.slice (some ⟨bs, 0, none⟩) R.secs.length R.secs.length) := by have := hd1.c0; rw [HR1.out] at this; exact this
    have qi : W1.cell? ⟨bs, i, none⟩ = some (.string R.secs[i]) := by have := hd1.sc i R.secs[i] (by rw [HR1.out]; exact List.getElem?_eq_getElem hi); exact this
    have zi := hd1.sz i
    go_region_with (go_at_call 44; refine (HB.out _).mono ?_; rintro e w2 ⟨⟨j, rfl, hj, hz⟩, rfl⟩)
    all_goals
      have HZ := Lib.hid (And.intro hj hz)
      have hd2 := (hd1.sec i (x.extract 0 j)).drew
      have t2 := (((t1.mono (L' := [b, bs]) (by simp)).setCell (p := ⟨bs, i, none⟩) (by simp) (.string (x.extract 0 j)))).drew
      have k1 : (W1.setCell ⟨bs, i, none⟩ (.string (x.extract 0 j))).drew.cell? ⟨b, 1, none⟩ = some (.int .i64 R.done) := by have := hd2.c1; rw [HR1.out] at this; exact this
      have y1 := hd2.z 1
      have hd3 := hd2.set1 (R.done + 1)
      have t3 := t2.setCell (p := ⟨b, 1, none⟩) (by simp) (.int .i64 (R.done + 1))
      clear q0 qi zi hd1 t1 hz hj
      generalize (W1.setCell ⟨bs, i, none⟩ (.string (x.extract 0 j))).drew = W2 at hd2 t2 k1 y1 hd3 t3 ⊢
      have k2 : (W2.setCell ⟨b, 1, none⟩ (.int .i64 (R.done + 1))).cell? ⟨b, 2, none⟩ = some (.int .i64 R.high) := by have := hd3.c2; rw [HR1.out] at this; exact this
      have y2 := hd3.z 2
      have hd4 := hd3.set2 i
      have t4 := t3.setCell (p := ⟨b, 2, none⟩) (by simp) (.int .i64 i)
      by_cases hh : R.high < (i : Int)
      · have HF : Hid (IsRk ((W2.setCell ⟨b, 1, none⟩ (.int .i64 (R.done + 1))).setCell ⟨b, 2, none⟩ (.int .i64 i)) b bs (R.put2 i j x)) := by
          have h := hd4
          rw [HR1.out] at h
          unfold Rk.put2
          rw [show max R.high (i : Int) = i from by omega]
          exact h
        clear hd2 hd3 hd4 t2 t3
        go_wp2_with fail
        go_ret
        exact ⟨j, HZ.out, rfl, HF.out, t4⟩
      · have HF : Hid (IsRk (W2.setCell ⟨b, 1, none⟩ (.int .i64 (R.done + 1))) b bs (R.put2 i j x)) := by
          have h := hd3
          rw [HR1.out] at h
          unfold Rk.put2
          rw [show max R.high (i : Int) = R.high from by omega]
          exact h
        have hh2 : decide (R.high < (i : Int)) = false := by simpa using hh
        clear hd2 hd3 hd4 t2 t4
        go_wp2_with fail
        go_ret
        exact ⟨j, HZ.out, rfl, HF.out, t3⟩
  · rw [show R.set = false from by simpa using hset] at c3
    have hd1 : IsRk w b bs R1 := by rw [hR1, if_neg hset]; exact hd
    have t1 := Tch.refl [b] w
    have HR1 := Lib.hid hR1
    clear hR1 hs hset ho
    go_enter Tryz.func25, Tryz.ntmps25
    go_wp2_with fail
    obtain ⟨W1, hW1⟩ : ∃ W1, W1 = w := ⟨_, rfl⟩
    rw [← hW1]
    rw [← hW1] at hd1
    have t1 : Tch [b] w W1 := by rw [hW1]; exact Tch.refl _ _
    clear hW1
    have q0 : W1.cell? ⟨b, 0, none⟩ = some (.slice (some ⟨bs, 0, none⟩) R.secs.length R.secs.length) := by have := hd1.c0; rw [HR1.out] at this; exact this
    have qi : W1.cell? ⟨bs, i, none⟩ = some (.string R.secs[i]) := by have := hd1.sc i R.secs[i] (by rw [HR1.out]; exact List.getElem?_eq_getElem hi); exact this
    have zi := hd1.sz i
    go_region_with (go_at_call 44; refine (HB.out _).mono ?_; rintro e w2 ⟨⟨j, rfl, hj, hz⟩, rfl⟩)
    all_goals
      have HZ := Lib.hid (And.intro hj hz)
      have hd2 := (hd1.sec i (x.extract 0 j)).drew
      have t2 := (((t1.mono (L' := [b, bs]) (by simp)).setCell (p := ⟨bs, i, none⟩) (by simp) (.string (x.extract 0 j)))).drew
      have k1 : (W1.setCell ⟨bs, i, none⟩ (.string (x.extract 0 j))).drew.cell? ⟨b, 1, none⟩ = some (.int .i64 R.done) := by have := hd2.c1; rw [HR1.out] at this; exact this
      have y1 := hd2.z 1
      have hd3 := hd2.set1 (R.done + 1)
      have t3 := t2.setCell (p := ⟨b, 1, none⟩) (by simp) (.int .i64 (R.done + 1))
      clear q0 qi zi hd1 t1 hz hj
      generalize (W1.setCell ⟨bs, i, none⟩ (.string (x.extract 0 j))).drew = W2 at hd2 t2 k1 y1 hd3 t3 ⊢
      have k2 : (W2.setCell ⟨b, 1, none⟩ (.int .i64 (R.done + 1))).cell? ⟨b, 2, none⟩ = some (.int .i64 R.high) := by have := hd3.c2; rw [HR1.out] at this; exact this
      have y2 := hd3.z 2
      have hd4 := hd3.set2 i
      have t4 := t3.setCell (p := ⟨b, 2, none⟩) (by simp) (.int .i64 i)
      by_cases hh : R.high < (i : Int)
      · have HF : Hid (IsRk ((W2.setCell ⟨b, 1, none⟩ (.int .i64 (R.done + 1))).setCell ⟨b, 2, none⟩ (.int .i64 i)) b bs (R.put2 i j x)) := by
          have h := hd4
          rw [HR1.out] at h
          unfold Rk.put2
          rw [show max R.high (i : Int) = i from by omega]
          exact h
        clear hd2 hd3 hd4 t2 t3
        go_wp2_with fail
        go_ret
        exact ⟨j, HZ.out, rfl, HF.out, t4⟩
      · have HF : Hid (IsRk (W2.setCell ⟨b, 1, none⟩ (.int .i64 (R.done + 1))) b bs (R.put2 i j x)) := by
          have h := hd3
          rw [HR1.out] at h
          unfold Rk.put2
          rw [show max R.high (i : Int) = R.high from by omega]
          exact h
        have hh2 : decide (R.high < (i : Int)) = false := by simpa using hh
        clear hd2 hd3 hd4 t2 t4
        go_wp2_with fail
        go_ret
        exact ⟨j, HZ.out, rfl, HF.out, t3⟩
end Go.Proofs.YtclnhgfionfbbaaGreatDoor
