/-
  'told' and 'step' of chandlerlaw01: the program's disk and the document's, side by side, tell and answer the same. Conditions: both stand for the same disk; the count of writes is below the greatest int64.
-/
import Derived.Test.YthchadnbeinojaaRefR
import Derived.Deep.RegionHeld3
import Derived.Deep.DeepFit
namespace Go.Proofs.Ythchadnbeinojaa
open Go.RowKit
set_option linter.unusedVariables false

/-- A call that leaves the world alone, in a region that only reads. -/
theorem quietSame {P : Program} {f : FuncId} {args : Array Value} {w : World} {n : Nat} {v : Value}
    (h : Calls P f args (w.drewN n) fun e w' => e = .returned v ∧ w.drewN n = w') : Calls P f args (w.drewN n) fun e w'' => e = .returned v ∧ ∃ m, w'' = w.drewN m :=
  h.mono fun _ _ ⟨he, hm⟩ => ⟨he, n, hm.symm⟩

set_option maxRecDepth 100000 in
set_option maxHeartbeats 1000000 in
theorem told_any (b bs rb rs : Nat) (D : Ds) (w : World) (hd : IsDs w b bs D) (hf : IsRf w rb rs D) (hn : D.done ≤ 9223372036854775807) :
    Calls Try.prog 13 #[.pointer (some ⟨b, 0, none⟩), .pointer (some ⟨rb, 0, none⟩)] w fun e w' => e = .returned (.bool true) ∧ Tch [] w w' := by
  obtain ⟨R, hk, hl, hs, h1, h2, h3, h4⟩ := hf
  have c0 := hk.c0
  rw [hl] at c0
  have c1 := hk.c1
  rw [h1] at c1
  have c2 := hk.c2
  rw [h2] at c2
  have c5 := hk.c5
  rw [h3] at c5
  have HD : Hid (∀ n, IsDs (w.drewN n) b bs D) := fun n => hd.keep (tchDrewN (Tch.refl [] w) n) (by simp) (by simp)
  clear hk hs h1 h2 h3 h4 hl
  cases hon : D.on
  all_goals
    have HO : Hid (∀ n, _) := fun n => don b bs D (w.drewN n) (HD.out n)
    rw [hon] at c5 HO
    have HON := Lib.hid hon
    clear hon
    go_enter Try.func13, Try.ntmps13
    go_wp2_with fail
    go_quiet (first | (go_at_call 21; exact quietSame (dlen b bs D _ (HD.out _))) | (go_at_call 18; exact quietSame (dwrites b bs D _ (HD.out _) hn)) | (go_at_call 22; exact quietSame (dhighest b bs D _ (HD.out _))) | (go_at_call 17; exact quietSame (HO.out _)))
    go_wp2
    go_ret
    exact ⟨rfl, tchDrewN (Tch.refl _ _) _⟩
theorem wdone (D : Ds) (i : Int) (x : ByteArray) : (D.wstate i x).done ≤ D.done + 1 ∧ (D.wstate i x).texts.length = D.texts.length := by
  unfold Ds.wstate
  split
  · simp; omega
  · split
    · simp; omega
    · split
      · simp; omega
      · split
        · simp; omega
        · simp

/-- What a step leaves: the two disks still stand for one and the same. -/
def StPost (b bs rb rs : Nat) (D : Ds) (w : World) (e : Ending) (w' : World) : Prop :=
  e = .returned (.bool true) ∧ ∃ E : Ds, IsDs w' b bs E ∧ IsRf w' rb rs E ∧ E.done ≤ D.done + 1 ∧ Tch [b, bs, rb, rs] w w'

set_option maxRecDepth 100000 in
set_option maxHeartbeats 1000000 in
theorem step_write (b bs rb rs : Nat) (D : Ds) (i : Int) (x : ByteArray) (w : World) (hd : IsDs w b bs D) (hf : IsRf w rb rs D) (hn : D.done < 9223372036854775807) (n1 : b ≠ rb) (n2 : b ≠ rs) (n3 : bs ≠ rb) (n4 : bs ≠ rs) :
    Calls Try.prog 14 #[.pointer (some ⟨b, 0, none⟩), .pointer (some ⟨rb, 0, none⟩), .agg #[.int .i64 1, .int .i64 i, .string x]] w (StPost b bs rb rs D w) := by
  have T0 : Tch [b, bs, rb, rs] w (w.alloc (.cells #[.int .i64 1, .int .i64 i, .string x] 30)) := (Tch.refl _ _).alloc _
  have k := blk_new w (.cells #[.int .i64 1, .int .i64 i, .string x] 30)
  have hd0 := hd.keep ((Tch.refl [] w).alloc (.cells #[.int .i64 1, .int .i64 i, .string x] 30)) (by simp) (by simp)
  have hf0 := hf.keep ((Tch.refl [] w).alloc (.cells #[.int .i64 1, .int .i64 i, .string x] 30)) (by simp) (by simp)
  have lb := hd.lt
  have lr := hf.lt
  have HW : Hid (∀ wx, IsDs wx b bs D → _) := fun wx h => dwrite b bs D i x wx h hn
  have HF : Hid (∀ wx, IsRf wx rb rs D → _) := fun wx h => fwrite rb rs D i x wx h hn
  have HE := Lib.hid (wdone D i x)
  generalize D.wstate i x = E at HW HF HE
  generalize D.wcode i x = c at HW HF
  clear hd hf
  go_enter Try.func14, Try.ntmps14
  go_wp2_with fail
  have k1 := blk_cell k 1
  have k2 := blk_cell k 2
  generalize w.heap.size = p at k k1 k2 lb lr ⊢
  generalize w.alloc (.cells #[.int .i64 1, .int .i64 i, .string x] 30) = W1 at T0 k k1 k2 hd0 hf0 ⊢
  simp at k1 k2
  have hdd := hd0.keep ((Tch.refl [] W1).drew) (by simp) (by simp)
  have hfd := hf0.keep ((Tch.refl [] W1).drew) (by simp) (by simp)
  have kd : p < W1.drew.heap.size := lt_of_block k
  clear hd0 hf0
  go_region_held3 (fun w' => w'.cell? ⟨p, 1, none⟩ = some (.int .i64 i) ∧ w'.cell? ⟨p, 2, none⟩ = some (.string x)) (first | exact ⟨k1, k2⟩ | exact ⟨q3, q4⟩ | exact ⟨q1, q2⟩)
    (first | (go_at_call 16; refine (HW.out _ hdd).mono ?_; rintro e w2 ⟨rfl, hd2, t2⟩; have q1 := (t2.cell (o := 1) kd (by simp; omega)).trans k1; have q2 := (t2.cell (o := 2) kd (by simp; omega)).trans k2; have hf2 := hfd.keep t2 (by simp; omega) (by simp; omega)) | (go_at_call 23; refine (HF.out _ hf2).mono ?_; rintro e w3 ⟨rfl, hf3, t3⟩; have q3 := (t3.cell (o := 1) (Nat.lt_of_lt_of_le kd t2.size) (by simp; omega)).trans q1; have q4 := (t3.cell (o := 2) (Nat.lt_of_lt_of_le kd t2.size) (by simp; omega)).trans q2))
  have T3 := (T0.drew.trans (t2.mono (by simp))).trans (t3.mono (by simp))
  have hd3 := hd2.keep t3 (by simp; omega) (by simp; omega)
  go_wp2
  go_ret
  exact ⟨rfl, E, hd3, hf3, HE.out.1, T3⟩

set_option maxRecDepth 100000 in
set_option maxHeartbeats 1000000 in
theorem step_read (b bs rb rs : Nat) (D : Ds) (i : Int) (x : ByteArray) (w : World) (hd : IsDs w b bs D) (hf : IsRf w rb rs D) (n1 : b ≠ rb) (n2 : b ≠ rs) (n3 : bs ≠ rb) (n4 : bs ≠ rs) :
    Calls Try.prog 14 #[.pointer (some ⟨b, 0, none⟩), .pointer (some ⟨rb, 0, none⟩), .agg #[.int .i64 2, .int .i64 i, .string x]] w (StPost b bs rb rs D w) := by
  have T0 : Tch [b, bs, rb, rs] w (w.alloc (.cells #[.int .i64 2, .int .i64 i, .string x] 30)) := (Tch.refl _ _).alloc _
  have k := blk_new w (.cells #[.int .i64 2, .int .i64 i, .string x] 30)
  have hd0 := hd.keep ((Tch.refl [] w).alloc (.cells #[.int .i64 2, .int .i64 i, .string x] 30)) (by simp) (by simp)
  have hf0 := hf.keep ((Tch.refl [] w).alloc (.cells #[.int .i64 2, .int .i64 i, .string x] 30)) (by simp) (by simp)
  have lb := hd.lt
  have lr := hf.lt
  have HW := Lib.hid (dread b bs D i _ hd0)
  have HF : Hid (∀ wx, IsRf wx rb rs D → _) := fun wx h => fread rb rs D i wx h
  generalize D.rtext i = t at HW HF
  generalize D.rcode i = c at HW HF
  clear hd hf hd0
  go_enter Try.func14, Try.ntmps14
  go_wp2_with fail
  refine HW.out.mono ?_
  rintro e w2 ⟨rfl, hd2, t2⟩
  have k2 := t2.keep k (by simp; omega)
  have q1 := blk_cell k2 1
  simp at q1
  have hf2 := hf0.keep t2 (by simp; omega) (by simp; omega)
  have HF2 := Lib.hid (HF.out w2 hf2)
  have T2 := T0.trans (t2.mono (by simp))
  clear k k2 hf0 hf2 T0 HW HF
  go_wp2_with (first | (go_at_call 24; refine HF2.out.mono ?_; rintro e w3 ⟨rfl, hf3, t3⟩))
  go_ret
  exact ⟨rfl, D, hd2.keep t3 (by simp) (by simp), hf3, by omega, T2.trans (t3.mono (by simp))⟩

set_option maxRecDepth 100000 in
set_option maxHeartbeats 1000000 in
theorem step_cut (b bs rb rs : Nat) (D : Ds) (i : Int) (x : ByteArray) (w : World) (hd : IsDs w b bs D) (hf : IsRf w rb rs D) (h0 : -9223372036854775808 ≤ i) (h1 : i ≤ 9223372036854775807) (n1 : b ≠ rb) (n2 : b ≠ rs) (n3 : bs ≠ rb) (n4 : bs ≠ rs) :
    Calls Try.prog 14 #[.pointer (some ⟨b, 0, none⟩), .pointer (some ⟨rb, 0, none⟩), .agg #[.int .i64 3, .int .i64 i, .string x]] w (StPost b bs rb rs D w) := by
  have T0 : Tch [b, bs, rb, rs] w (w.alloc (.cells #[.int .i64 3, .int .i64 i, .string x] 30)) := (Tch.refl _ _).alloc _
  have k := blk_new w (.cells #[.int .i64 3, .int .i64 i, .string x] 30)
  have hd0 := hd.keep ((Tch.refl [] w).alloc (.cells #[.int .i64 3, .int .i64 i, .string x] 30)) (by simp) (by simp)
  have hf0 := hf.keep ((Tch.refl [] w).alloc (.cells #[.int .i64 3, .int .i64 i, .string x] 30)) (by simp) (by simp)
  have lb := hd.lt
  have lr := hf.lt
  have HW := Lib.hid (dcut b bs D i _ hd0 h0 h1)
  have HF : Hid (∀ wx, IsRf wx rb rs D → _) := fun wx h => fcut rb rs D i wx h h1
  clear hd hf hd0
  go_enter Try.func14, Try.ntmps14
  go_wp2_with fail
  refine HW.out.mono ?_
  rintro e w2 ⟨rfl, hd2, t2⟩
  have k2 := t2.keep k (by simp; omega)
  have q1 := blk_cell k2 1
  simp at q1
  have hf2 := hf0.keep t2 (by simp; omega) (by simp; omega)
  have HF2 := Lib.hid (HF.out w2 hf2)
  have T2 := T0.trans (t2.mono (by simp))
  clear k k2 hf0 hf2 T0 HW HF
  go_wp2_with (first | (go_at_call 25; refine HF2.out.mono ?_; rintro e w3 ⟨rfl, hf3, t3⟩))
  go_ret
  exact ⟨rfl, _, hd2.keep t3 (by simp; omega) (by simp; omega), hf3, by simp; omega, T2.trans (t3.mono (by simp))⟩

set_option maxRecDepth 100000 in
set_option maxHeartbeats 1000000 in
theorem step_start (b bs rb rs : Nat) (D : Ds) (i : Int) (x : ByteArray) (w : World) (hd : IsDs w b bs D) (hf : IsRf w rb rs D) (n1 : b ≠ rb) (n2 : b ≠ rs) (n3 : bs ≠ rb) (n4 : bs ≠ rs) :
    Calls Try.prog 14 #[.pointer (some ⟨b, 0, none⟩), .pointer (some ⟨rb, 0, none⟩), .agg #[.int .i64 4, .int .i64 i, .string x]] w (StPost b bs rb rs D w) := by
  have T0 : Tch [b, bs, rb, rs] w (w.alloc (.cells #[.int .i64 4, .int .i64 i, .string x] 30)) := (Tch.refl _ _).alloc _
  have hd0 := hd.keep ((Tch.refl [] w).alloc (.cells #[.int .i64 4, .int .i64 i, .string x] 30)) (by simp) (by simp)
  have hf0 := hf.keep ((Tch.refl [] w).alloc (.cells #[.int .i64 4, .int .i64 i, .string x] 30)) (by simp) (by simp)
  have lb := hd.lt
  have lr := hf.lt
  have HW := Lib.hid (dstart b bs D _ hd0)
  have HF : Hid (∀ wx, IsRf wx rb rs D → _) := fun wx h => fstart rb rs D wx h
  clear hd hf hd0
  go_enter Try.func14, Try.ntmps14
  go_wp2_with fail
  refine HW.out.mono ?_
  rintro e w2 ⟨rfl, hd2, t2⟩
  have hf2 := hf0.keep t2 (by simp; omega) (by simp; omega)
  have HF2 := Lib.hid (HF.out w2 hf2)
  have T2 := T0.trans (t2.mono (by simp))
  clear hf0 hf2 T0 HW HF
  go_wp2_with (first | (go_at_call 26; refine HF2.out.mono ?_; rintro e w3 ⟨rfl, hf3, t3⟩))
  go_ret
  exact ⟨rfl, _, hd2.keep t3 (by simp; omega) (by simp; omega), hf3, by simp; omega, T2.trans (t3.mono (by simp))⟩

set_option maxRecDepth 100000 in
set_option maxHeartbeats 1000000 in
theorem step_none (b bs rb rs : Nat) (D : Ds) (q i : Int) (x : ByteArray) (w : World) (hd : IsDs w b bs D) (hf : IsRf w rb rs D) (q1 : q ≠ 1) (q2 : q ≠ 2) (q3 : q ≠ 3) (q4 : q ≠ 4) :
    Calls Try.prog 14 #[.pointer (some ⟨b, 0, none⟩), .pointer (some ⟨rb, 0, none⟩), .agg #[.int .i64 q, .int .i64 i, .string x]] w (StPost b bs rb rs D w) := by
  have T0 : Tch [b, bs, rb, rs] w (w.alloc (.cells #[.int .i64 q, .int .i64 i, .string x] 30)) := (Tch.refl _ _).alloc _
  have hd0 := hd.keep ((Tch.refl [] w).alloc (.cells #[.int .i64 q, .int .i64 i, .string x] 30)) (by simp) (by simp)
  have hf0 := hf.keep ((Tch.refl [] w).alloc (.cells #[.int .i64 q, .int .i64 i, .string x] 30)) (by simp) (by simp)
  have e1 : (q == 1) = false := by simpa using q1
  have e2 : (q == 2) = false := by simpa using q2
  have e3 : (q == 3) = false := by simpa using q3
  have e4 : (q == 4) = false := by simpa using q4
  clear q1 q2 q3 q4
  go_enter Try.func14, Try.ntmps14
  go_wp2_with fail
  go_ret
  exact ⟨rfl, D, hd0, hf0, by omega, T0⟩

theorem step_any (b bs rb rs : Nat) (D : Ds) (q i : Int) (x : ByteArray) (w : World) (hd : IsDs w b bs D) (hf : IsRf w rb rs D) (h0 : -9223372036854775808 ≤ i) (h1 : i ≤ 9223372036854775807) (hn : D.done < 9223372036854775807) (n1 : b ≠ rb) (n2 : b ≠ rs) (n3 : bs ≠ rb) (n4 : bs ≠ rs) :
    Calls Try.prog 14 #[.pointer (some ⟨b, 0, none⟩), .pointer (some ⟨rb, 0, none⟩), .agg #[.int .i64 q, .int .i64 i, .string x]] w (StPost b bs rb rs D w) := by
  by_cases q1 : q = 1
  · subst q1; exact step_write b bs rb rs D i x w hd hf hn n1 n2 n3 n4
  by_cases q2 : q = 2
  · subst q2; exact step_read b bs rb rs D i x w hd hf n1 n2 n3 n4
  by_cases q3 : q = 3
  · subst q3; exact step_cut b bs rb rs D i x w hd hf h0 h1 n1 n2 n3 n4
  by_cases q4 : q = 4
  · subst q4; exact step_start b bs rb rs D i x w hd hf n1 n2 n3 n4
  exact step_none b bs rb rs D q i x w hd hf q1 q2 q3 q4
end Go.Proofs.Ythchadnbeinojaa
