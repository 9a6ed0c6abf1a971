/-
  The law JournalRooms, walked: for every number of sectors and every room it answers true and turns nothing that was there.
-/
import Derived.Test.YtclnhgfionfbbaaDoorWk
namespace Go.Proofs.YtclnhgfionfbbaaDoor
open Go.RowKit
set_option linter.unusedVariables false

theorem ckc_one (n : Nat) (i : Int) (x : ByteArray) (h0 : 0 ≤ i) (h1 : i < n) (hx : x.size ≤ 1024) : ckc n [(i, x)] [] = 0 := by
  simp only [ckc]
  rw [if_neg (by omega), if_neg (by omega), if_neg (by simp)]
theorem many_le (n : Int) : many n ≤ 16384 := by unfold many; omega
theorem jopen_arg (D : Ds) (room : Int) (h : room < 1 ∨ 500 < room) : jopen room D = (2, D) := by unfold jopen; rw [if_pos h]
theorem jopen_none (D : Ds) (room : Int) (h : ¬ (room < 1 ∨ 500 < room)) (hon : D.on = true) (h0 : D.texts.length = 0) : jopen room D = (10, D) := by
  have hr : D.rcode 0 = 10 := by unfold Ds.rcode; rw [if_neg (by simp [hon]), if_pos (by omega)]
  unfold jopen; rw [if_neg h, if_pos (by rw [hr]; omega), hr]
theorem open_no (b bs : Nat) (room c : Int) (D : Ds) (w : World) (hd : IsDs w b bs D) (hn : D.done + 502 < 9223372036854775807) (hjo : jopen room D = (c, D)) (hc : c ≠ 0) :
    Calls Tryd.prog 11 #[.pointer (some ⟨b, 0, none⟩), .int .i64 room] w fun e w' => e = .returned (.tuple #[.pointer none, .int .i64 c]) ∧ (IsDs w' b bs D ∧ Tch [b, bs] w w') := by
  refine (open_any b bs room D w hd hn).mono ?_
  rintro e w' ⟨t, hd', hx⟩
  rw [hjo] at hd' hx
  rcases hx with ⟨h0, _⟩ | ⟨_, he⟩
  · exact absurd h0 hc
  · exact ⟨he, hd', t⟩

set_option maxRecDepth 100000 in
set_option maxHeartbeats 1000000 in
theorem rooms_walk (n room : Int) (w : World) (hn : (Lit.int .i64 n).wf = true) (hr : (Lit.int .i64 room).wf = true) :
    Calls Tryd.prog 8 #[.int .i64 n, .int .i64 room] w fun e w' => e = .returned (.bool true) ∧ Tch [] w w' := by
  have hn2 := i64_of_wf hn
  have hr2 := i64_of_wf hr
  have hm := many_le n
  have HW := Lib.hid (fun w1 => jwakes_any w1)
  have HN := Lib.hid (dnew n w (by omega) (by omega))
  generalize many n = m at HN hm
  have hml : (freshD m).texts.length = m := by simp [freshD]
  clear hn hr
  by_cases ha : room < 1 ∨ 500 < room
  · have HO : Hid (∀ w1, IsDs w1 (w.heap.size + 1) w.heap.size (freshD m) → _) := fun w1 h1 => open_no (w.heap.size + 1) w.heap.size room 2 (freshD m) w1 h1 (by simp [freshD]) (jopen_arg _ _ ha) (by omega)
    have h01 : Hid (room < 1 ∨ 500 < room) := ha
    by_cases h1 : room < 1
    · clear ha
      go_enter Tryd.func8, Tryd.ntmps8
      go_wp2_with fail
      refine HN.out.mono ?_
      rintro e w1 ⟨rfl, hd1, t1⟩
      go_wp2_with fail
      refine (HO.out _ hd1).mono ?_
      rintro e w2 ⟨rfl, hd2, t2⟩
      go_wp2_with fail
      refine (HW.out w2).mono ?_
      rintro e w3 ⟨rfl, t3⟩
      go_wp2_with fail
      go_ret
      refine ⟨?_, (t1.transNew t2 (by simp)).trans t3⟩
      rfl
    · have h5 : 500 < room := by omega
      have h1' : decide (room < 1) = false := by simpa using h1
      clear ha h1
      go_enter Tryd.func8, Tryd.ntmps8
      go_wp2_with fail
      refine HN.out.mono ?_
      rintro e w1 ⟨rfl, hd1, t1⟩
      go_wp2_with fail
      refine (HO.out _ hd1).mono ?_
      rintro e w2 ⟨rfl, hd2, t2⟩
      go_wp2_with fail
      refine (HW.out w2).mono ?_
      rintro e w3 ⟨rfl, t3⟩
      go_wp2_with fail
      go_ret
      refine ⟨?_, (t1.transNew t2 (by simp)).trans t3⟩
      rfl
  have e1 : decide (room < 1) = false := by simp; omega
  have e5 : decide (500 < room) = false := by simp; omega
  obtain ⟨r, rfl⟩ := Int.eq_ofNat_of_zero_le (by omega : 0 ≤ room)
  by_cases hm0 : m = 0
  · subst hm0
    have HO : Hid (∀ w1, IsDs w1 (w.heap.size + 1) w.heap.size (freshD 0) → _) := fun w1 h1 => open_no (w.heap.size + 1) w.heap.size r 10 (freshD 0) w1 h1 (by simp [freshD]) (jopen_none _ _ ha rfl (by simp [freshD])) (by omega)
    have HL : Hid (∀ w1, IsDs w1 (w.heap.size + 1) w.heap.size (freshD 0) → _) := fun w1 h1 => dlen (w.heap.size + 1) w.heap.size (freshD 0) w1 h1
    rw [hml] at HL
    clear ha
    go_enter Tryd.func8, Tryd.ntmps8
    go_wp2_with fail
    refine HN.out.mono ?_
    rintro e w1 ⟨rfl, hd1, t1⟩
    go_wp2_with fail
    refine (HO.out _ hd1).mono ?_
    rintro e w2 ⟨rfl, hd2, t2⟩
    go_wp2_with fail
    refine (HW.out w2).mono ?_
    rintro e w3 ⟨rfl, t3⟩
    have hd3 := hd2.keep t3 (by simp) (by simp)
    go_wp2_with (first | (go_at_call 21; refine (HL.out _ hd3).mono ?_; rintro e w4 ⟨rfl, rfl⟩))
    go_ret
    refine ⟨?_, (t1.transNew t2 (by simp)).trans t3⟩
    rfl
  have HO : Hid (∀ w1, IsDs w1 (w.heap.size + 1) w.heap.size (freshD m) → _) := fun w1 h1 => open_same (w.heap.size + 1) w.heap.size r (freshD m) w1 h1 (by simp [freshD]) (jopen_clean rfl (by rw [hml]; omega) (by rw [hml]; omega) (fresh_clean m) (by omega) (by omega))
  have HL : Hid (∀ w1, IsDs w1 (w.heap.size + 1) w.heap.size (freshD m) → _) := fun w1 h1 => dlen (w.heap.size + 1) w.heap.size (freshD m) w1 h1
  rw [hml] at HL
  have hjl : max 0 ((m : Int) - (r : Int) - 1) = ((jlen (freshD m) r : Nat) : Int) := by unfold jlen; rw [hml]; omega
  have hjl2 : jlen (freshD m) r = m - (r + 1) := by unfold jlen; rw [hml]
  have em : ((m : Int) == 0) = false := by simp; omega
  have HM := Lib.hid hm0
  have HA := Lib.hid ha
  have hr5 : r ≤ 500 := by omega
  have hr1 : 1 ≤ r := by omega
  clear ha hm0
  go_enter Tryd.func8, Tryd.ntmps8
  go_wp2_with fail
  refine HN.out.mono ?_
  rintro e w1 ⟨rfl, hd1, t1⟩
  go_wp2_with fail
  refine (HO.out _ hd1).mono ?_
  rintro e w2 ⟨jb, rfl, hjb, hJ2, hd2, t2⟩
  have hsz1 := t1.size
  go_wp2_with fail
  refine (HW.out w2).mono ?_
  rintro e w3 ⟨rfl, t3⟩
  have hd3 := hd2.keep t3 (by simp) (by simp)
  have hJ3 := hJ2.keep t3 (by simp)
  have T3 := (t1.transNew t2 (by simp)).trans t3
  have hlt := hd1.lt
  have hlt3 := hd3.lt
  clear HN HO HW t1 t2 t3 hd2 hJ2 hd1
  generalize hB : w.heap.size = B at hd3 hJ3 HL hlt hlt3 hjb hsz1 T3 ⊢
  have HB := Lib.hid hB
  clear hB
  have HJL : Hid (∀ w1, IsJn w1 jb (B + 1) r → IsDs w1 (B + 1) B (freshD m) → _) := fun w1 h1 h2 => jlen_any jb (B + 1) B r (freshD m) w1 h1 h2 hr5
  have HL3 := Lib.hid (HL.out w3 hd3)
  have HJ3 := Lib.hid (HJL.out w3 hJ3 hd3)
  have HR1 := Lib.hid (read_at' jb (B + 1) B r (freshD m) (jlen (freshD m) r : Nat) w3 hJ3 hd3 hr5 (Or.inr (by omega)))
  have HR2 : Hid (∀ w1, IsJn w1 jb (B + 1) r → IsDs w1 (B + 1) B (freshD m) → _) := fun w1 h1 h2 => read_at' jb (B + 1) B r (freshD m) (-1) w1 h1 h2 hr5 (Or.inl (by omega))
  have hq : jlen (freshD m) r ≤ 16384 := by rw [hjl2]; omega
  by_cases hq0 : jlen (freshD m) r = 0
  · rw [hq0] at HJ3 HJL HR1 hjl
    rw [show ((0 : Nat) : Int) = 0 from rfl] at HJ3 HJL HR1 hjl
    clear hq0 hq hjl2
    go_wp2_with (first | (go_at_call 21; refine HL3.out.mono ?_; rintro e w4 ⟨rfl, rfl⟩) | (go_at_call 12; refine HJ3.out.mono ?_; rintro e w4 ⟨rfl, rfl⟩) | (go_at_call 18; fail))
    refine HR1.out.mono ?_
    rintro e w4 ⟨rfl, hd4, t4⟩
    have hJ4 := hJ3.keep t4 (by simp; omega)
    have T4 := T3.transNew t4 (by have := HB.out; simp; omega)
    go_wp2_with fail
    refine (HR2.out _ hJ4 hd4).mono ?_
    rintro e w5 ⟨rfl, hd5, t5⟩
    have hJ5 := hJ4.keep t5 (by simp; omega)
    have T5 := T4.transNew t5 (by have := HB.out; simp; omega)
    have HJ5 := Lib.hid (HJL.out w5 hJ5 hd5)
    go_wp2_with (first | (go_at_call 12; refine HJ5.out.mono ?_; rintro e w6 ⟨rfl, rfl⟩))
    go_ret
    refine ⟨?_, T5⟩
    rfl
  · have hs : Hid (Seen (freshD m) r [] (List.replicate (m - (r + 1)) ⟨#[]⟩)) := fresh_seen m r (by omega) hr5 hm
    have hq1 : 0 < jlen (freshD m) r := by omega
    have hck : Hid (ckc (List.replicate (m - (r + 1)) (⟨#[]⟩ : ByteArray)).length [((jlen (freshD m) r : Nat) - 1, ⟨#[120]⟩)] [] = 0) := by
      show _ = _
      rw [List.length_replicate, ← hjl2]
      exact ckc_one _ _ _ (by omega) (by omega) (show 1 ≤ 1024 by omega)
    have HJL2 := Lib.hid hjl2
    clear hq0 hjl2
    generalize hQ : jlen (freshD m) r = q at HJ3 HJL HR1 hjl hq hq1 hck
    have eq0 : ((q : Int) == 0) = false := by simp; omega
    have HQ := Lib.hid hQ
    clear hQ
    go_wp2_with (first | (go_at_call 21; refine HL3.out.mono ?_; rintro e w4 ⟨rfl, rfl⟩) | (go_at_call 12; refine HJ3.out.mono ?_; rintro e w4 ⟨rfl, rfl⟩) | (go_at_call 18; fail))
    refine HR1.out.mono ?_
    rintro e w4 ⟨rfl, hd4, t4⟩
    have hJ4 := hJ3.keep t4 (by simp; omega)
    have T4 := T3.transNew t4 (by have := HB.out; simp; omega)
    go_wp2_with fail
    refine (HR2.out _ hJ4 hd4).mono ?_
    rintro e w5 ⟨rfl, hd5, t5⟩
    have hJ5 := hJ4.keep t5 (by simp; omega)
    have T5 := T4.transNew t5 (by have := HB.out; simp; omega)
    have hlt5 := hd5.lt
    have HJ5 := Lib.hid (HJL.out w5 hJ5 hd5)
    have hC := blk_new w5 (.cells #[.int .i64 ((q : Int) - 1), .string ⟨#[120]⟩] 39)
    have hch : IsChs (w5.alloc (.cells #[.int .i64 ((q : Int) - 1), .string ⟨#[120]⟩] 39)) (some ⟨w5.heap.size, 0, none⟩) 1 w5.heap.size 0 [((q : Int) - 1, ⟨#[120]⟩)] := by
      refine ⟨rfl, Or.inr ⟨rfl, by simp⟩, fun k c hk => ?_, fun c hc => ?_⟩
      · match k, hk with
        | 0, hk => simp at hk; subst hk; exact ⟨blk_cell hC 0, blk_cell hC 1⟩
      · simp only [List.mem_cons, List.mem_nil_iff, or_false] at hc
        subst hc
        refine ⟨by simp; omega, by simp; omega, show 1 ≤ 9223372036854775807 by omega⟩
    have hjlt := hJ5.lt
    have HCM := Lib.hid (commit_calm jb (B + 1) B r (freshD m) (some ⟨w5.heap.size, 0, none⟩) 1 1 w5.heap.size 0 _ _ _ (hJ5.keep ((Tch.refl [] w5).alloc (.cells #[.int .i64 ((q : Int) - 1), .string ⟨#[120]⟩] 39)) (by simp)) (hd5.keep ((Tch.refl [] w5).alloc _) (by simp) (by simp)) (by omega) hr5 hch (fun _ => by omega) (by omega) (by simp [freshD]) rfl rfl hs.out hr1 (by simpa using hr1) hck.out)
    have T6 := T5.alloc (.cells #[.int .i64 ((q : Int) - 1), .string ⟨#[120]⟩] 39)
    clear hch hC
    go_wp2_with (first | (go_at_call 12; refine HJ5.out.mono ?_; rintro e w6 ⟨rfl, rfl⟩) | (go_at_call 14; refine HCM.out.mono ?_; rintro e w7 ⟨rfl, E, _, _, _, _, _, t7⟩))
    go_ret
    refine ⟨?_, T6.transNew t7 (by have := HB.out; simp; omega)⟩
    rfl
end Go.Proofs.YtclnhgfionfbbaaDoor
