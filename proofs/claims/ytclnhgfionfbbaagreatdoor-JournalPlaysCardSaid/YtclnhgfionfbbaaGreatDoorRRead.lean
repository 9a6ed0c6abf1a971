/-
  'Read' of the document's journal. Conditions: the journal is one that its Open makes, of room at most 500.
-/
import Derived.Test.YtclnhgfionfbbaaGreatDoorROpn
namespace Go.Proofs.YtclnhgfionfbbaaGreatDoor
open Go.RowKit
set_option linter.unusedVariables false

theorem rjlen_tch (kb b bs room : Nat) (D : Ds) (w : World) (h : IsRj w kb b room) (hd : IsRf w b bs D) (hr : room ≤ 500) :
    Calls Tryz.prog 20 #[.pointer (some ⟨kb, 0, none⟩)] w fun e w' => e = .returned (.int .i64 (jlen D room : Nat)) ∧ Tch [] w w' := by
  refine (rjlen_any kb b bs room D w h hd hr).mono ?_
  rintro e w' ⟨rfl, m, rfl⟩
  exact ⟨rfl, tchDrewN (Tch.refl _ _) m⟩

set_option maxRecDepth 100000 in
set_option maxHeartbeats 600000 in
theorem rjread_any (kb b bs room : Nat) (D : Ds) (i : Int) (w : World) (h : IsRj w kb b room) (hd : IsRf w b bs D) (hr : room ≤ 500) :
    Calls Tryz.prog 19 #[.pointer (some ⟨kb, 0, none⟩), .int .i64 i] w fun e w' => e = .returned (.tuple #[.string (jrtext room D i), .int .i64 (jrcode room D i)]) ∧ (IsRf w' b bs D ∧ Tch [] w w') := by
  have HL := Lib.hid (rjlen_tch kb b bs room D w h hd hr)
  by_cases h0 : i < 0
  · have HF : Hid (jrtext room D i = ⟨#[]⟩ ∧ jrcode room D i = 10 ∧ IsRf w b bs D) := ⟨by unfold jrtext; rw [if_pos (Or.inl h0)], by unfold jrcode; rw [if_pos (Or.inl h0)], hd⟩
    clear hd
    go_enter Tryz.func19, Tryz.ntmps19
    go_wp2_with fail
    go_ret2
    refine ⟨?_, HF.out.2.2, Tch.refl _ _⟩
    rw [HF.out.1, HF.out.2.1]
    rfl
  by_cases h1 : jlen D room ≤ i
  · have HF : Hid (jrtext room D i = ⟨#[]⟩ ∧ jrcode room D i = 10 ∧ ∀ w1, Tch [] w w1 → IsRf w1 b bs D) := ⟨by unfold jrtext; rw [if_pos (Or.inr h1)], by unfold jrcode; rw [if_pos (Or.inr h1)], fun w1 t1 => hd.keep t1 (by simp) (by simp)⟩
    have e1 : decide (i < 0) = false := by simpa using h0
    clear hd h0
    go_enter Tryz.func19, Tryz.ntmps19
    go_wp2_with (first | (go_at_call 20; refine HL.out.mono ?_; rintro e w1 ⟨rfl, t1⟩))
    go_ret2
    refine ⟨?_, HF.out.2.2 _ t1, t1⟩
    rw [HF.out.1, HF.out.2.1]
    rfl
  · have hlen := hd.len
    have hjl : jlen D room ≤ 16384 := by unfold jlen; omega
    have e1 : decide (i < 0) = false := by simpa using h0
    have e2 : decide (((jlen D room : Nat) : Int) ≤ i) = false := by simpa using h1
    have HF : Hid (jrtext room D i = D.rtext (room + 1 + i) ∧ jrcode room D i = D.rcode (room + 1 + i)) := ⟨by unfold jrtext; rw [if_neg (by omega)], by unfold jrcode; rw [if_neg (by omega)]⟩
    have HR : Hid (∀ w1, IsRf w1 b bs D → _) := fun w1 h1 => fread b bs D (room + 1 + i) w1 h1
    rw [← HF.out.1, ← HF.out.2] at HR
    have HD := Lib.hid hd
    have HJ := Lib.hid h
    clear HF hd h
    generalize jrtext room D i = t at HR ⊢
    generalize jrcode room D i = c at HR ⊢
    go_enter Tryz.func19, Tryz.ntmps19
    go_wp2_with (first | (go_at_call 20; refine HL.out.mono ?_; rintro e w1 ⟨rfl, t1⟩))
    have h2 := HJ.out.keep t1 (by simp)
    have c0 := h2.c0
    have c1 := h2.c1
    have hd2 : IsRf w1.drew b bs D := (HD.out.keep t1 (by simp) (by simp)).keep (Tch.refl [] w1).drew (by simp) (by simp)
    have hw1 : IntKind.i64.wrap ((room : Int) + 1) = (room : Int) + 1 := IntWalk.i64_in _ (by omega)
    have hw2 : IntKind.i64.wrap ((room : Int) + 1 + i) = (room : Int) + 1 + i := IntWalk.i64_in _ (by omega)
    go_region_with (first | (go_at_call 28; with_reducible refine (HR.out _ hd2).mono ?_; rintro e w2 ⟨rfl, hd3, t3⟩))
    all_goals
      go_wp2
      go_ret2
      refine ⟨?_, hd3, t1.drew.trans t3⟩
      rfl
end Go.Proofs.YtclnhgfionfbbaaGreatDoor
