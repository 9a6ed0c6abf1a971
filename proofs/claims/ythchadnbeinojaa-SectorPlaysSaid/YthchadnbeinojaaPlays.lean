/-
  The law SectorPlays, walked: for every number of sectors and every script it answers true and turns nothing that was there.
-/
import Derived.Test.YthchadnbeinojaaWakes
import Derived.Test.YthchadnbeinojaaStep
import Derived.Test.YthchadnbeinojaaOps
namespace Go.Proofs.Ythchadnbeinojaa
open Go.RowKit
set_option linter.unusedVariables false

def PlRel (w : World) (b bs rb rs len : Nat) (v23 : Value) (wr : World) : Prop :=
  ∃ (k : Nat) (D : Ds), k ≤ len ∧ v23 = .int .i64 k ∧ IsDs wr b bs D ∧ IsRf wr rb rs D ∧ Tch [] w wr ∧ D.done ≤ k

set_option maxRecDepth 100000 in
set_option maxHeartbeats 1000000 in
theorem plays_walk (n : Int) (a : Option Addr) (len cap : Nat) (os : List Op3) (w : World) (hn : (Lit.int .i64 n).wf = true) (hw : IsOps w a len cap os) :
    Calls Try.prog 3 #[.int .i64 n, .slice a len cap] w fun e w' => e = .returned (.bool true) ∧ Tch [] w w' := by
  have hlm : len ≤ 9223372036854775807 := by
    rcases hw with h | ⟨_, _, _, _, _, h2, _⟩
    · omega
    · unfold maxLen at h2; omega
  have hn2 := i64_of_wf hn
  have HW := Lib.hid (fun w1 => wakes_any w1)
  have HN := Lib.hid (dnew n w (by omega) (by omega))
  have HM := Lib.hid (fun w1 => fnew n w1 (by omega) (by omega))
  clear hn hn2
  go_enter Try.func3, Try.ntmps3
  go_wp2_with fail
  refine HN.out.mono ?_
  rintro e w1 ⟨rfl, hd1, t1⟩
  go_wp2_with fail
  refine (HM.out w1).mono ?_
  rintro e w2 ⟨rfl, hf2, t2⟩
  go_wp2_with fail
  have hb1 : w.heap.size ≤ w1.heap.size := t1.size
  have lb := hd1.lt
  have lr := hf2.lt
  have hd2 := hd1.keep t2 (by simp) (by simp)
  have T2 := t1.trans t2
  clear HN HM t1 t2 hd1
  generalize hN : w.heap.size = N at hd2 lb hb1 ⊢
  generalize hM : w1.heap.size = M at hf2 lb lr hb1 ⊢
  refine (HW.out w2).mono ?_
  rintro e w3 ⟨rfl, t3⟩
  have hd3 := hd2.keep t3 (by simp) (by simp)
  have hf3 := hf2.keep t3 (by simp) (by simp)
  have T3 := T2.trans t3
  have hnM : N + 1 ≠ M + 1 ∧ N + 1 ≠ M ∧ N ≠ M + 1 ∧ N ≠ M := by omega
  have HNM := Lib.hid (And.intro hnM (And.intro hN hM))
  clear T2 t3 hd2 hf2 HW hnM hN hM
  have HT := Lib.hid (told_any (N + 1) N (M + 1) M _ w3 hd3 hf3 (by simp [freshD]))
  go_wp2_with (first | (go_at_call 13; refine HT.out.mono ?_; rintro e w4 ⟨rfl, t4⟩))
  have hd4 := hd3.keep t4 (by simp) (by simp)
  have hf4 := hf3.keep t4 (by simp) (by simp)
  have T4 := T3.trans t4
  clear HT hd3 hf3 T3 t4
  go_loopw [23] (fun v23 wr => PlRel w (N + 1) N (M + 1) M len v23 wr) (fun v23 _ => len - (intOf v23).toNat)
  case atStart => exact ⟨0, _, by omega, rfl, hd4, hf4, T4, by simp [freshD]⟩
  case round =>
    obtain ⟨k, D, hk, rfl, hd, hf, T, hdn⟩ := hrel
    by_cases hkl : k < len
    · rcases hw with h | ⟨ab, ao, rfl, hab, hlo, hlm2, hc⟩
      · omega
      obtain ⟨x0, x1, x2, b0, b1⟩ := hc k os[k] (List.getElem?_eq_getElem (by omega))
      rw [← T.cell hab (by simp)] at x0 x1 x2
      generalize os[k].q = q at x0
      generalize os[k].i = i at x1 b0 b1
      generalize os[k].x = x at x2
      clear hc
      have TA := T.alloc (.cells #[.int .i64 q, .int .i64 i, .string x] 30)
      have HS := Lib.hid (step_any (N + 1) N (M + 1) M D q i x _ (hd.keep ((Tch.refl [] wr).alloc (.cells #[.int .i64 q, .int .i64 i, .string x] 30)) (by simp) (by simp)) (hf.keep ((Tch.refl [] wr).alloc (.cells #[.int .i64 q, .int .i64 i, .string x] 30)) (by simp) (by simp)) b0 b1 (by omega) HNM.out.1.1 HNM.out.1.2.1 HNM.out.1.2.2.1 HNM.out.1.2.2.2)
      clear hd hf T
      go_wp2_with fail
      refine HS.out.mono ?_
      rintro e w5 ⟨rfl, E, hd5, hf5, hdn5, t5⟩
      have HT := Lib.hid (told_any (N + 1) N (M + 1) M E w5 hd5 hf5 (by omega))
      have T5 := TA.transNew t5 (by have := HNM.out.2; simp; omega)
      go_wp2_with (first | (go_at_call 13; refine HT.out.mono ?_; rintro e w6 ⟨rfl, t6⟩))
      go_roundw
      case rel => exact ⟨k + 1, E, by omega, by go_num, hd5.keep t6 (by simp) (by simp), hf5.keep t6 (by simp) (by simp), T5.trans t6, by omega⟩
      case measure => simp [intOf]; omega
    · go_wp2
      go_ret
      exact ⟨rfl, T⟩
end Go.Proofs.Ythchadnbeinojaa
