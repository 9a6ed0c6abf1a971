/-
  The law JournalPlays, walked: for every number of sectors, every room and every script it answers true and turns nothing that was there. Condition: the script and its lists of changes are within the reach of memory.
-/
import Derived.Test.YtclnhgfionfbbaaGreatDoorAlike
import Derived.Test.YtclnhgfionfbbaaGreatDoorWk
import Derived.Test.YtclnhgfionfbbaaGreatDoorOpsIn3
namespace Go.Proofs.YtclnhgfionfbbaaGreatDoor
open Go.RowKit
set_option linter.unusedVariables false

/-- What holds at the head of each round. -/
def JpRel (w : World) (wb db ds rb rs : Nat) (room : Int) (len : Nat) (v26 : Value) (wr : World) : Prop :=
  ∃ (k : Nat) (D : Ds), k ≤ len ∧ v26 = .int .i64 k ∧ IsDs wr db ds D ∧ IsRf wr rb rs D ∧ Jrs wr wb db ds rb rs room.toNat ∧ Tch [] w wr ∧ D.done ≤ 1004 * ((k : Int) + 1)

set_option maxRecDepth 100000 in
set_option maxHeartbeats 1000000 in
theorem jplays_walk (n room : Int) (a : Option Addr) (len cap : Nat) (os : List Op5) (w : World) (hn : (Lit.int .i64 n).wf = true) (hw : IsOps5 w a len os) (hsz : len * 56 ≤ 140737488351232) :
    Calls Tryz.prog 3 #[.int .i64 n, .int .i64 room, .slice a len cap] w fun e w' => e = .returned (.bool true) ∧ Tch [] w w' := by
  have hn2 := i64_of_wf hn
  have HW := Lib.hid (fun w1 => jwakes_any w1)
  have HN := Lib.hid (dnew n w (by omega) (by omega))
  have HM := Lib.hid (fun w1 => fnew n w1 (by omega) (by omega))
  clear hn hn2
  go_enter Tryz.func3, Tryz.ntmps3
  go_wp2_with fail
  refine HN.out.mono ?_
  rintro e w1 ⟨rfl, hd1, t1⟩
  go_wp2_with fail
  refine (HM.out w1).mono ?_
  rintro e w2 ⟨rfl, hf2, t2⟩
  have hb1 : w.heap.size ≤ w1.heap.size := t1.size
  have lb := hd1.lt
  have lr := hf2.lt
  have hd2 := hd1.keep t2 (by simp) (by simp)
  have T2 := t1.trans t2
  clear HN HM t1 t2 hd1
  generalize hN : w.heap.size = N at hd2 lb hb1 ⊢
  generalize hM : w1.heap.size = M at hf2 lb lr hb1 ⊢
  have t3 : Tch [] w2 (w2.alloc (.cells #[.pointer (some ⟨N + 1, 0, none⟩), .pointer none, .pointer (some ⟨M + 1, 0, none⟩), .pointer none] 31)) := (Tch.refl _ _).alloc _
  have hwd : IsWd (w2.alloc (.cells #[.pointer (some ⟨N + 1, 0, none⟩), .pointer none, .pointer (some ⟨M + 1, 0, none⟩), .pointer none] 31)) w2.heap.size (N + 1) none (M + 1) none := blk_new w2 _
  have hd3 := hd2.keep t3 (by simp) (by simp)
  have hf3 := hf2.keep t3 (by simp) (by simp)
  have T3 := T2.trans t3
  clear hd2 hf2 T2 t3
  go_wp2_with fail
  generalize hX : w2.heap.size = X at hwd lr ⊢
  generalize w2.alloc (.cells #[.pointer (some ⟨N + 1, 0, none⟩), .pointer none, .pointer (some ⟨M + 1, 0, none⟩), .pointer none] 31) = w3 at hwd hd3 hf3 T3 ⊢
  have hap : Apart X (N + 1) N (M + 1) M := by unfold Apart; omega
  have HAP := Lib.hid hap
  have HNEW : Hid (∀ k ∈ [X, N + 1, N, M + 1, M], w.heap.size ≤ k) := fun k hk => by simp at hk; omega
  clear hap lb lr hb1 hN hM hX
  refine (HW.out w3).mono ?_
  rintro e w4 ⟨rfl, t4⟩
  have HO := Lib.hid (jopenw_any X (N + 1) N (M + 1) M room (freshD (many n)) none none w4 HAP.out (hwd.keep t4 (by simp)) (hd3.keep t4 (by simp) (by simp)) (hf3.keep t4 (by simp) (by simp)) (by simp [freshD]))
  have HD : Hid ((jopen room (freshD (many n))).2.done ≤ 1004 * (((0 : Nat) : Int) + 1)) := by
    have := jo_done room (freshD (many n))
    show _ ≤ _
    simp [freshD] at this ⊢
    omega
  have T4 := T3.trans t4
  clear hwd hd3 hf3 T3 t4 HW
  generalize (jopen room (freshD (many n))).2 = D0 at HO HD
  go_wp2_with (first | (go_at_call 7; refine HO.out.mono ?_; rintro e w5 ⟨rfl, hd5, hf5, hj5, t5⟩))
  have T5 := T4.transNew t5 (fun k hk => Or.inr (HNEW.out k hk))
  have HST := Lib.hid (And.intro hd5 (And.intro hf5 (And.intro hj5 T5)))
  clear hd5 hf5 hj5 t5 T4 T5 HO
  go_loopw [26] (fun v26 wr => JpRel w X (N + 1) N (M + 1) M room len v26 wr) (fun v26 _ => len - (intOf v26).toNat)
  case atStart => exact ⟨0, D0, by omega, rfl, HST.out.1, HST.out.2.1, HST.out.2.2.1, HST.out.2.2.2, HD.out⟩
  case round =>
    obtain ⟨k, D, hk, rfl, hd, hf, hj, T, hdn⟩ := hrel
    clear HST HD
    by_cases hkl : k < len
    · obtain ⟨hlo, hrow, hall⟩ := hw
      rcases hrow with h | ⟨ab, ao, rfl, hab, hc⟩
      · omega
      have hko : k < os.length := by omega
      clear hlo
      obtain ⟨x0, x1, x2, x3⟩ := hc k os[k] (List.getElem?_eq_getElem hko)
      obtain ⟨g1, g2, g3, g4, g5, g6⟩ := hall os[k] (List.getElem_mem hko)
      rw [← T.cell hab (by simp)] at x0 x1 x2 x3
      generalize os[k] = op at x0 x1 x2 x3 g1 g2 g3 g4 g5 g6
      obtain ⟨q, i, ⟨sa, sl, sc, ⟨cb, o, cs⟩⟩, x⟩ := op
      simp only at x0 x1 x2 x3 g1 g2 g3 g4 g5 g6
      clear hc hall
      have TO : Tch [] wr (wr.alloc (.cells #[.int .i64 q, .int .i64 i, .slice sa sl sc, .string x] 36)) := (Tch.refl _ _).alloc _
      have TA := T.trans TO
      have HS := Lib.hid (sw_any X (N + 1) N (M + 1) M room D q i sa sl sc cb o cs x _ HAP.out (hj.keep TO HAP.out (by simp)) (hd.keep TO (by simp) (by simp)) (hf.keep TO (by simp) (by simp)) (by omega)
        (g1.keep TA (by simp)) (fun h0 hm => by
          have h1 := HNEW.out cb hm
          rcases g1.at_ with h2 | ⟨_, h2⟩ <;> omega) g2 g3 g4 g5)
      clear hd hf hj T g1 g2 g3 g4 g5 g6 TO
      go_wp2_with fail
      refine HS.out.mono ?_
      rintro e w5 ⟨rfl, E, hd5, hf5, hj5, hdn5, t5⟩
      obtain ⟨jp, kp, hwd5⟩ := hj5.wd
      have HT := Lib.hid (jalike_any X (N + 1) N (M + 1) M E jp kp w5 HAP.out hwd5 hd5 hf5 (by omega))
      have T5 := TA.transNew t5 (fun k hk => Or.inr (HNEW.out k hk))
      have HKEEP : Hid (∀ w6, IsDs w6 (N + 1) N E → Tch [N + 1] w5 w6 → IsDs w6 (N + 1) N E ∧ IsRf w6 (M + 1) M E ∧ Jrs w6 X (N + 1) N (M + 1) M room.toNat ∧ Tch [] w w6) := fun w6 h6 t6 => by
        obtain ⟨_, _, _, _, b1, b2, b3, b4⟩ := HAP.out
        exact ⟨h6, hf5.keep t6 (by simp; omega) (by simp; omega), hj5.keep t6 HAP.out (by simp), T5.transNew t6 (fun k hk => Or.inr (HNEW.out k (by simp at hk ⊢; omega)))⟩
      clear hwd5 hd5 hf5 hj5 t5 T5 HS TA x0 x1 x2 x3
      go_wp2_with (first | (go_at_call 9; refine HT.out.mono ?_; rintro e w6 ⟨rfl, hd6, t6⟩))
      have HE := Lib.hid (HKEEP.out w6 hd6 t6)
      clear hd6 t6 HKEEP
      go_roundw
      case rel => exact ⟨k + 1, E, by omega, by go_num, HE.out.1, HE.out.2.1, HE.out.2.2.1, HE.out.2.2.2, by omega⟩
      case measure => simp [intOf]; omega
    · go_wp2
      go_ret
      exact ⟨rfl, T⟩
end Go.Proofs.YtclnhgfionfbbaaGreatDoor
