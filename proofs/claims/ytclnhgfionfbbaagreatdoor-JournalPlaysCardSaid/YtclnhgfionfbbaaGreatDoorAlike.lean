/-
  The law's 'alike': both disks hold the same bytes. Condition: both stand for one and the same; the count of writes is below the greatest int64.
-/
import Derived.Test.YtclnhgfionfbbaaGreatDoorSw3
namespace Go.Proofs.YtclnhgfionfbbaaGreatDoor
open Go.RowKit
set_option linter.unusedVariables false

/-- What holds at the head of each round. -/
def AkRel (w : World) (db ds m : Nat) (D : Ds) (v45 : Value) (wr : World) : Prop :=
  ∃ k : Nat, k ≤ m ∧ v45 = .int .i64 k ∧ IsDs wr db ds D ∧ Tch [db] w wr

set_option maxRecDepth 100000 in
set_option maxHeartbeats 1000000 in
theorem jalike_any (wb db ds rb rs : Nat) (D : Ds) (jp kp : Option Addr) (w : World) (ha : Apart wb db ds rb rs) (h : IsWd w wb db jp rb kp) (hd : IsDs w db ds D) (hf : IsRf w rb rs D) (hn : D.done ≤ 9223372036854775807) :
    Calls Tryz.prog 9 #[.pointer (some ⟨wb, 0, none⟩)] w fun e w' => e = .returned (.bool true) ∧ (IsDs w' db ds D ∧ Tch [db] w w') := by
  obtain ⟨a1, a2, a3, a4, a5, a6, a7, a8⟩ := ha
  have HF : Hid (∀ wr, Tch [db] w wr → IsRf wr rb rs D) := fun wr t => hf.keep t (by simp; omega) (by simp; omega)
  have HWD : Hid (∀ wr, Tch [db] w wr → IsWd wr wb db jp rb kp) := fun wr t => h.keep t (by simp; omega)
  obtain ⟨c0, _, c2, _⟩ := h.at_
  obtain ⟨R, hk, hl, hs, h1, h2, h3, h4⟩ := hf
  have r0 := hk.c0
  rw [hl] at r0
  have r1 := hk.c1
  rw [h1] at r1
  have r5 := hk.c5
  rw [h3] at r5
  have HD : Hid (∀ n, IsDs (w.drewN n) db ds D) := fun n => hd.keep (tdrewN (Tch.refl [] w) n) (by simp) (by simp)
  obtain ⟨m, hm, hm2⟩ : ∃ m : Nat, min (D.texts.length : Int) 64 = (m : Int) ∧ m ≤ 64 := ⟨min D.texts.length 64, by omega, by omega⟩
  have HO : Hid (∀ n, Calls Tryz.prog 26 #[.pointer (some ⟨db, 0, none⟩)] (w.drewN n) fun e w' => e = .returned (.bool D.on) ∧ w.drewN n = w') := fun n => don db ds D (w.drewN n) (HD.out n)
  have hlen := hd.len
  clear hk hs h1 h2 h3 h4 hl hd h
  cases hon : D.on
  all_goals
    rw [hon] at r5 HO
    clear hon
    go_enter Tryz.func9, Tryz.ntmps9
    go_wp2_with fail
    go_quiet (first | (go_at_call 15; exact quietSame' (dwrites db ds D _ (HD.out _) hn)) | (go_at_call 26; exact quietSame' (HO.out _)))
    go_wp2_with fail
    go_loopw [45] (fun v45 wr => AkRel w db ds m D v45 wr) (fun v45 _ => m - (intOf v45).toNat)
    case atStart => exact ⟨0, by omega, rfl, HD.out _, tdrewN (Tch.refl _ _) _⟩
    case round =>
      obtain ⟨k, hk, rfl, hd, T⟩ := hrel
      by_cases hkm : k < m
      · obtain ⟨d0, _, d2, _⟩ := (HWD.out wr T).at_
        have HR := Lib.hid (dread db ds D (k : Int) wr hd)
        have HRF : Hid (∀ w1, Tch [db] w w1 → _) := fun w1 t1 => fread rb rs D (k : Int) w1 (HF.out w1 t1)
        generalize D.rtext (k : Int) = s at HR HRF
        generalize D.rcode (k : Int) = c at HR HRF
        go_wp2_with fail
        refine HR.out.mono ?_
        rintro e w2 ⟨rfl, hd2, t2⟩
        have T2 := T.trans t2
        have HR2 := Lib.hid (HRF.out w2 T2)
        obtain ⟨e0, _, e2, _⟩ := (HWD.out w2 T2).at_
        clear d0 d2 HR HRF
        go_wp2_with fail
        refine HR2.out.mono ?_
        rintro e w3 ⟨rfl, _, t3⟩
        have T3 := T2.trans (t3.mono (L' := [db]) (by simp))
        have hd3 := hd2.keep t3 (by simp) (by simp)
        clear e0 e2 HR2
        go_wp2_with fail
        go_roundw
        case rel => exact ⟨k + 1, by omega, by go_num, hd3, T3⟩
        case measure => simp [intOf]; omega
      · have HE := Lib.hid (And.intro hd T)
        go_wp2_with fail
        go_ret
        exact ⟨rfl, HE.out⟩
end Go.Proofs.YtclnhgfionfbbaaGreatDoor
