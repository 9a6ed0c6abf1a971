/-
  The law SectorHigh, walked: for every list of places it answers true and turns nothing that was there.
-/
import Derived.Test.YthchadnbeinojaaWakes
import Derived.Test.YthchadnbeinojaaRowsIn
namespace Go.Proofs.Ythchadnbeinojaa
open Go.RowKit
set_option linter.unusedVariables false

/-- What holds at the head of each round. -/
def HiRel (w : World) (b bs len : Nat) (v4 v5 v14 : Value) (wr : World) : Prop :=
  ∃ (k : Nat) (S : Dk), k ≤ len ∧ v14 = .int .i64 k ∧ v4 = .int .i64 (S.reach - 1) ∧ v5 = .int .i64 S.done ∧ IsDk wr b bs S ∧ Tch [] w wr ∧ S.secs.length = 50 ∧ 0 ≤ S.done ∧ S.done ≤ k ∧ 0 ≤ S.reach ∧ S.reach ≤ 50 ∧ S.power = 1 ∧ S.left = -1

set_option maxRecDepth 100000 in
set_option maxHeartbeats 1000000 in
theorem high_walk (a : Option Addr) (len cap : Nat) (zs : List Int) (w : World) (hw : IsRow .i64 w a len cap zs) :
    Calls Try.prog 6 #[.slice a len cap] w fun e w' => e = .returned (.bool true) ∧ Tch [] w w' := by
  have hlm : len ≤ 9223372036854775807 := by
    rcases hw with ⟨_, rfl, _, _⟩ | ⟨_, _, h1, h2, _⟩
    · omega
    · unfold maxLen at h2; omega
  have HW := Lib.hid (wakes_any w)
  have HN := Lib.hid (fun w1 => new_any 50 w1 (by omega) (by omega))
  rw [show many 50 = 50 from rfl] at HN
  go_enter Try.func6, Try.ntmps6
  go_wp2_with fail
  refine HW.out.mono ?_
  rintro e w1 ⟨rfl, t1⟩
  go_wp2_with fail
  refine (HN.out w1).mono ?_
  rintro e w2 ⟨rfl, hd2, t2⟩
  go_wp2_with fail
  have hb1 : w.heap.size ≤ w1.heap.size := t1.size
  have hb2 : w1.heap.size + 1 < w2.heap.size := lt_of_block hd2.blk
  have T2 := t1.trans t2
  clear HW HN t1 t2
  generalize w1.heap.size = N at hd2 hb1 hb2 ⊢
  go_loopw [4, 5, 14] (fun v4 v5 v14 wr => HiRel w (N + 1) N len v4 v5 v14 wr) (fun _ _ v14 _ => len - (intOf v14).toNat)
  case atStart => exact ⟨0, fresh 50, by omega, rfl, rfl, rfl, hd2, T2, rfl, by decide, by decide, by decide, by decide, rfl, rfl⟩
  case round =>
    obtain ⟨k, S, hk, rfl, rfl, rfl, hd, T, hl, hn0, hn1, hr0, hr1, hp, hle⟩ := hrel
    by_cases hlt : k < len
    · obtain ⟨ab, ao, rfl, hab, hlz, hlm2, hc, hwf⟩ := hw.at_ (by omega)
      have hck := hc k (by omega)
      rw [← T.cell hab (by simp)] at hck
      have hz := i64_of_wf (hwf (zs.getD k 0) (by rw [List.getD_eq_getElem?_getD, List.getElem?_eq_getElem (by omega)]; exact List.getElem_mem _))
      generalize zs.getD k 0 = z at hck hz
      clear hc hwf
      by_cases hin : 0 ≤ z ∧ z < 50
      · obtain ⟨hz0, hz1⟩ := hin
        obtain ⟨i, rfl⟩ := Int.eq_ofNat_of_zero_le hz0
        have HX := Lib.hid (write_ok (N + 1) N S i ⟨#[120]⟩ wr hd (by simp [hp]) (by omega) (by decide) (by omega) (by omega) (by omega) hn0 (by omega))
        have HH : Hid (∀ w5, IsDk w5 (N + 1) N (S.put i ⟨#[120]⟩) → _) := fun w5 h => highest_any (N + 1) N (S.put i ⟨#[120]⟩) w5 h (by simp [Dk.put]; omega) (by simp [Dk.put]; omega)
        have HC : Hid (∀ w5, IsDk w5 (N + 1) N (S.put i ⟨#[120]⟩) → _) := fun w5 h => writes_any (N + 1) N (S.put i ⟨#[120]⟩) w5 h (by simp [Dk.put]; omega) (by simp [Dk.put]; omega)
        have e1 : (S.put i ⟨#[120]⟩).reach - 1 = max (S.reach - 1) (i : Int) := by simp [Dk.put]; omega
        have e2 : (S.put i ⟨#[120]⟩).done = S.done + 1 := rfl
        rw [e1] at HH
        rw [e2] at HC
        have HE := Lib.hid e1
        have HL := Lib.hid hl
        have HP := Lib.hid hp
        have HLE := Lib.hid hle
        clear e1 e2 hl hp hle
        go_wp2_with fail
        refine HX.out.mono ?_
        rintro e w5 ⟨rfl, hd5, t5⟩
        have hu5 := HH.out w5 hd5
        have hc5 := HC.out w5 hd5
        have HU := Lib.hid hu5
        have HV := Lib.hid hc5
        clear hu5 hc5
        go_wp2_with (first | (go_at_call 22; refine HU.out.mono ?_; rintro e w6 ⟨rfl, rfl⟩) | (go_at_call 18; refine HV.out.mono ?_; rintro e w6 ⟨rfl, rfl⟩))
        go_roundw
        case rel => exact ⟨k + 1, S.put i ⟨#[120]⟩, by omega, by go_num, by rw [HE.out], rfl, hd5, T.transNew t5 (by simp; omega), by simp [Dk.put]; exact HL.out, by simp [Dk.put]; omega, by simp [Dk.put]; omega, by simp [Dk.put]; omega, by simp [Dk.put]; omega, HP.out, by simp [Dk.put, tk, HLE.out]⟩
        case measure => simp [intOf]; omega
      · have HX := Lib.hid (write_at (N + 1) N S z ⟨#[120]⟩ wr hd (by simp [hp]) (by omega))
        have HU := Lib.hid (highest_any (N + 1) N S wr hd (by omega) (by omega))
        have HV := Lib.hid (writes_any (N + 1) N S wr hd (by omega) (by omega))
        have HL := Lib.hid hl
        have HP := Lib.hid hp
        have HLE := Lib.hid hle
        clear hl hp hle
        by_cases hz0 : 0 ≤ z
        · have hz1 : ¬ z < 50 := by omega
          clear hin
          go_wp2_with (first | (go_at_call 16; refine HX.out.mono ?_; rintro e w6 ⟨rfl, rfl⟩) | (go_at_call 22; refine HU.out.mono ?_; rintro e w6 ⟨rfl, rfl⟩) | (go_at_call 18; refine HV.out.mono ?_; rintro e w6 ⟨rfl, rfl⟩))
          go_roundw
          case rel => exact ⟨k + 1, S, by omega, by go_num, rfl, rfl, hd, T, HL.out, hn0, by omega, hr0, hr1, HP.out, HLE.out⟩
          case measure => simp [intOf]; omega
        · clear hin
          go_wp2_with (first | (go_at_call 16; refine HX.out.mono ?_; rintro e w6 ⟨rfl, rfl⟩) | (go_at_call 22; refine HU.out.mono ?_; rintro e w6 ⟨rfl, rfl⟩) | (go_at_call 18; refine HV.out.mono ?_; rintro e w6 ⟨rfl, rfl⟩))
          go_roundw
          case rel => exact ⟨k + 1, S, by omega, by go_num, rfl, rfl, hd, T, HL.out, hn0, by omega, hr0, hr1, HP.out, HLE.out⟩
          case measure => simp [intOf]; omega
    · go_wp2
      go_ret
      exact ⟨rfl, T⟩
end Go.Proofs.Ythchadnbeinojaa
