/-
  The law SectorLast, walked: for every list of texts it answers true and turns nothing that was there.
-/
import Derived.Test.YthchadnbeinojaaWakes
import Derived.Test.YthchadnbeinojaaState
import Derived.Test.YthchadnbeinojaaRowsIn
namespace Go.Proofs.Ythchadnbeinojaa
open Go.RowKit
set_option linter.unusedVariables false

/-- What holds at the head of each round. -/
def LaRel (w : World) (b bs len : Nat) (v4 v14 : Value) (wr : World) : Prop :=
  ∃ (k : Nat) (D : Ds) (x : ByteArray), k ≤ len ∧ v14 = .int .i64 k ∧ v4 = .string x ∧ IsDs wr b bs D ∧ Tch [] w wr ∧ D.texts = [x] ∧ x.size ≤ 1024 ∧ D.on = true ∧ D.left = -1 ∧ D.done ≤ k

set_option maxRecDepth 100000 in
set_option maxHeartbeats 1000000 in
theorem last_walk (a : Option Addr) (len cap : Nat) (ss : List ByteArray) (w : World) (hw : IsStrs w a len cap ss) :
    Calls Try.prog 8 #[.slice a len cap] w fun e w' => e = .returned (.bool true) ∧ Tch [] w w' := by
  have hlm : len ≤ 9223372036854775807 := by
    rcases hw with ⟨_, rfl, _, _⟩ | ⟨_, _, h1, h2, _⟩
    · omega
    · unfold maxLen at h2; omega
  have HW := Lib.hid (wakes_any w)
  have HN := Lib.hid (fun w1 => dnew 1 w1 (by omega) (by omega))
  rw [show many 1 = 1 from rfl] at HN
  go_enter Try.func8, Try.ntmps8
  go_wp2_with fail
  refine HW.out.mono ?_
  rintro e w1 ⟨rfl, t1⟩
  go_wp2_with fail
  refine (HN.out w1).mono ?_
  rintro e w2 ⟨rfl, hd2, t2⟩
  go_wp2_with fail
  have hb1 : w.heap.size ≤ w1.heap.size := t1.size
  have hb2 := hd2.lt
  have T2 := t1.trans t2
  clear HW HN t1 t2
  generalize w1.heap.size = N at hd2 hb1 hb2 ⊢
  go_loopw [4, 14] (fun v4 v14 wr => LaRel w (N + 1) N len v4 v14 wr) (fun _ v14 _ => len - (intOf v14).toNat)
  case atStart => exact ⟨0, freshD 1, ⟨#[]⟩, by omega, rfl, rfl, hd2, T2, rfl, by decide, rfl, rfl, by decide⟩
  case round =>
    obtain ⟨k, D, x, hk, rfl, rfl, hd, T, ht, hx, hon, hle, hdn⟩ := hrel
    by_cases hlt : k < len
    · obtain ⟨ab, ao, rfl, hab, hlz, hlm2, hc, hwf⟩ := hw.at_ (by omega)
      have hck := hc k (by omega)
      rw [← T.cell hab (by simp)] at hck
      have hsz := hwf (ss.getD k ByteArray.empty) (by rw [List.getD_eq_getElem?_getD, List.getElem?_eq_getElem (by omega)]; exact List.getElem_mem _)
      unfold maxLen at hsz
      generalize ss.getD k ByteArray.empty = t at hck hsz
      clear hc hwf
      by_cases hin : t.size ≤ 1024
      · have HX := Lib.hid (dwrite (N + 1) N D 0 t wr hd (by omega))
        rw [wcode_in hon (by omega) (by simp [ht]) hin (by omega), wstate_in hon (by omega) (by simp [ht]) hin (by omega)] at HX
        rw [ht] at HX
        generalize hD : ({ texts := [x].set (0 : Int).toNat t, done := D.done + 1, reach := max D.reach (0 + 1), left := tk D.left, on := D.on } : Ds) = E at HX
        have hE1 : E.texts = [t] := by rw [← hD]; rfl
        have hE2 : E.on = true := by rw [← hD]; exact hon
        have hE3 : E.left = -1 := by rw [← hD]; simp [tk, hle]
        have hE4 : E.done ≤ ↑(k + 1) := by rw [← hD]; simp; omega
        have HR : Hid (∀ w5, IsDs w5 (N + 1) N E → _) := fun w5 h => dread (N + 1) N E 0 w5 h
        rw [(rd_in (D := E) (i := 0) hE2 (by omega) (by simp [hE1])).1, (rd_in (D := E) (i := 0) hE2 (by omega) (by simp [hE1])).2, hE1] at HR
        have HE := Lib.hid (And.intro hE1 (And.intro hE2 (And.intro hE3 hE4)))
        have hps := pad_size t hin
        have hpc := pad_cut t hin
        clear hD hE1 hE2 hE3 hE4 hon ht hle hx
        go_wp2_with fail
        refine HX.out.mono ?_
        rintro e w5 ⟨rfl, hd5, t5⟩
        have HR5 := Lib.hid (HR.out w5 hd5)
        go_wp2_with (first | (go_at_call 20; refine HR5.out.mono ?_; rintro e w6 ⟨rfl, hd6, t6⟩))
        go_roundw
        case rel => exact ⟨k + 1, E, t, by omega, by go_num, rfl, hd6, (T.transNew t5 (by simp; omega)).transNew t6 (by simp; omega), HE.out.1, hin, HE.out.2.1, HE.out.2.2.1, HE.out.2.2.2⟩
        case measure => simp [intOf]; omega
      · have HX := Lib.hid (dwrite (N + 1) N D 0 t wr hd (by omega))
        rw [(wcode_long (D := D) (i := 0) (x := t) hon (by omega) (by simp [ht]) (by omega)).1, (wcode_long (D := D) (i := 0) (x := t) hon (by omega) (by simp [ht]) (by omega)).2] at HX
        have HR : Hid (∀ w5, IsDs w5 (N + 1) N D → _) := fun w5 h => dread (N + 1) N D 0 w5 h
        rw [(rd_in (D := D) (i := 0) hon (by omega) (by simp [ht])).1, (rd_in (D := D) (i := 0) hon (by omega) (by simp [ht])).2, ht] at HR
        have HE := Lib.hid (And.intro ht (And.intro hon hle))
        have hps := pad_size x hx
        have hpc := pad_cut x hx
        clear hon ht hle
        go_wp2_with fail
        refine HX.out.mono ?_
        rintro e w5 ⟨rfl, hd5, t5⟩
        have HR5 := Lib.hid (HR.out w5 hd5)
        go_wp2_with (first | (go_at_call 20; refine HR5.out.mono ?_; rintro e w6 ⟨rfl, hd6, t6⟩))
        go_roundw
        case rel => exact ⟨k + 1, D, x, by omega, by go_num, rfl, hd6, (T.transNew t5 (by simp; omega)).transNew t6 (by simp; omega), HE.out.1, hx, HE.out.2.1, HE.out.2.2, by omega⟩
        case measure => simp [intOf]; omega
    · go_wp2
      go_ret
      exact ⟨rfl, T⟩
end Go.Proofs.Ythchadnbeinojaa
