/-
  The law SectorOff, walked: for every list of texts and every further cut it answers true and turns nothing that was there.
-/
import Derived.Test.YthchadnbeinojaaWakes
import Derived.Test.YthchadnbeinojaaState
import Derived.Test.YthchadnbeinojaaRowsIn
namespace Go.Proofs.Ythchadnbeinojaa
open Go.RowKit
set_option linter.unusedVariables false

/-- The text 'kept'. -/
def tkept : ByteArray := ⟨#[107, 101, 112, 116]⟩
def offD : Ds := { texts := [⟨#[]⟩, tkept, ⟨#[]⟩], done := 1, reach := 2, left := 0, on := false }
theorem kept_cut : (pad tkept).extract 0 5 = ⟨#[107, 101, 112, 116, 0]⟩ := by decide +kernel

/-- What holds at the head of each round. -/
def OfRel (w : World) (b bs len : Nat) (v28 : Value) (wr : World) : Prop :=
  ∃ k : Nat, k ≤ len ∧ v28 = .int .i64 k ∧ IsDs wr b bs offD ∧ Tch [] w wr

set_option maxRecDepth 100000 in
set_option maxHeartbeats 1000000 in
theorem off_walk (a : Option Addr) (len cap : Nat) (ss : List ByteArray) (n : Int) (w : World) (hw : IsStrs w a len cap ss) (hn : (Lit.int .i64 n).wf = true) :
    Calls Try.prog 9 #[.slice a len cap, .int .i64 n] w fun e w' => e = .returned (.bool true) ∧ Tch [] w w' := by
  have hlm : len ≤ 9223372036854775807 := by
    rcases hw with ⟨_, rfl, _, _⟩ | ⟨_, _, h1, h2, _⟩
    · omega
    · unfold maxLen at h2; omega
  have hn2 := i64_of_wf hn
  have HW := Lib.hid (wakes_any w)
  have HN := Lib.hid (fun w1 => dnew 3 w1 (by omega) (by omega))
  rw [show many 3 = 3 from rfl] at HN
  clear hn
  go_enter Try.func9, Try.ntmps9
  go_wp2_with fail
  refine HW.out.mono ?_
  rintro e w1 ⟨rfl, t1⟩
  go_wp2_with fail
  refine (HN.out w1).mono ?_
  rintro e w2 ⟨rfl, hd2, t2⟩
  go_wp2_with fail
  have hb1 : w.heap.size ≤ w1.heap.size := t1.size
  have hb2 := hd2.lt
  have T2 := t1.trans t2
  clear HW HN t1 t2
  generalize w1.heap.size = N at hd2 hb1 hb2 ⊢
  refine (dwrite (N + 1) N (freshD 3) 1 tkept _ hd2 (by decide)).mono ?_
  rintro e w3 ⟨rfl, hd3, t3⟩
  have T3 := T2.transNew t3 (by simp; omega)
  clear t3 T2 hd2
  go_wp2_with fail
  refine (dcut (N + 1) N _ 0 _ hd3 (by omega) (by omega)).mono ?_
  rintro e w4 ⟨rfl, hd4, t4⟩
  have T4 := T3.transNew t4 (by simp; omega)
  clear t4 T3 hd3
  have hD : ({ (freshD 3).wstate 1 tkept with left := max 0 0 } : Ds) = { offD with on := true } := by kernel_rfl
  rw [hD] at hd4
  clear hD
  have HX := Lib.hid (dwrite (N + 1) N _ 0 ⟨#[]⟩ _ hd4 (by decide))
  rw [show Ds.wcode { offD with on := true } 0 ⟨#[]⟩ = 12 from by decide +kernel, show Ds.wstate { offD with on := true } 0 ⟨#[]⟩ = offD from by kernel_rfl] at HX
  go_wp2_with fail
  refine HX.out.mono ?_
  rintro e w5 ⟨rfl, hd5, t5⟩
  have T5 := T4.transNew t5 (by simp; omega)
  clear t5 T4 hd4 HX
  have HO := Lib.hid (don (N + 1) N offD w5 hd5)
  rw [show offD.on = false from rfl] at HO
  go_wp2_with (first | (go_at_call 17; refine HO.out.mono ?_; rintro e w6 ⟨rfl, rfl⟩))
  clear HO
  go_loopw [28] (fun v28 wr => OfRel w (N + 1) N len v28 wr) (fun v28 _ => len - (intOf v28).toNat)
  case atStart => exact ⟨0, by omega, rfl, hd5, T5⟩
  case round =>
    obtain ⟨k, hk, rfl, hd, T⟩ := hrel
    by_cases hlt : k < len
    · obtain ⟨ab, ao, rfl, hab, hlz, hlm2, hc, hwf⟩ := hw.at_ (by omega)
      have hck := hc k (by omega)
      rw [← T.cell hab (by simp)] at hck
      have hsz := hwf (ss.getD k ByteArray.empty) (by rw [List.getD_eq_getElem?_getD, List.getElem?_eq_getElem (by omega)]; exact List.getElem_mem _)
      unfold maxLen at hsz
      generalize ss.getD k ByteArray.empty = t at hck hsz
      clear hc hwf
      have HX : Hid (∀ i, _) := fun i => dwrite (N + 1) N offD i t wr hd (by decide)
      have HR : Hid (∀ i w7, IsDs w7 (N + 1) N offD → _) := fun i w7 h => dread (N + 1) N offD i w7 h
      have HX2 : Hid (∀ i, Calls Try.prog 16 #[.pointer (some ⟨N + 1, 0, none⟩), .int .i64 i, .string t] wr fun e w' => e = .returned (.int .i64 12) ∧ (IsDs w' (N + 1) N offD ∧ Tch [N + 1, N] wr w')) := fun i => by
        have h := HX.out i
        rw [(wcode_off (D := offD) (i := i) (x := t) rfl).1, (wcode_off (D := offD) (i := i) (x := t) rfl).2] at h
        exact h
      have HR2 : Hid (∀ i w7, IsDs w7 (N + 1) N offD → Calls Try.prog 20 #[.pointer (some ⟨N + 1, 0, none⟩), .int .i64 i] w7 fun e w' => e = .returned (.tuple #[.string ⟨#[]⟩, .int .i64 12]) ∧ (IsDs w' (N + 1) N offD ∧ Tch [N + 1] w7 w')) := fun i w7 h7 => by
        have h := HR.out i w7 h7
        rw [(rd_off (D := offD) (i := i) rfl).1, (rd_off (D := offD) (i := i) rfl).2] at h
        exact h
      clear HX HR
      go_wp2_with fail
      refine (HX2.out _).mono ?_
      rintro e w6 ⟨rfl, hd6, t6⟩
      go_wp2_with fail
      refine (HR2.out _ w6 hd6).mono ?_
      rintro e w7 ⟨rfl, hd7, t7⟩
      go_wp2
      go_roundw
      case rel => exact ⟨k + 1, by omega, by go_num, hd7, (T.transNew t6 (by simp; omega)).transNew t7 (by simp; omega)⟩
      case measure => simp [intOf]; omega
    · go_wp2_with fail
      refine (dcut (N + 1) N _ n _ hd (by omega) (by omega)).mono ?_
      rintro e w6 ⟨rfl, hd6, t6⟩
      go_wp2_with fail
      refine (dstart (N + 1) N _ _ hd6).mono ?_
      rintro e w7 ⟨rfl, hd7, t7⟩
      have T7 := (T.transNew t6 (by simp; omega)).transNew t7 (by simp; omega)
      have hd8 : IsDs w7 (N + 1) N { offD with left := -1, on := true } := hd7
      clear hd7 hd6 t6 t7 T hd
      have HR := Lib.hid (dread (N + 1) N _ 1 _ hd8)
      rw [show Ds.rcode { offD with left := -1, on := true } 1 = 0 from by decide +kernel, show Ds.rtext { offD with left := -1, on := true } 1 = pad tkept from rfl] at HR
      go_wp2_with fail
      refine HR.out.mono ?_
      rintro e w8 ⟨rfl, hd9, t9⟩
      have T9 := T7.transNew t9 (by simp; omega)
      clear T7 t9 hd8 HR
      have HA := Lib.hid (dwrites (N + 1) N _ _ hd9 (by decide))
      have HB := Lib.hid (don (N + 1) N _ _ hd9)
      have HC := Lib.hid (dwrite (N + 1) N _ 0 ⟨#[120]⟩ _ hd9 (by decide))
      rw [show Ds.done { offD with left := -1, on := true } = 1 from rfl] at HA
      rw [show Ds.on { offD with left := -1, on := true } = true from rfl] at HB
      rw [show Ds.wcode { offD with left := -1, on := true } 0 ⟨#[120]⟩ = 0 from by decide +kernel] at HC
      have hps := pad_size tkept (by decide)
      have hpc := kept_cut
      go_wp2_with (first | (go_at_call 18; refine HA.out.mono ?_; rintro e w9 ⟨rfl, rfl⟩) | (go_at_call 17; refine HB.out.mono ?_; rintro e w9 ⟨rfl, rfl⟩) | (go_at_call 16; refine HC.out.mono ?_; rintro e w9 ⟨rfl, hd10, t10⟩))
      go_ret
      exact ⟨rfl, T9.transNew t10 (by simp; omega)⟩
end Go.Proofs.Ythchadnbeinojaa
