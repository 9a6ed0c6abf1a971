/-
  The law SectorCuts, walked: for every list of texts and every cut it answers true and turns nothing that was there.
-/
import Derived.Test.YthchadnbeinojaaWakes
import Derived.Test.YthchadnbeinojaaState
import Derived.Test.YthchadnbeinojaaRowsIn
import Derived.Deep.RegionWith
import Derived.Deep.QuietTactic
import Derived.BigQuiet
namespace Go.Proofs.Ythchadnbeinojaa
open Go.RowKit
set_option linter.unusedVariables false

theorem Tch.drewN {L : List Nat} {a w : World} (h : Tch L a w) (n : Nat) : Tch L a (w.drewN n) := ⟨h.os, h.tape, h.output, h.size, h.block⟩
/-- A text's beginning, 1024 bytes at most. -/
def tr (x : ByteArray) : ByteArray := x.extract 0 (min x.size 1024)
theorem tr_size (x : ByteArray) : (tr x).size = min x.size 1024 := by
  rw [Lib.size_eq, tr, Lib.extract_data, List.drop_zero, List.length_take, ← Lib.size_eq]
  omega
theorem tr_int (x : ByteArray) : tr x = x.extract 0 (min (x.size : Int) 1024).toNat := by
  unfold tr
  rw [show (min (x.size : Int) 1024).toNat = min x.size 1024 from by omega]
theorem pad_tail (x : ByteArray) (hx : x.size ≤ 1024) (j : Nat) (hj : x.size ≤ j) (h : j < (pad x).size) : (pad x)[j]'h = 0 := by
  have h2 : j < 1024 := by rw [pad_size x hx] at h; exact h
  have e : (pad x).data.toList[j]? = some 0 := by
    show ((x.data.toList ++ List.replicate (1024 - x.size) 0).toArray).toList[j]? = some 0
    rw [List.toList_toArray, List.getElem?_append_right (by rw [← Lib.size_eq]; exact hj), ← Lib.size_eq, List.getElem?_replicate, if_pos (by omega)]
  have e2 := (List.getElem?_eq_some_iff.1 e).2
  rw [← e2, Array.getElem_toList]
  rfl

def C1 (w : World) (b bs m L : Nat) (cont : Nat → ByteArray) (v30 : Value) (wr : World) : Prop :=
  ∃ (k : Nat) (D : Ds), k ≤ m ∧ v30 = .int .i64 k ∧ IsDs wr b bs D ∧ Tch [] w wr ∧ D.texts.length = m ∧ D.on = decide (k ≤ L) ∧ D.done = min (L : Int) (k : Int) ∧ (k ≤ L → D.left = (L : Int) - k) ∧ ∀ i, i < m → D.texts[i]? = some (if i < k then cont i else ⟨#[]⟩)
def C2 (w : World) (b bs m : Nat) (cont : Nat → ByteArray) (v70 : Value) (wr : World) : Prop :=
  ∃ (k : Nat) (D : Ds), k ≤ m ∧ v70 = .int .i64 k ∧ IsDs wr b bs D ∧ Tch [] w wr ∧ D.texts.length = m ∧ D.on = true ∧ ∀ i, i < m → D.texts[i]? = some (cont i)

/-- One write under a cut, as plain data. -/
theorem c1_step {D : Ds} {m L k : Nat} {cont : Nat → ByteArray} {t : ByteArray} (hk : k < m) (hl : D.texts.length = m) (hon : D.on = decide (k ≤ L)) (hdn : D.done = min (L : Int) (k : Int)) (hle : k ≤ L → D.left = (L : Int) - k)
    (htx : ∀ i, i < m → D.texts[i]? = some (if i < k then cont i else ⟨#[]⟩)) (hc1 : k < L → cont k = tr t) (hc2 : ¬ k < L → cont k = ⟨#[]⟩) :
    D.wcode k (tr t) = (if k < L then 0 else 12) ∧ (D.wstate k (tr t)).texts.length = m ∧ (D.wstate k (tr t)).on = decide (k + 1 ≤ L) ∧ (D.wstate k (tr t)).done = min (L : Int) ((k + 1 : Nat) : Int) ∧ (k + 1 ≤ L → (D.wstate k (tr t)).left = (L : Int) - (k + 1 : Nat)) ∧
      ∀ i, i < m → (D.wstate k (tr t)).texts[i]? = some (if i < k + 1 then cont i else ⟨#[]⟩) := by
  rcases Nat.lt_trichotomy k L with h | h | h
  · have hon2 : D.on = true := by rw [hon]; simp; omega
    have hle2 := hle (by omega)
    rw [wcode_in hon2 (by omega) (by omega) (by rw [tr_size]; omega) (by omega), wstate_in hon2 (by omega) (by omega) (by rw [tr_size]; omega) (by omega), if_pos h]
    refine ⟨rfl, by simp [hl], by simp only [hon2]; simp; omega, by simp only [hdn]; omega, fun _ => ?_, fun i hi => ?_⟩
    · simp only [tk]; rw [if_neg (by omega)]; omega
    · simp only [Int.toNat_natCast]
      rw [List.getElem?_set]
      by_cases hik : k = i
      · subst hik
        rw [if_pos rfl, if_pos (by omega), if_pos (by omega), hc1 h]
      · rw [if_neg hik, htx i hi]
        by_cases h2 : i < k
        · rw [if_pos h2, if_pos (by omega)]
        · rw [if_neg h2, if_neg (by omega)]
  · subst h
    have hon2 : D.on = true := by rw [hon]; simp
    have hle2 := hle (by omega)
    have hw := wcode_cut (D := D) (i := k) (x := tr t) hon2 (by omega) (by omega) (by rw [tr_size]; omega) (by omega)
    rw [hw.1, hw.2, if_neg (by omega)]
    refine ⟨rfl, hl, by simp, by simp only [hdn]; omega, fun h' => by omega, fun i hi => ?_⟩
    simp only
    rw [htx i hi]
    by_cases h2 : i < k
    · rw [if_pos h2, if_pos (by omega)]
    · rw [if_neg h2]
      by_cases h3 : i = k
      · subst h3; rw [if_pos (by omega), hc2 (by omega)]
      · rw [if_neg (by omega)]
  · have hon2 : D.on = false := by rw [hon]; simp; omega
    have hw := wcode_off (D := D) (i := k) (x := tr t) hon2
    rw [hw.1, hw.2, if_neg (by omega)]
    refine ⟨rfl, hl, by rw [hon2]; simp; omega, by rw [hdn]; omega, fun h' => by omega, fun i hi => ?_⟩
    rw [htx i hi]
    by_cases h2 : i < k
    · rw [if_pos h2, if_pos (by omega)]
    · rw [if_neg h2]
      by_cases h3 : i = k
      · subst h3; rw [if_pos (by omega), hc2 (by omega)]
      · rw [if_neg (by omega)]

set_option maxRecDepth 100000 in
set_option maxHeartbeats 2000000 in
theorem cuts_walk (a : Option Addr) (len cap : Nat) (ss : List ByteArray) (n : Int) (w : World) (hw : IsStrs w a len cap ss) (hn : (Lit.int .i64 n).wf = true) :
    Calls Try.prog 4 #[.slice a len cap, .int .i64 n] w fun e w' => e = .returned (.bool true) ∧ Tch [] w w' := by
  have hlm : len ≤ 9223372036854775807 := by
    rcases hw with ⟨_, rfl, _, _⟩ | ⟨_, _, h1, h2, _⟩
    · omega
    · unfold maxLen at h2; omega
  have hn2 := i64_of_wf hn
  obtain ⟨m, hm⟩ : ∃ m : Nat, min (len : Int) 200 = m := ⟨min len 200, by omega⟩
  have hm1 : m ≤ len := by omega
  have hm2 : m ≤ 200 := by omega
  obtain ⟨L, hL⟩ : ∃ L : Nat, max 0 n % ((m : Int) + 2) = L := ⟨(max 0 n % ((m : Int) + 2)).toNat, by have := Int.emod_nonneg (max 0 n) (show (m : Int) + 2 ≠ 0 by omega); omega⟩
  have hL2 : L ≤ 201 := by have := Int.emod_lt_of_pos (max 0 n) (show 0 < (m : Int) + 2 by omega); omega
  have HW := Lib.hid (wakes_any w)
  have HN := Lib.hid (fun w1 => dnew m w1 (by omega) (by omega))
  rw [show many m = m from by unfold many; omega] at HN
  clear hn
  go_enter Try.func4, Try.ntmps4
  go_wp2_with fail
  refine HW.out.mono ?_
  rintro e w1 ⟨rfl, t1⟩
  go_wp2_with fail
  refine (HN.out w1).mono ?_
  rintro e w2 ⟨rfl, hd2, t2⟩
  have hb1 : w.heap.size ≤ w1.heap.size := t1.size
  have hb2 := hd2.lt
  have T2 := t1.trans t2
  clear HW HN t1 t2
  generalize w1.heap.size = N at hd2 hb1 hb2 ⊢
  have hx0 : 0 ≤ max 0 n := by omega
  go_wp2_with fail
  rw [hL]
  refine (dcut (N + 1) N _ L _ hd2 (by omega) (by omega)).mono ?_
  rintro e w3 ⟨rfl, hd3, t3⟩
  have T3 := T2.transNew t3 (by simp; omega)
  rw [show max (L : Int) 0 = L from by omega] at hd3
  clear t3 T2 hd2 hm hL hx0 hn2
  go_wp2_with fail
  obtain ⟨cont, hcont⟩ : ∃ cont : Nat → ByteArray, cont = fun i => if i < L then tr (ss.getD i ByteArray.empty) else ⟨#[]⟩ := ⟨_, rfl⟩
  have HC := Lib.hid hcont
  clear hcont
  go_loopw [30] (fun v30 wr => C1 w (N + 1) N m L cont v30 wr) (fun v30 _ => m - (intOf v30).toNat)
  case atStart => exact ⟨0, { freshD m with left := L }, by omega, rfl, hd3, T3, by simp [freshD], by simp [freshD], by simp [freshD]; omega, by simp, fun i hi => by simp [freshD, hi]⟩
  case round =>
    obtain ⟨k, D, hk, rfl, hd, T, hl, hon, hdn, hle, htx⟩ := hrel
    by_cases hkm : k < m
    · obtain ⟨ab, ao, rfl, hab, hlz, hlm2, hc, hwf⟩ := hw.at_ (by omega)
      have hck := hc k (by omega)
      rw [← T.cell hab (by simp)] at hck
      have hts := hwf (ss.getD k ByteArray.empty) (by rw [List.getD_eq_getElem?_getD, List.getElem?_eq_getElem (by omega)]; exact List.getElem_mem _)
      unfold maxLen at hts
      have htr := tr_int (ss.getD k ByteArray.empty)
      have HC1 : k < L → cont k = tr (ss.getD k ByteArray.empty) := fun h => by rw [HC.out]; simp [h]
      have HC2 : ¬ k < L → cont k = ⟨#[]⟩ := fun h => by rw [HC.out]; simp [h]
      generalize ss.getD k ByteArray.empty = t at hck hts htr HC1
      have hkl : (k : Int) < (len : Int) := by omega
      have hst := c1_step (t := t) hkm hl hon hdn hle htx HC1 HC2
      have HX := Lib.hid (dwrite (N + 1) N D k (tr t) wr.drew (hd.keep ((Tch.refl [] wr).drew) (by simp) (by simp)) (by omega))
      rw [hst.1] at HX
      have HE := Lib.hid hst.2
      rw [htr] at HX HE
      clear hl hdn hon hle htx HC1 HC2 htr hd hc hwf hst
      generalize D.wstate k (t.extract 0 (min (t.size : Int) 1024).toNat) = E at HX HE
      by_cases hkL : (k : Int) < (L : Int)
      · rw [if_pos (by omega)] at HX
        go_wp2_with fail
        go_region_with (go_at_call 16; refine HX.out.mono ?_; rintro e w5 ⟨rfl, hd5, t5⟩)
        all_goals
          go_wp2
          go_roundw
          case rel => exact ⟨k + 1, E, by omega, by go_num, hd5, T.drew.transNew t5 (by simp; omega), HE.out⟩
          case measure => simp [intOf]; omega
      · rw [if_neg (by omega)] at HX
        go_wp2_with fail
        go_region_with (go_at_call 16; refine HX.out.mono ?_; rintro e w5 ⟨rfl, hd5, t5⟩)
        all_goals
          go_wp2
          go_roundw
          case rel => exact ⟨k + 1, E, by omega, by go_num, hd5, T.drew.transNew t5 (by simp; omega), HE.out⟩
          case measure => simp [intOf]; omega
    · have hkm2 : k = m := by omega
      subst hkm2
      have HO := Lib.hid (don (N + 1) N D wr hd)
      have HV := Lib.hid (dwrites (N + 1) N D wr hd (by omega))
      have HS := Lib.hid (dstart (N + 1) N D wr hd)
      rw [hon, show decide (k ≤ L) = decide ((k : Int) ≤ (L : Int)) from by simp] at HO
      rw [hdn] at HV
      have HE := Lib.hid (And.intro hl (fun i (hi : i < k) => (htx i hi).trans (by rw [if_pos hi])))
      clear hon hdn hle htx hl hkm hd
      go_wp2_with (first | (go_at_call 17; refine HO.out.mono ?_; rintro e w5 ⟨rfl, rfl⟩) | (go_at_call 18; refine HV.out.mono ?_; rintro e w5 ⟨rfl, rfl⟩) | (go_at_call 19; refine HS.out.mono ?_; rintro e w5 ⟨rfl, hd5, t5⟩))
      have T5 := T.transNew t5 (by simp; omega)
      clear HO HV HS t5 T
      have hcs : ∀ i, (cont i).size ≤ 1024 := fun i => by
        rw [HC.out]
        simp only
        by_cases h : i < L
        · rw [if_pos h, tr_size]; omega
        · rw [if_neg h]; decide
      have HCS := Lib.hid hcs
      clear hcs
      go_loopw [70] (fun v70 wr => C2 w (N + 1) N k cont v70 wr) (fun v70 _ => k - (intOf v70).toNat)
      case atStart => exact ⟨0, _, by omega, rfl, hd5, T5, HE.out.1, rfl, HE.out.2⟩
      case round =>
        obtain ⟨q, E, hq, rfl, hdq, Tq, hlq, honq, htq⟩ := hrel
        by_cases hqk : q < k
        · obtain ⟨ab, ao, rfl, hab, hlz, hlm2, hc, hwf⟩ := hw.at_ (by omega)
          have hck := hc q (by omega)
          rw [← Tq.cell hab (by simp)] at hck
          have hts := hwf (ss.getD q ByteArray.empty) (by rw [List.getD_eq_getElem?_getD, List.getElem?_eq_getElem (by omega)]; exact List.getElem_mem _)
          unfold maxLen at hts
          have htr := tr_int (ss.getD q ByteArray.empty)
          have HC1 : q < L → cont q = tr (ss.getD q ByteArray.empty) := fun h => by rw [HC.out]; simp [h]
          have HC2 : ¬ q < L → cont q = ⟨#[]⟩ := fun h => by rw [HC.out]; simp [h]
          generalize ss.getD q ByteArray.empty = t at hck hts htr HC1
          have hkl : (q : Int) < (len : Int) := by omega
          have HR := Lib.hid (dread (N + 1) N E q wr hdq)
          rw [(rd_in (D := E) (i := q) honq (by omega) (by omega)).1, (rd_in (D := E) (i := q) honq (by omega) (by omega)).2] at HR
          rw [show E.texts.getD (q : Int).toNat ⟨#[]⟩ = cont q from by simp only [Int.toNat_natCast]; rw [List.getD_eq_getElem?_getD, htq q hqk]; rfl] at HR
          have hps := pad_size (cont q) (HCS.out q)
          have hpc := pad_cut (cont q) (HCS.out q)
          have HPT := Lib.hid (fun j (hj : (cont q).size ≤ j) h => pad_tail (cont q) (HCS.out q) j hj h)
          have hcz := HCS.out q
          have HF := Lib.hid (And.intro hlq (And.intro honq htq))
          clear hlq honq htq hdq hc hwf
          by_cases hqL : (q : Int) < (L : Int)
          · rw [HC1 (by omega), htr] at HR hps hpc HPT hcz
            clear HC1 HC2 htr
            go_wp2_with (first | (go_at_call 20; refine HR.out.mono ?_; rintro e w7 ⟨rfl, hd7, t7⟩; have hck7 := (t7.cell (by have := Tq.size; omega) (by simp; omega)).trans hck))
            go_quiet (fail)
            generalize t.extract 0 (min (t.size : Int) 1024).toNat = c at HR hps hpc HPT hcz ⊢
            go_wp2
            go_loop [13] (fun v13 => ∃ j : Nat, c.size ≤ j ∧ j ≤ 1024 ∧ v13 = .int .i64 j) (fun v13 => 1024 - (intOf v13).toNat)
            case atStart => exact ⟨c.size, Nat.le_refl _, hcz, rfl⟩
            case round =>
              obtain ⟨j, hj1, hj2, rfl⟩ := hrel
              by_cases hj : j < 1024
              · have hpt : ∀ h, (((pad c)[j]'h).toNat : Int) = 0 := fun h => by rw [HPT.out j hj1 h]; rfl
                go_wp2
                go_round
                case rel => exact ⟨j + 1, by omega, by omega, by go_num⟩
                case measure => simp [intOf]; omega
              · go_wp2
                go_roundw
                case rel => exact ⟨q + 1, E, by omega, by go_num, hd7.keep (Tch.drewN (Tch.refl [] w7) _) (by simp) (by simp), (Tq.transNew t7 (by simp; omega)).drewN _, HF.out⟩
                case measure => simp [intOf]; omega
          · rw [HC2 (by omega)] at HR hps hpc HPT hcz
            clear HC1 HC2 htr
            go_wp2_with (first | (go_at_call 20; refine HR.out.mono ?_; rintro e w7 ⟨rfl, hd7, t7⟩))
            go_loop [13] (fun v13 => ∃ j : Nat, j ≤ 1024 ∧ v13 = .int .i64 j) (fun v13 => 1024 - (intOf v13).toNat)
            case atStart => exact ⟨0, by omega, rfl⟩
            case round =>
              obtain ⟨j, hj2, rfl⟩ := hrel
              by_cases hj : j < 1024
              · have hpt : ∀ h, (((pad ⟨#[]⟩)[j]'h).toNat : Int) = 0 := fun h => by rw [HPT.out j (Nat.zero_le _) h]; rfl
                go_wp2
                go_round
                case rel => exact ⟨j + 1, by omega, by go_num⟩
                case measure => simp [intOf]; omega
              · go_wp2
                go_roundw
                case rel => exact ⟨q + 1, E, by omega, by go_num, hd7, (Tq.transNew t7 (by simp; omega)), HF.out⟩
                case measure => simp [intOf]; omega
        · go_wp2
          go_ret
          exact ⟨rfl, Tq⟩
end Go.Proofs.Ythchadnbeinojaa
