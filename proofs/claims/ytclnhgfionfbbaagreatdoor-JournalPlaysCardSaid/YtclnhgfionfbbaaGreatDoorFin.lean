/-
  'finish' of package journal: the copies are brought to their sectors, then the head is emptied. Conditions: the journal is one that Open makes, over a disk; the numbers are its sectors', at most as many as its room; the count of writes stays below the greatest int64.
-/
import Derived.Test.YtclnhgfionfbbaaGreatDoorRhd
namespace Go.Proofs.YtclnhgfionfbbaaGreatDoor
open Go.RowKit
set_option linter.unusedVariables false

theorem pad_pad (x : ByteArray) (hx : x.size ≤ 1024) : pad (pad x) = pad x := by
  have h := pad_size x hx
  apply ba_ext
  show ((pad x).data.toList ++ List.replicate (1024 - (pad x).size) 0).toArray.toList = _
  rw [h, Nat.sub_self]
  simp
theorem pad_nonempty (x : ByteArray) (hx : x.size ≤ 1024) : pad x ≠ ⟨#[]⟩ := by
  intro h
  have := pad_size x hx
  rw [h] at this
  exact absurd this (by decide)
theorem wcode_pad (D : Ds) (i : Int) (x : ByteArray) (hx : x.size ≤ 1024) : D.wcode i (pad x) = D.wcode i x := by
  have h := pad_size x hx
  simp only [Ds.wcode]
  rw [if_neg (show ¬ 1024 < (pad x).size by omega), if_neg (show ¬ 1024 < x.size by omega)]
theorem isds_unpad {w : World} {b bs : Nat} {D : Ds} {i : Int} {x : ByteArray} (hx : x.size ≤ 1024) (h : IsDs w b bs (D.wstate i (pad x))) : IsDs w b bs (D.wstate i x) := by
  have hp := pad_size x hx
  unfold Ds.wstate at h ⊢
  split at h
  · rename_i h1; rw [if_pos h1]; exact h
  · rename_i h1; rw [if_neg h1]
    split at h
    · rename_i h2; rw [if_pos h2]; exact h
    · rename_i h2; rw [if_neg h2]
      rw [if_neg (by omega)] at h
      rw [if_neg (by omega)]
      split at h
      · rename_i h3; rw [if_pos h3]; exact h
      · rename_i h3; rw [if_neg h3]
        obtain ⟨S, hk, hm, ho, hl, hs, r⟩ := h
        refine ⟨S, hk, hm, ho, by simpa using hl, fun q s y hq hy => ?_, by simpa using r⟩
        simp only at hy hs
        rw [List.getElem?_set] at hy
        by_cases hj : i.toNat = q
        · rw [if_pos hj] at hy
          by_cases hlt : i.toNat < D.texts.length
          · rw [if_pos hlt] at hy
            cases hy
            have h4 := hs q s (pad x) hq (by rw [List.getElem?_set, if_pos hj, if_pos hlt])
            refine ⟨Or.inr ?_, hx⟩
            rcases h4.1 with ⟨_, h5⟩ | h5
            · exact absurd h5 (pad_nonempty x hx)
            · rw [h5, pad_pad x hx]
          · rw [if_neg hlt] at hy; cases hy
        · rw [if_neg hj] at hy
          exact hs q s y hq (by rw [List.getElem?_set, if_neg hj]; exact hy)
theorem isds_size {w : World} {b bs : Nat} {D : Ds} (h : IsDs w b bs D) (i : Nat) : (D.texts.getD i ⟨#[]⟩).size ≤ 1024 := by
  obtain ⟨S, hk, hm, ho, hl, hs, _⟩ := h
  by_cases hi : i < D.texts.length
  · have e1 : S.secs[i]? = some (S.secs[i]'(by omega)) := List.getElem?_eq_getElem (by omega)
    have e2 : D.texts[i]? = some D.texts[i] := List.getElem?_eq_getElem hi
    have := (hs i _ _ e1 e2).2
    simpa [List.getD_eq_getElem?_getD, e2] using this
  · rw [List.getD_eq_getElem?_getD, List.getElem?_eq_none (by omega)]
    decide
theorem dwritep (b bs : Nat) (D : Ds) (i : Int) (x : ByteArray) (w : World) (hx : x.size ≤ 1024) (hd : IsDs w b bs D) (hn : D.done < 9223372036854775807) :
    Calls Tryz.prog 24 #[.pointer (some ⟨b, 0, none⟩), .int .i64 i, .string (pad x)] w fun e w' => e = .returned (.int .i64 (D.wcode i x)) ∧ (IsDs w' b bs (D.wstate i x) ∧ Tch [b, bs] w w') := by
  refine (dwrite b bs D i (pad x) w hd hn).mono ?_
  rintro e w' ⟨rfl, hd', t'⟩
  exact ⟨by rw [wcode_pad D i x hx], isds_unpad hx hd', t'⟩
theorem rcode_of {D : Ds} {i : Nat} (h : D.rcode (i : Int) = 0) : D.rtext (i : Int) = pad (D.texts.getD i ⟨#[]⟩) := by
  unfold Ds.rcode at h
  unfold Ds.rtext
  split at h
  · omega
  · rename_i h1; rw [if_neg h1]
    split at h
    · omega
    · rename_i h2; rw [if_neg h2]; rfl

def FnRel (w : World) (b bs room : Nat) (l : List Nat) (D : Ds) (v12 : Value) (wr : World) : Prop :=
  ∃ (k : Nat) (E : Ds), k ≤ l.length ∧ v12 = .int .i64 k ∧ IsDs wr b bs E ∧ fin room 0 l D = fin room k (l.drop k) E ∧ E.done ≤ D.done + k ∧ Tch [b, bs] w wr

/-- What finish answers and leaves. -/
def FnPost (w : World) (b bs room : Nat) (l : List Nat) (D : Ds) (e : Ending) (w' : World) : Prop :=
  e = .returned (.int .i64 (fins room l D).1) ∧ IsDs w' b bs (fins room l D).2 ∧ Tch [b, bs] w w'

theorem wrs_one (D : Ds) (i : Int) (x : ByteArray) : wrs [(i, x)] D = (D.wcode i x, D.wstate i x) := by
  simp only [wrs]
  by_cases h : D.wcode i x = 0
  · rw [if_pos h, h]
  · rw [if_neg h]
theorem hd_size (l : List Nat) (hl : l.length ≤ 500) (hb : ∀ a ∈ l, a < 16384) : (hdb l).size ≤ 1024 := by
  have key : ∀ k, k ≤ l.length → (hk l k).length ≤ 2 + 2 * k := by
    intro k
    induction k with
    | zero => intro _; unfold hk; simp; exact ub_len 1 l.length (by simp; omega)
    | succ k ih =>
      intro h
      rw [hk_step l k (by omega), List.length_append]
      have h1 := ih (by omega)
      have h2 := ub_len 1 (l.getD k 0) (by
        have := hb (l.getD k 0) (by rw [List.getD_eq_getElem?_getD, List.getElem?_eq_getElem (by omega)]; exact List.getElem_mem _)
        rw [show 128 ^ (1 + 1) = 16384 from by decide]; exact this)
      omega
  rw [hk_all]
  have := key l.length (Nat.le_refl _)
  rw [Lib.size_mk]
  omega

set_option maxRecDepth 100000 in
set_option maxHeartbeats 2000000 in
/-- The end of it: the head is emptied. -/
theorem fin_any (jb b bs room : Nat) (D : Ds) (v : Value) (l : List Nat) (w : World) (h : IsJn w jb b room) (hd0 : IsDs w b bs D) (hj : jb ≠ b ∧ jb ≠ bs) (hr : room ≤ 500) (hv : IsNums w v l) (hvb : ∀ k, v.ownBlock = some k → k ∉ [b, bs])
    (hl : l.length ≤ room) (hin : ∀ a ∈ l, a < 16384) (hn : D.done + 501 < 9223372036854775807) :
    Calls Tryz.prog 31 #[.pointer (some ⟨jb, 0, none⟩), v] w (FnPost w b bs room l D) := by
  have HH := Lib.hid (fun w1 => headOf_nil w1)
  have hj2 : jb ∉ [b, bs] := by simp; exact hj
  have hlt := hd0.lt
  have hjlt := h.lt
  rcases hv.cases with ⟨rfl, rfl⟩ | ⟨g, cap, rfl, hg, hc⟩
  · have HF : Hid (∀ w1, IsDs w1 b bs (D.wstate 0 (hdb [])) → Tch [b, bs] w w1 → FnPost w b bs room [] D (.returned (.int .i64 (D.wcode 0 (hdb [])))) w1) := fun w1 hd1 t1 => by
      have e : fins room [] D = (D.wcode 0 (hdb []), D.wstate 0 (hdb [])) := by unfold fins; rw [fin, if_pos rfl, wrs_one]
      unfold FnPost; rw [e]; exact ⟨rfl, hd1, t1⟩
    have HW : Hid (∀ w1, IsDs w1 b bs D → _) := fun w1 h1 => dwrite b bs D 0 (hdb []) w1 h1 (by omega)
    have q0 := h.c0
    have hd2 : IsDs w.drew b bs D := hd0.keep (Tch.refl [] w).drew (by simp) (by simp)
    have T : Tch [b, bs] w w := Tch.refl _ _
    clear hd0 hvb hv
    generalize D.wstate 0 (hdb []) = E2 at HW HF
    generalize D.wcode 0 (hdb []) = c at HW HF
    go_enter Tryz.func31, Tryz.ntmps31
    go_wp2_with fail
    refine wp_loop_rounds 1 ?_
    rw [rounds_succ]
    go_wp2_with fail
    go_region_with (first | (go_at_call 35; refine (HH.out _).mono ?_; rintro e w1 ⟨rfl, t1⟩; have hd3 := hd2.keep t1 (by simp) (by simp); have q1 := (h.keep (Tch.refl [] w).drew (by simp)).keep t1 (by simp) |>.c0) | (go_at_call 24; refine (HW.out _ hd3).mono ?_; rintro e w2 ⟨rfl, hd4, t4⟩))
    all_goals
      go_wp2
      go_ret
      exact HF.out _ hd4 ((T.drew.trans (t1.mono (by simp))).trans t4)
  · have hgb : g ∉ [b, bs] := hvb g rfl
    have HC := Lib.hid hc
    have HIN := Lib.hid hin
    have HJN : Hid (∀ wr, Tch [b, bs] w wr → IsJn wr jb b room) := fun wr t => h.keep t hj2
    clear hc hin hvb hv h
    go_enter Tryz.func31, Tryz.ntmps31
    go_wp2_with fail
    go_loopw [12] (fun v12 wr => FnRel w b bs room l D v12 wr) (fun v12 _ => l.length - (intOf v12).toNat)
    case atStart => exact ⟨0, D, by omega, rfl, hd0, rfl, by omega, Tch.refl _ _⟩
    case round =>
      obtain ⟨k, E, hk, rfl, hd, hf, hdn, T⟩ := hrel
      by_cases hkl : k < l.length
      · have hck := HC.out k hkl
        rw [← T.cell hg hgb] at hck
        have hx : l.getD k 0 < 16384 := HIN.out _ (by rw [List.getD_eq_getElem?_getD, List.getElem?_eq_getElem hkl]; exact List.getElem_mem _)
        have hdr : l.drop k = l.getD k 0 :: l.drop (k + 1) := by
          rw [List.drop_eq_getElem_cons hkl, List.getD_eq_getElem?_getD, List.getElem?_eq_getElem hkl]; rfl
        rw [hdr, fin] at hf
        generalize l.getD k 0 = a at hck hx hf
        have hJ := HJN.out wr T
        have c0 := hJ.c0
        have HR := Lib.hid (dread b bs E ((1 + k : Nat) : Int) wr hd)
        by_cases hrc : E.rcode ((1 + k : Nat) : Int) = 0
        · rw [if_neg (by simpa using hrc)] at hf
          rw [rcode_of hrc, hrc] at HR
          have hxs := isds_size hd (1 + k)
          generalize E.texts.getD (1 + k) ⟨#[]⟩ = x at hf HR hxs
          have HO : Hid (∀ w1, IsJn w1 jb b room → _) := fun w1 h1 => onDisk_any jb b room a w1 h1 hr (by omega) (by omega)
          have HW : Hid (∀ w1, IsDs w1 b bs E → _) := fun w1 h1 => dwritep b bs E ((room + 1 + a : Nat) : Int) x w1 hxs h1 (by omega)
          rw [show (((1 + k : Nat) : Int)) = 1 + (k : Int) from by omega] at HR
          have HE := Lib.hid (wst_done E ((room + 1 + a : Nat) : Int) x).2
          by_cases hwc : E.wcode ((room + 1 + a : Nat) : Int) x = 0
          · rw [if_pos hwc] at hf
            rw [hwc] at HW
            have HF := Lib.hid hf
            clear hf hwc hrc hdr
            generalize E.wstate ((room + 1 + a : Nat) : Int) x = E2 at HW HF HE
            rw [show ((room + 1 + a : Nat) : Int) = 1 + (room : Int) + (a : Int) from by omega] at HW
            go_wp2_with (first | (go_at_call 27; refine HR.out.mono ?_; rintro e w1 ⟨rfl, hd1, t1⟩))
            have T1 := T.trans (t1.mono (L' := [b, bs]) (by simp))
            have hJ1 := HJN.out w1 T1
            have hJ2 : IsJn w1.drew jb b room := hJ1
            have hd2 : IsDs w1.drew b bs E := hd1.keep (Tch.refl [] w1).drew (by simp) (by simp)
            have q0 := hJ1.c0
            clear hJ c0 t1 hd
            go_region_with (first | (go_at_call 33; refine (HO.out _ hJ2).mono ?_; rintro e w2 ⟨rfl, rfl⟩) | (go_at_call 24; refine (HW.out _ hd2).mono ?_; rintro e w2 ⟨rfl, hd3, t3⟩))
            all_goals
              go_wp2
              go_roundw
              case rel => exact ⟨k + 1, E2, by omega, by go_num, hd3, HF.out, by have := HE.out; omega, T1.drew.trans t3⟩
              case measure => simp [intOf]; omega
          · rw [if_neg hwc] at hf
            have hne : (E.wcode ((room + 1 + a : Nat) : Int) x != 0) = true := by simpa using hwc
            have HF : Hid (∀ w1, IsDs w1 b bs (E.wstate ((room + 1 + a : Nat) : Int) x) → Tch [b, bs] w w1 → FnPost w b bs room l D (.returned (.int .i64 (E.wcode ((room + 1 + a : Nat) : Int) x))) w1) := fun w1 hd1 t1 => by
              have e : fins room l D = (E.wcode ((room + 1 + a : Nat) : Int) x, E.wstate ((room + 1 + a : Nat) : Int) x) := by unfold fins; rw [hf, if_neg hwc]
              unfold FnPost; rw [e]; exact ⟨rfl, hd1, t1⟩
            clear hf hwc hrc hdr HE
            generalize E.wstate ((room + 1 + a : Nat) : Int) x = E2 at HW HF
            generalize E.wcode ((room + 1 + a : Nat) : Int) x = c at HW HF hne
            rw [show ((room + 1 + a : Nat) : Int) = 1 + (room : Int) + (a : Int) from by omega] at HW
            go_wp2_with (first | (go_at_call 27; refine HR.out.mono ?_; rintro e w1 ⟨rfl, hd1, t1⟩))
            have T1 := T.trans (t1.mono (L' := [b, bs]) (by simp))
            have hJ1 := HJN.out w1 T1
            have hJ2 : IsJn w1.drew jb b room := hJ1
            have hd2 : IsDs w1.drew b bs E := hd1.keep (Tch.refl [] w1).drew (by simp) (by simp)
            have q0 := hJ1.c0
            clear hJ c0 t1 hd
            go_region_with (first | (go_at_call 33; refine (HO.out _ hJ2).mono ?_; rintro e w2 ⟨rfl, rfl⟩) | (go_at_call 24; refine (HW.out _ hd2).mono ?_; rintro e w2 ⟨rfl, hd3, t3⟩))
            all_goals
              go_wp2
              go_ret
              exact HF.out _ hd3 (T1.drew.trans t3)
        · rw [if_pos hrc] at hf
          have hne : (E.rcode ((1 + k : Nat) : Int) != 0) = true := by simpa using hrc
          have HF : Hid (∀ w1, IsDs w1 b bs E → Tch [b, bs] w w1 → FnPost w b bs room l D (.returned (.int .i64 (E.rcode ((1 + k : Nat) : Int)))) w1) := fun w1 hd1 t1 => by
            have e : fins room l D = (E.rcode ((1 + k : Nat) : Int), E) := by unfold fins; rw [hf, if_neg hrc]
            unfold FnPost; rw [e]; exact ⟨rfl, hd1, t1⟩
          clear hf hrc hJ hd
          generalize E.rcode ((1 + k : Nat) : Int) = c at HF HR hne
          rw [show (((1 + k : Nat) : Int)) = 1 + (k : Int) from by omega] at HR
          go_wp2_with (first | (go_at_call 27; refine HR.out.mono ?_; rintro e w1 ⟨rfl, hd1, t1⟩))
          go_ret
          exact HF.out _ hd1 (T.trans (t1.mono (by simp)))
      · obtain rfl : k = l.length := by omega
        rw [List.drop_length, fin] at hf
        have HF : Hid (∀ w1, IsDs w1 b bs (E.wstate 0 (hdb [])) → Tch [b, bs] w w1 → FnPost w b bs room l D (.returned (.int .i64 (E.wcode 0 (hdb [])))) w1) := fun w1 hd1 t1 => by
          have e : fins room l D = (E.wcode 0 (hdb []), E.wstate 0 (hdb [])) := by unfold fins; rw [hf, if_pos rfl, wrs_one]
          unfold FnPost; rw [e]; exact ⟨rfl, hd1, t1⟩
        have HW : Hid (∀ w1, IsDs w1 b bs E → _) := fun w1 h1 => dwrite b bs E 0 (hdb []) w1 h1 (by omega)
        have hJ1 := HJN.out wr T
        have q0 := hJ1.c0
        have hd2 : IsDs wr.drew b bs E := hd.keep (Tch.refl [] wr).drew (by simp) (by simp)
        clear hf hd
        generalize E.wstate 0 (hdb []) = E2 at HW HF
        generalize E.wcode 0 (hdb []) = c at HW HF
        go_wp2_with fail
        go_region_with (first | (go_at_call 35; refine (HH.out _).mono ?_; rintro e w1 ⟨rfl, t1⟩; have hd3 := hd2.keep t1 (by simp) (by simp); have q1 := (hJ1.keep (Tch.refl [] wr).drew (by simp)).keep t1 (by simp) |>.c0) | (go_at_call 24; refine (HW.out _ hd3).mono ?_; rintro e w2 ⟨rfl, hd4, t4⟩))
        all_goals
          go_wp2
          go_ret
          exact HF.out _ hd4 ((T.drew.trans (t1.mono (by simp))).trans t4)
end Go.Proofs.YtclnhgfionfbbaaGreatDoor
