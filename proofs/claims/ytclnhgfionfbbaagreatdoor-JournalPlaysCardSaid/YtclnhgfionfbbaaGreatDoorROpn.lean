/-
  'Open' of the document's journal. Conditions: the disk is one that its New makes; the count of writes stays below the greatest int64.
-/
import Derived.Test.YtclnhgfionfbbaaGreatDoorRNum
import Derived.Test.YtclnhgfionfbbaaGreatDoorFin
namespace Go.Proofs.YtclnhgfionfbbaaGreatDoor
open Go.RowKit
set_option linter.unusedVariables false

theorem pad_le (x : ByteArray) : x.size ≤ (pad x).size := by
  have h : (pad x).size = (x.data.toList ++ List.replicate (1024 - x.size) 0).length := Lib.size_mk _
  rw [h, List.length_append, ← Lib.size_eq]
  omega
theorem cell_lt {w : World} {b o : Nat} {v : Value} (h : w.cell? ⟨b, o, none⟩ = some v) : b < w.heap.size := by
  unfold World.cell? at h
  rcases Nat.lt_or_ge b w.heap.size with h' | h'
  · exact h'
  · simp [Array.getElem?_eq_none h'] at h
theorem isrf_size {w : World} {b bs : Nat} {D : Ds} (h : IsRf w b bs D) (i : Nat) : (D.texts.getD i ⟨#[]⟩).size ≤ 1024 := by
  obtain ⟨R, hk, hl, hs, _⟩ := h
  by_cases hi : i < D.texts.length
  · have e1 : R.secs[i]? = some (R.secs[i]'(by omega)) := List.getElem?_eq_getElem (by omega)
    have e2 : D.texts[i]? = some D.texts[i] := List.getElem?_eq_getElem hi
    obtain ⟨h1, h2⟩ := hs i _ _ e1 e2
    rw [List.getD_eq_getElem?_getD, e2]
    show D.texts[i].size ≤ 1024
    have h3 := pad_le D.texts[i]
    rw [← h2, pad_size _ h1] at h3
    exact h3
  · rw [List.getD_eq_getElem?_getD, List.getElem?_eq_none (by omega)]
    decide
theorem isrf_unpad {w : World} {b bs : Nat} {D : Ds} {i : Int} {x : ByteArray} (hx : x.size ≤ 1024) (h : IsRf w b bs (D.wstate i (pad x))) : IsRf w b bs (D.wstate i x) := by
  have hp := pad_size x hx
  unfold Ds.wstate at h ⊢
  split at h
  · rename_i h1; rw [if_pos h1]; exact h
  · rename_i h1; rw [if_neg h1]
    split at h
    · rename_i h2; rw [if_pos h2]; exact h
    · rename_i h2; rw [if_neg h2]
      rw [if_neg (by omega)] at h
      rw [if_neg (by omega)]
      split at h
      · rename_i h3; rw [if_pos h3]; exact h
      · rename_i h3; rw [if_neg h3]
        obtain ⟨R, hk, hl, hs, r⟩ := h
        refine ⟨R, hk, by simpa using hl, fun q s y hq hy => ?_, by simpa using r⟩
        simp only at hy hs
        rw [List.getElem?_set] at hy
        by_cases hj : i.toNat = q
        · rw [if_pos hj] at hy
          by_cases hlt : i.toNat < D.texts.length
          · rw [if_pos hlt] at hy
            cases hy
            have h4 := hs q s (pad x) hq (by rw [List.getElem?_set, if_pos hj, if_pos hlt])
            exact ⟨h4.1, by rw [h4.2, pad_pad x hx]⟩
          · rw [if_neg hlt] at hy; cases hy
        · rw [if_neg hj] at hy
          exact hs q s y hq (by rw [List.getElem?_set, if_neg hj]; exact hy)
theorem fwritep (b bs : Nat) (D : Ds) (i : Int) (x : ByteArray) (w : World) (hx : x.size ≤ 1024) (hd : IsRf w b bs D) (hn : D.done < 9223372036854775807) :
    Calls Tryz.prog 25 #[.pointer (some ⟨b, 0, none⟩), .int .i64 i, .string (pad x)] w fun e w' => e = .returned (.int .i64 (D.wcode i x)) ∧ (IsRf w' b bs (D.wstate i x) ∧ Tch [b, bs] w w') := by
  refine (fwrite b bs D i (pad x) w hd hn).mono ?_
  rintro e w' ⟨rfl, hd', t'⟩
  exact ⟨by rw [wcode_pad D i x hx], isrf_unpad hx hd', t'⟩
theorem rjhead_nil (w : World) : Calls Tryz.prog 39 #[.slice none 0 0] w fun e w' => e = .returned (.string (hdb [])) ∧ Tch [] w w' :=
  rjhead_any none 0 0 0 0 [] w ⟨rfl, Or.inl rfl, fun k c hk => by simp at hk, fun c hc => by simp at hc⟩ (by simp) (fun c hc => by simp at hc)

/-- What Open answers and leaves. -/
def RoPost (w : World) (b bs : Nat) (room : Int) (D : Ds) (e : Ending) (w' : World) : Prop :=
  Tch [b, bs] w w' ∧ IsRf w' b bs (jopen room D).2 ∧
    (((jopen room D).1 = 0 ∧ ∃ kb, e = .returned (.tuple #[.pointer (some ⟨kb, 0, none⟩), .int .i64 0]) ∧ w.heap.size ≤ kb ∧ IsRj w' kb b room.toNat) ∨
      ((jopen room D).1 ≠ 0 ∧ e = .returned (.tuple #[.pointer none, .int .i64 (jopen room D).1])))
theorem RoPost.no {w w' : World} {b bs : Nat} {room : Int} {D D' : Ds} {c : Int} (h : jopen room D = (c, D')) (hc : c ≠ 0) (t : Tch [b, bs] w w') (hd : IsRf w' b bs D') : RoPost w b bs room D (.returned (.tuple #[.pointer none, .int .i64 c])) w' :=
  ⟨t, by rw [h]; exact hd, Or.inr ⟨by rw [h]; exact hc, by rw [h]⟩⟩
theorem RoPost.yes {w w' : World} {b bs kb : Nat} {room : Int} {D D' : Ds} (h : jopen room D = (0, D')) (t : Tch [b, bs] w w') (hd : IsRf w' b bs D') (hj : w.heap.size ≤ kb) (hn : IsRj w' kb b room.toNat) : RoPost w b bs room D (.returned (.tuple #[.pointer (some ⟨kb, 0, none⟩), .int .i64 0])) w' :=
  ⟨t, by rw [h]; exact hd, Or.inl ⟨by rw [h], kb, rfl, hj, hn⟩⟩

theorem ropen_arg (b bs : Nat) (room : Int) (D : Ds) (w : World) (hd : IsRf w b bs D) (h : room < 1 ∨ 500 < room) :
    Calls Tryz.prog 16 #[.pointer (some ⟨b, 0, none⟩), .int .i64 room] w (RoPost w b bs room D) := by
  have HF := Lib.hid (RoPost.no (w := w) (w' := w) (b := b) (bs := bs) (room := room) (D := D) (D' := D) (c := 2) (by unfold jopen; rw [if_pos h]) (by omega) (Tch.refl _ _) hd)
  clear hd
  by_cases h1 : room < 1
  · clear h
    go_enter Tryz.func16, Tryz.ntmps16
    go_wp2_with fail
    go_ret2
    exact HF.out
  · have h2 : 500 < room := by omega
    have h3 : decide (room < 1) = false := by simpa using h1
    clear h h1
    go_enter Tryz.func16, Tryz.ntmps16
    go_wp2_with fail
    go_ret2
    exact HF.out
theorem ropen_off (b bs : Nat) (room : Int) (D : Ds) (w : World) (hd : IsRf w b bs D) (h : ¬ (room < 1 ∨ 500 < room)) (hc : D.rcode 0 ≠ 0) :
    Calls Tryz.prog 16 #[.pointer (some ⟨b, 0, none⟩), .int .i64 room] w (RoPost w b bs room D) := by
  have HF : Hid (∀ w1, Tch [b, bs] w w1 → IsRf w1 b bs D → RoPost w b bs room D (.returned (.tuple #[.pointer none, .int .i64 (D.rcode 0)])) w1) := fun w1 t1 h1 => RoPost.no (by unfold jopen; rw [if_neg h, if_pos hc]) hc t1 h1
  have HR : Hid (∀ w1, IsRf w1 b bs D → _) := fun w1 h1 => fread b bs D 0 w1 h1
  have hd1 := hd.keep ((Tch.refl [] w).alloc (.cells #[.pointer (some ⟨b, 0, none⟩), .int .i64 room] 95)) (by simp) (by simp)
  have T1 := (Tch.refl [b, bs] w).alloc (.cells #[.pointer (some ⟨b, 0, none⟩), .int .i64 room] 95)
  have hne : (D.rcode 0 != 0) = true := by simpa using hc
  have e1 : decide (room < 1) = false := by simp; omega
  have e2 : decide (500 < room) = false := by simp; omega
  clear hd hc
  generalize D.rcode 0 = c at HR HF hne
  generalize D.rtext 0 = t at HR
  go_enter Tryz.func16, Tryz.ntmps16
  go_wp2_with (first | (go_at_call 28; refine (HR.out _ hd1).mono ?_; rintro e w1 ⟨rfl, hd2, t1⟩))
  go_ret2
  exact HF.out _ (T1.trans (t1.mono (by simp))) hd2

/-- What holds at the head of each round. -/
def RoRel (w2 : World) (b bs room : Nat) (l : List Nat) (D : Ds) (v10 : Value) (wr : World) : Prop :=
  ∃ (k : Nat) (E : Ds), k ≤ l.length ∧ v10 = .int .i64 k ∧ IsRf wr b bs E ∧ fin room 0 l D = fin room k (l.drop k) E ∧ E.done ≤ D.done + k ∧ Tch [b, bs] w2 wr

set_option maxRecDepth 100000 in
set_option maxHeartbeats 2000000 in
theorem ropen_go (b bs room : Nat) (D : Ds) (w : World) (hd : IsRf w b bs D) (h1 : 1 ≤ room) (h5 : room ≤ 500) (hc : D.rcode 0 = 0) (hn : D.done + 502 < 9223372036854775807) :
    Calls Tryz.prog 16 #[.pointer (some ⟨b, 0, none⟩), .int .i64 room] w (RoPost w b bs room D) := by
  have hlen := hd.len
  have hlt := hd.lt
  have hjo : jopen room D = match rhead (D.rtext 0).data.toList room (jlen D room) with
      | none => (32, D)
      | some [] => (0, D)
      | some (a :: l) => fins room (a :: l) D := by
    unfold jopen
    rw [if_neg (by omega), if_neg (by simpa using hc)]
    rfl
  have HJO := Lib.hid hjo
  have hsz : (D.rtext 0).size ≤ 1000000 := by
    rw [show D.rtext 0 = D.rtext ((0 : Nat) : Int) from rfl, rcode_of (i := 0) hc, pad_size _ (isrf_size hd 0)]
    omega
  have HR : Hid (∀ w1, IsRf w1 b bs D → Calls Tryz.prog 28 #[.pointer (some ⟨b, 0, none⟩), .int .i64 0] w1 fun e w' => e = .returned (.tuple #[.string (D.rtext 0), .int .i64 0]) ∧ (IsRf w' b bs D ∧ Tch [] w1 w')) := fun w1 h1 => by
    have := fread b bs D 0 w1 h1
    rw [hc] at this
    exact this
  clear hjo hc
  generalize hT : D.rtext 0 = t at HR HJO hsz
  clear hT
  have e1 : decide ((room : Int) < 1) = false := by simp; omega
  have e2 : decide ((500 : Int) < (room : Int)) = false := by simp; omega
  go_enter Tryz.func16, Tryz.ntmps16
  go_wp2_with fail
  have hJ0 : IsRj (w.alloc (.cells #[.pointer (some ⟨b, 0, none⟩), .int .i64 room] 95)) w.heap.size b room := blk_new w _
  have hdA := hd.keep ((Tch.refl [] w).alloc (.cells #[.pointer (some ⟨b, 0, none⟩), .int .i64 room] 95)) (by simp) (by simp)
  have TA := (Tch.refl [b, bs] w).alloc (.cells #[.pointer (some ⟨b, 0, none⟩), .int .i64 room] 95)
  have hkb : Hid (w.heap.size ≤ w.heap.size) := Nat.le_refl w.heap.size
  have hsA : w.heap.size < (w.alloc (.cells #[.pointer (some ⟨b, 0, none⟩), .int .i64 room] 95)).heap.size := by simp
  generalize w.alloc (.cells #[.pointer (some ⟨b, 0, none⟩), .int .i64 room] 95) = WA at hJ0 hdA TA hsA ⊢
  obtain ⟨kb, hkbe⟩ : ∃ kb, kb = w.heap.size := ⟨_, rfl⟩
  have hkb2 : Hid (w.heap.size ≤ kb) := Nat.le_of_eq hkbe.symm
  rw [← hkbe] at hJ0 hsA hlt ⊢
  clear hkb hkbe hd
  refine (HR.out WA hdA).mono ?_
  rintro e w1 ⟨rfl, hd1, t1⟩
  have T1 : Tch [b, bs] w w1 := TA.trans (t1.mono (by simp))
  have hJ1 := hJ0.keep t1 (by simp)
  clear HR t1 TA hdA hJ0
  go_wp2_with fail
  refine (rjnum_any kb b bs room D t w1 hJ1 hd1 h5 hsz).mono ?_
  rintro e w2 ⟨t2, hx⟩
  have T2 : Tch [b, bs] w w2 := T1.trans (t2.mono (by simp))
  have hJ2 := hJ1.keep t2 (by simp)
  have hd2 := hd1.keep t2 (by simp) (by simp)
  have hb1 : b < w1.heap.size ∧ bs < w1.heap.size := ⟨hd1.lt.1, hd1.lt.2.1⟩
  rcases hx with ⟨hr, rfl⟩ | ⟨l, v, hr, rfl, ho⟩
  · have HF := Lib.hid (RoPost.no (w := w) (w' := w2) (b := b) (bs := bs) (room := (room : Int)) (D := D) (D' := D) (c := 32) (by rw [HJO.out, hr]) (by omega) T2 hd2)
    clear hr hd2 T2 hJ2 t2 hJ1 hd1 T1 HJO
    go_wp2_with fail
    go_ret2
    exact HF.out
  · have hlr := rhead_len hr
    have hin := (rhead_in hr).1
    obtain ⟨x, c, rfl⟩ := own_slice ho
    have HCELL : Hid (∀ wr, Tch [b, bs] w2 wr → ∀ i, i < l.length → ∃ g, x = some ⟨g, 0, none⟩ ∧ wr.cell? ⟨g, i, none⟩ = some (.int .i64 ((l.getD i 0 : Nat) : Int))) := fun wr t i hi =>
      own_nums_cell (own_keep ho t (fun k hk hm => by
        have h2 := (ho.lt k hk).1
        simp at hm
        omega)) i hi
    have HIN : Hid (∀ i, i < l.length → l.getD i 0 < 16384) := fun i hi => by
      have h2 := hin (l.getD i 0) (by rw [List.getD_eq_getElem?_getD, List.getElem?_eq_getElem hi]; exact List.getElem_mem _)
      unfold jlen at h2
      omega
    have HJN : Hid (∀ wr, Tch [b, bs] w2 wr → IsRj wr kb b room) := fun wr t => hJ2.keep t (by simp; omega)
    have HEND : Hid (∀ E, fin room 0 l D = (0, E) → jopen room D = if l.length = 0 then (0, E) else (E.wcode 0 (hdb []), E.wstate 0 (hdb []))) := fun E hE => by
      rw [HJO.out, hr]
      cases l with
      | nil => simp only [fin, Prod.mk.injEq] at hE; simp [hE.2]
      | cons a l =>
        rw [if_neg (by simp)]
        show fins room (a :: l) D = _
        unfold fins
        rw [hE, if_pos rfl, wrs_one]
    have HSTOP : Hid (∀ d E, fin room 0 l D = (d, E) → d ≠ 0 → jopen room D = (d, E)) := fun d E hE hd0 => by
      rw [HJO.out, hr]
      cases l with
      | nil => simp only [fin, Prod.mk.injEq] at hE; exact absurd hE.1.symm hd0
      | cons a l =>
        show fins room (a :: l) D = _
        unfold fins
        rw [hE, if_neg (by simpa using hd0)]
    have HT2 := Lib.hid T2
    clear hr hin ho hJ2 hJ1 hd1 T1 t2 T2 HJO
    go_wp2_with fail
    go_loopw [10] (fun v10 wr => RoRel w2 b bs room l D v10 wr) (fun v10 _ => l.length - (intOf v10).toNat)
    case atStart => exact ⟨0, D, by omega, rfl, hd2, rfl, by omega, Tch.refl _ _⟩
    case round =>
      obtain ⟨k, E, hk, rfl, hde, hf, hdn, T⟩ := hrel
      by_cases hkl : k < l.length
      · obtain ⟨g, hxg, hck⟩ := HCELL.out wr T k hkl
        have hx := HIN.out k hkl
        have hdr : l.drop k = l.getD k 0 :: l.drop (k + 1) := by
          rw [List.drop_eq_getElem_cons hkl, List.getD_eq_getElem?_getD, List.getElem?_eq_getElem hkl]; rfl
        rw [hdr, fin] at hf
        generalize l.getD k 0 = a at hck hx hf
        have HR := Lib.hid (fread b bs E ((1 + k : Nat) : Int) wr hde)
        by_cases hrc : E.rcode ((1 + k : Nat) : Int) = 0
        · rw [if_neg (by simpa using hrc)] at hf
          rw [rcode_of hrc, hrc] at HR
          have hxs := isrf_size hde (1 + k)
          generalize E.texts.getD (1 + k) ⟨#[]⟩ = y at hf HR hxs
          have HW : Hid (∀ w1, IsRf w1 b bs E → _) := fun w1 h1 => fwritep b bs E ((room + 1 + a : Nat) : Int) y w1 hxs h1 (by omega)
          rw [show (((1 + k : Nat) : Int)) = 1 + (k : Int) from by omega] at HR
          have HE := Lib.hid (wst_done E ((room + 1 + a : Nat) : Int) y).2
          by_cases hwc : E.wcode ((room + 1 + a : Nat) : Int) y = 0
          · rw [if_pos hwc] at hf
            rw [hwc] at HW
            have HF := Lib.hid hf
            clear hf hwc hrc hdr
            generalize E.wstate ((room + 1 + a : Nat) : Int) y = E2 at HW HF HE
            rw [show ((room + 1 + a : Nat) : Int) = (room : Int) + 1 + (a : Int) from by omega] at HW
            go_wp2_with fail
            refine HR.out.mono ?_
            rintro e w3 ⟨rfl, hd3, t3⟩
            have T3 := T.trans (t3.mono (L' := [b, bs]) (by simp))
            have hck3 := (t3.cell (cell_lt hck) (by simp)).trans hck
            subst hxg
            go_wp2_with fail
            refine (HW.out _ hd3).mono ?_
            rintro e w4 ⟨rfl, hd4, t4⟩
            go_wp2_with fail
            go_roundw
            case rel => exact ⟨k + 1, E2, by omega, by go_num, hd4, HF.out, by have := HE.out; omega, T3.trans t4⟩
            case measure => simp [intOf]; omega
          · rw [if_neg hwc] at hf
            have hne : (E.wcode ((room + 1 + a : Nat) : Int) y != 0) = true := by simpa using hwc
            have HF : Hid (∀ w1, IsRf w1 b bs (E.wstate ((room + 1 + a : Nat) : Int) y) → Tch [b, bs] w2 w1 → RoPost w b bs room D (.returned (.tuple #[.pointer none, .int .i64 (E.wcode ((room + 1 + a : Nat) : Int) y)])) w1) := fun w1 hd1 t1 =>
              RoPost.no (HSTOP.out _ _ hf hwc) hwc (HT2.out.trans t1) hd1
            clear hf hwc hrc hdr HE
            generalize E.wstate ((room + 1 + a : Nat) : Int) y = E2 at HW HF
            generalize E.wcode ((room + 1 + a : Nat) : Int) y = d at HW HF hne
            rw [show ((room + 1 + a : Nat) : Int) = (room : Int) + 1 + (a : Int) from by omega] at HW
            go_wp2_with fail
            refine HR.out.mono ?_
            rintro e w3 ⟨rfl, hd3, t3⟩
            have T3 := T.trans (t3.mono (L' := [b, bs]) (by simp))
            have hck3 := (t3.cell (cell_lt hck) (by simp)).trans hck
            subst hxg
            go_wp2_with fail
            refine (HW.out _ hd3).mono ?_
            rintro e w4 ⟨rfl, hd4, t4⟩
            go_wp2_with fail
            go_ret2
            exact HF.out _ hd4 (T3.trans t4)
        · rw [if_pos hrc] at hf
          have hne : (E.rcode ((1 + k : Nat) : Int) != 0) = true := by simpa using hrc
          have HF : Hid (∀ w1, IsRf w1 b bs E → Tch [b, bs] w2 w1 → RoPost w b bs room D (.returned (.tuple #[.pointer none, .int .i64 (E.rcode ((1 + k : Nat) : Int))])) w1) := fun w1 hd1 t1 =>
            RoPost.no (HSTOP.out _ _ hf hrc) hrc (HT2.out.trans t1) hd1
          clear hf hrc hdr
          generalize E.rcode ((1 + k : Nat) : Int) = d at HF HR hne
          generalize E.rtext ((1 + k : Nat) : Int) = y at HR
          rw [show (((1 + k : Nat) : Int)) = 1 + (k : Int) from by omega] at HR
          go_wp2_with fail
          refine HR.out.mono ?_
          rintro e w3 ⟨rfl, hd3, t3⟩
          go_wp2_with fail
          go_ret2
          exact HF.out _ hd3 (T.trans (t3.mono (by simp)))
      · obtain rfl : k = l.length := by omega
        rw [List.drop_length, fin] at hf
        have hje := HEND.out E hf
        by_cases hl0 : l.length = 0
        · rw [if_pos hl0] at hje
          have HF := Lib.hid (RoPost.yes (w := w) (w' := wr) (b := b) (bs := bs) (room := (room : Int)) (D := D) (D' := E) (kb := kb) hje (HT2.out.trans T) hde hkb2.out (by simpa using HJN.out wr T))
          have e3 : decide ((0 : Int) < (l.length : Int)) = false := decide_eq_false (by omega)
          have e4 : decide (0 < l.length) = false := decide_eq_false (by omega)
          clear hf hje
          go_wp2_with fail
          go_ret2
          exact HF.out
        · rw [if_neg hl0] at hje
          have HW : Hid (∀ w1, IsRf w1 b bs E → _) := fun w1 h1 => fwrite b bs E 0 (hdb []) w1 h1 (by omega)
          have e3 : decide ((0 : Int) < (l.length : Int)) = true := decide_eq_true (by omega)
          have e4 : decide (0 < l.length) = true := decide_eq_true (by omega)
          have HH := Lib.hid (rjhead_nil wr)
          by_cases hwc : E.wcode 0 (hdb []) = 0
          · rw [hwc] at hje HW
            have HF : Hid (∀ w1, IsRf w1 b bs (E.wstate 0 (hdb [])) → Tch [b, bs] w2 w1 → RoPost w b bs room D (.returned (.tuple #[.pointer (some ⟨kb, 0, none⟩), .int .i64 0])) w1) := fun w1 hd1 t1 =>
              RoPost.yes hje (HT2.out.trans t1) hd1 hkb2.out (by simpa using HJN.out w1 t1)
            clear hf hje hwc hl0
            generalize E.wstate 0 (hdb []) = E2 at HW HF
            go_wp2_with fail
            refine HH.out.mono ?_
            rintro e w3 ⟨rfl, t3⟩
            have hd3 := hde.keep t3 (by simp) (by simp)
            have T3 := T.trans (t3.mono (L' := [b, bs]) (by simp))
            go_wp2_with fail
            refine (HW.out _ hd3).mono ?_
            rintro e w4 ⟨rfl, hd4, t4⟩
            go_wp2_with fail
            go_ret2
            exact HF.out _ hd4 (T3.trans t4)
          · have hne : (E.wcode 0 (hdb []) != 0) = true := by simpa using hwc
            have HF : Hid (∀ w1, IsRf w1 b bs (E.wstate 0 (hdb [])) → Tch [b, bs] w2 w1 → RoPost w b bs room D (.returned (.tuple #[.pointer none, .int .i64 (E.wcode 0 (hdb []))])) w1) := fun w1 hd1 t1 =>
              RoPost.no hje hwc (HT2.out.trans t1) hd1
            clear hf hje hwc hl0
            generalize E.wstate 0 (hdb []) = E2 at HW HF
            generalize E.wcode 0 (hdb []) = d at HW HF hne
            go_wp2_with fail
            refine HH.out.mono ?_
            rintro e w3 ⟨rfl, t3⟩
            have hd3 := hde.keep t3 (by simp) (by simp)
            have T3 := T.trans (t3.mono (L' := [b, bs]) (by simp))
            go_wp2_with fail
            refine (HW.out _ hd3).mono ?_
            rintro e w4 ⟨rfl, hd4, t4⟩
            go_wp2_with fail
            go_ret2
            exact HF.out _ hd4 (T3.trans t4)

/-- Open, of whatever room. -/
theorem ropen_any (b bs : Nat) (room : Int) (D : Ds) (w : World) (hd : IsRf w b bs D) (hn : D.done + 502 < 9223372036854775807) :
    Calls Tryz.prog 16 #[.pointer (some ⟨b, 0, none⟩), .int .i64 room] w (RoPost w b bs room D) := by
  by_cases h : room < 1 ∨ 500 < room
  · exact ropen_arg b bs room D w hd h
  by_cases hc : D.rcode 0 = 0
  · obtain ⟨r, rfl⟩ := Int.eq_ofNat_of_zero_le (by omega : 0 ≤ room)
    exact ropen_go b bs r D w hd (by omega) (by omega) hc hn
  · exact ropen_off b bs room D w hd h hc
end Go.Proofs.YtclnhgfionfbbaaGreatDoor
