/-
  The law JournalHeads, walked: for every head and every copies it answers true and turns nothing that was there.
-/
import Derived.Test.YtclnhgfionfbbaaDoorRooms
import Derived.Test.YtclnhgfionfbbaaDoorRowsIn
namespace Go.Proofs.YtclnhgfionfbbaaDoor
open Go.RowKit
set_option linter.unusedVariables false

theorem wst_on {D : Ds} (i : Int) (x : ByteArray) (h : D.on = true) (hl : D.left = -1) : (D.wstate i x).on = true ∧ (D.wstate i x).left = -1 := by
  unfold Ds.wstate
  split
  · exact ⟨h, hl⟩
  · split
    · exact ⟨h, hl⟩
    · split
      · exact ⟨h, hl⟩
      · split
        · omega
        · exact ⟨h, by simp [tk, hl]⟩
/-- Whatever stands on a disk: Open refuses its head, or brings the copies to their sectors. -/
theorem heads_open {D : Ds} {room n : Nat} (hon : D.on = true) (hl : D.left = -1) (hlen : D.texts.length = room + 1 + n) (h1 : 1 ≤ room) (hr : room ≤ 500) (h6 : n ≤ 16384) (hsz : ∀ j, (D.texts.getD j ⟨#[]⟩).size ≤ 1024) :
    jopen room D = (32, D) ∨ ∃ E, jopen room D = (0, E) ∧ jopen room E = (0, E) ∧ (E.done = D.done ∨ D.done + 2 ≤ E.done ∧ E.done ≤ D.done + room + 1) := by
  have hrt : D.rtext 0 = pad (D.texts.getD 0 ⟨#[]⟩) := (rd_in (D := D) (i := 0) hon (by omega) (by omega)).2
  have hrc : D.rcode 0 = 0 := (rd_in (D := D) (i := 0) hon (by omega) (by omega)).1
  have hjl : jlen D room = n := by unfold jlen; omega
  cases hh : rhead (pad (D.texts.getD 0 ⟨#[]⟩)).data.toList room n with
  | none =>
    left
    unfold jopen
    rw [if_neg (by omega), if_neg (by rw [hrc]; simp), hrt, Int.toNat_natCast, hjl, hh]
  | some l =>
    right
    have hs : Seen D room l ((List.range n).map fun i => cont D room l i) := by
      refine ⟨by simp [hlen], by simpa using hh, fun i hi => ?_⟩
      simp only [List.length_map, List.length_range] at hi
      rw [List.getD_eq_getElem?_getD, List.getElem?_map, List.getElem?_range hi]
      rfl
    have := jopen_seen hon hs h1 hr (by simpa using h6) hsz
    obtain ⟨b1, b2, b3⟩ := this.2 hl
    have hll := hs.nums.1
    rcases this.1 with ⟨_, o, s⟩ | ⟨c, _⟩
    · refine ⟨(jopen room D).2, Prod.ext b1 rfl, jopen_seen0 o s h1 hr, ?_⟩
      rw [b3]
      by_cases hl0 : l = []
      · rw [if_pos hl0]; left; omega
      · rw [if_neg hl0]
        have := List.length_pos_iff.2 hl0
        right; omega
    · omega

theorem isds_pos {w : World} {b bs : Nat} {D : Ds} (h : IsDs w b bs D) : 0 ≤ D.done := by
  obtain ⟨S, hd, hm, ho, hl, hs, k1, h2, h3, h4, h5, _⟩ := h
  exact h5
theorem open_yes (b bs room : Nat) (D E : Ds) (w : World) (hd : IsDs w b bs D) (hn : D.done + 502 < 9223372036854775807) (hjo : jopen room D = (0, E)) :
    Calls Tryd.prog 11 #[.pointer (some ⟨b, 0, none⟩), .int .i64 room] w fun e w' => ∃ jb, e = .returned (.tuple #[.pointer (some ⟨jb, 0, none⟩), .int .i64 0]) ∧ (w.heap.size ≤ jb ∧ IsJn w' jb b room ∧ IsDs w' b bs E ∧ Tch [b, bs] w w') := by
  refine (open_any b bs room D w hd hn).mono ?_
  rintro e w' ⟨t, hd', hx⟩
  rw [hjo] at hd' hx
  rcases hx with ⟨_, jb, he, hj, hjn⟩ | ⟨hne, _⟩
  · exact ⟨jb, he, hj, by simpa using hjn, hd', t⟩
  · exact absurd rfl hne
/-- What holds at the head of each round. -/
def HdRel (w : World) (B len : Nat) (v6 : Value) (wr : World) : Prop :=
  ∃ (k : Nat) (D : Ds), k ≤ len ∧ k ≤ 4 ∧ v6 = .int .i64 k ∧ IsDs wr (B + 1) B D ∧ D.on = true ∧ D.left = -1 ∧ D.texts.length = 20 ∧ D.done ≤ 1 + k ∧ Tch [] w wr

set_option maxRecDepth 100000 in
set_option maxHeartbeats 2000000 in
theorem heads_walk (h : ByteArray) (a : Option Addr) (len cap : Nat) (ss : List ByteArray) (w : World) (hw : IsStrs w a len cap ss) :
    Calls Tryd.prog 6 #[.string h, .slice a len cap] w fun e w' => e = .returned (.bool true) ∧ Tch [] w w' := by
  have HW := Lib.hid (jwakes_any w)
  have HN := Lib.hid (fun w1 => dnew 20 w1 (by omega) (by omega))
  rw [show many 20 = 20 from rfl] at HN
  go_enter Tryd.func6, Tryd.ntmps6
  go_wp2_with fail
  refine HW.out.mono ?_
  rintro e w1 ⟨rfl, t1⟩
  go_wp2_with fail
  refine (HN.out w1).mono ?_
  rintro e w2 ⟨rfl, hd2, t2⟩
  have hb1 : w.heap.size ≤ w1.heap.size := t1.size
  have hlt := hd2.lt
  have T2 := t1.trans t2
  clear HW HN t1 t2
  generalize w1.heap.size = B at hd2 hb1 hlt ⊢
  have HX := Lib.hid (dwrite (B + 1) B (freshD 20) 0 h w2 hd2 (by simp [freshD]))
  have hwo := wst_on (D := freshD 20) 0 h rfl rfl
  have hwl := wst_len (freshD 20) 0 h
  have hwd := (wst_done (freshD 20) 0 h).2
  rw [show (freshD 20).done = 0 from rfl] at hwd
  rw [show (freshD 20).texts.length = 20 from by simp [freshD]] at hwl
  generalize (freshD 20).wstate 0 h = D1 at HX hwo hwl hwd
  generalize (freshD 20).wcode 0 h = c1 at HX
  have HD1 := Lib.hid (And.intro hwo (And.intro hwl hwd))
  clear hwo hwl hwd
  go_wp2_with fail
  refine HX.out.mono ?_
  rintro e w3 ⟨rfl, hd3, t3⟩
  have T3 := T2.transNew t3 (by simp; omega)
  clear HX t3 hd2
  go_wp2_with fail
  go_loopw [6] (fun v6 wr => HdRel w B len v6 wr) (fun v6 _ => 4 - (intOf v6).toNat)
  case atStart => exact ⟨0, D1, by omega, by omega, rfl, hd3, HD1.out.1.1, HD1.out.1.2, HD1.out.2.1, by have := HD1.out.2.2; omega, T3⟩
  case round =>
    obtain ⟨k, D, hk, hk4, rfl, hd, hon, hle, hlen, hdn, T⟩ := hrel
    by_cases hkl : k < len ∧ k < 4
    · obtain ⟨hkl, hk5⟩ := hkl
      obtain ⟨ab, ao, rfl, hab, hlz, hlm2, hc, hwf⟩ := hw.at_ (by omega)
      have hck := hc k (by omega)
      rw [← T.cell hab (by simp)] at hck
      generalize ss.getD k ByteArray.empty = t at hck
      have HX := Lib.hid (dwrite (B + 1) B D (1 + (k : Int)) t wr hd (by omega))
      have hwo := wst_on (D := D) (1 + (k : Int)) t hon hle
      have hwl := wst_len D (1 + (k : Int)) t
      have hwd := (wst_done D (1 + (k : Int)) t).2
      rw [hlen] at hwl
      generalize D.wstate (1 + (k : Int)) t = D2 at HX hwo hwl hwd
      generalize D.wcode (1 + (k : Int)) t = c2 at HX
      have HD2 : Hid (D2.on = true ∧ D2.left = -1 ∧ D2.texts.length = 20 ∧ D2.done ≤ 1 + ((k + 1 : Nat) : Int)) := ⟨hwo.1, hwo.2, hwl, by omega⟩
      unfold maxLen at hlm2
      have hkl2 : decide (k < len) = true := by simpa using hkl
      have hk6 : (k : Int) < 4 := by omega
      have hkl3 : (k : Int) < (len : Int) := by omega
      clear hwo hwl hwd hon hle hlen hdn hc hwf hd
      go_wp2_with (first | (go_at_call 20; refine HX.out.mono ?_; rintro e w5 ⟨rfl, hd5, t5⟩))
      go_roundw
      case rel => exact ⟨k + 1, D2, by omega, by omega, by go_num, hd5, HD2.out.1, HD2.out.2.1, HD2.out.2.2.1, HD2.out.2.2.2, T.transNew t5 (by simp; omega)⟩
      case measure => simp [intOf]; omega
    · have HWR : Hid (∀ w1, IsDs w1 (B + 1) B D → _) := fun w1 h1 => dwrites (B + 1) B D w1 h1 (by omega)
      have hst : ∀ (P : Prop) [Decidable P], P → decide P = true := fun P _ hp => by simpa using hp
      have hO := heads_open (D := D) (room := 4) (n := 15) hon hle (by omega) (by omega) (by omega) (by omega) (seen_size hd)
      clear hst
      have hlo : decide (k < len) = false ∨ decide ((k : Int) < 4) = false := by
        by_cases h1 : k < len
        · right; simp; omega
        · left; simpa using h1
      rcases hO with hO | ⟨E, hO, hO2, hdn2⟩
      · have HO := Lib.hid (open_no (B + 1) B 4 32 D wr hd (by omega) hO (by omega))
        have HWR0 := Lib.hid (HWR.out wr hd)
        clear hO hlen hon hle
        by_cases h1 : k < len
        · have e1 : decide (k < len) = true := by simpa using h1
          have e2 : decide ((k : Int) < 4) = false := by simp; omega
          clear hkl hlo h1
          go_wp2_with (first | (go_at_call 19; refine HWR0.out.mono ?_; rintro e w5 ⟨rfl, rfl⟩))
          refine HO.out.mono ?_
          rintro e w5 ⟨rfl, hd5, t5⟩
          have HWR5 := Lib.hid (HWR.out w5 hd5)
          go_wp2_with (first | (go_at_call 19; refine HWR5.out.mono ?_; rintro e w6 ⟨rfl, rfl⟩))
          go_ret
          refine ⟨?_, T.transNew t5 (by simp; omega)⟩
          rfl
        · have e1 : decide (k < len) = false := by simpa using h1
          clear hkl hlo h1
          go_wp2_with (first | (go_at_call 19; refine HWR0.out.mono ?_; rintro e w5 ⟨rfl, rfl⟩))
          refine HO.out.mono ?_
          rintro e w5 ⟨rfl, hd5, t5⟩
          have HWR5 := Lib.hid (HWR.out w5 hd5)
          go_wp2_with (first | (go_at_call 19; refine HWR5.out.mono ?_; rintro e w6 ⟨rfl, rfl⟩))
          go_ret
          refine ⟨?_, T.transNew t5 (by simp; omega)⟩
          rfl
      · have hpos := isds_pos hd
        have HO := Lib.hid (open_yes (B + 1) B 4 D E wr hd (by omega) hO)
        have HO2 := Lib.hid hO2
        have HWR0 := Lib.hid (HWR.out wr hd)
        have HWE : Hid (∀ w1, IsDs w1 (B + 1) B E → _) := fun w1 h1 => dwrites (B + 1) B E w1 h1 (by omega)
        have f1 : ((E.done - D.done) == 1) = false := by simp; omega
        have f2 : decide (5 < E.done - D.done) = false := by simp; omega
        have f3 : 0 ≤ E.done ∧ E.done ≤ 20 := by omega
        obtain ⟨f3, f4⟩ := f3
        have f5 : D.done ≤ 5 := by omega
        clear hO hO2 hlen hon hle hdn2 hd
        by_cases h1 : k < len
        · have e1 : decide (k < len) = true := by simpa using h1
          have e2 : decide ((k : Int) < 4) = false := by simp; omega
          clear hkl hlo h1
          go_wp2_with (first | (go_at_call 19; refine HWR0.out.mono ?_; rintro e w5 ⟨rfl, rfl⟩))
          refine HO.out.mono ?_
          rintro e w5 ⟨jb, rfl, hjb, hJ5, hd5, t5⟩
          have T5 := T.transNew t5 (by simp; omega)
          have HWR5 := Lib.hid (HWE.out w5 hd5)
          have HO5 := Lib.hid (open_same (B + 1) B 4 E w5 hd5 (by omega) HO2.out)
          go_wp2_with (first | (go_at_call 19; refine HWR5.out.mono ?_; rintro e w6 ⟨rfl, rfl⟩))
          refine HO5.out.mono ?_
          rintro e w6 ⟨jb2, rfl, hjb2, hJ6, hd6, t6⟩
          have HWR6 := Lib.hid (HWE.out w6 hd6)
          go_wp2_with (first | (go_at_call 19; refine HWR6.out.mono ?_; rintro e w7 ⟨rfl, rfl⟩))
          go_ret
          refine ⟨?_, T5.transNew t6 (by simp; omega)⟩
          rfl
        · have e1 : decide (k < len) = false := by simpa using h1
          clear hkl hlo h1
          go_wp2_with (first | (go_at_call 19; refine HWR0.out.mono ?_; rintro e w5 ⟨rfl, rfl⟩))
          refine HO.out.mono ?_
          rintro e w5 ⟨jb, rfl, hjb, hJ5, hd5, t5⟩
          have T5 := T.transNew t5 (by simp; omega)
          have HWR5 := Lib.hid (HWE.out w5 hd5)
          have HO5 := Lib.hid (open_same (B + 1) B 4 E w5 hd5 (by omega) HO2.out)
          go_wp2_with (first | (go_at_call 19; refine HWR5.out.mono ?_; rintro e w6 ⟨rfl, rfl⟩))
          refine HO5.out.mono ?_
          rintro e w6 ⟨jb2, rfl, hjb2, hJ6, hd6, t6⟩
          have HWR6 := Lib.hid (HWE.out w6 hd6)
          go_wp2_with (first | (go_at_call 19; refine HWR6.out.mono ?_; rintro e w7 ⟨rfl, rfl⟩))
          go_ret
          refine ⟨?_, T5.transNew t6 (by simp; omega)⟩
          rfl
end Go.Proofs.YtclnhgfionfbbaaDoor
