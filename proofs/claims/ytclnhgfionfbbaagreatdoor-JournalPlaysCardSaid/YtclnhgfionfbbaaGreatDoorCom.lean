/-
  'Commit' of package journal: what it answers and what the disk holds behind it. Conditions: the journal is one that Open makes, over a disk; the count of writes stays below the greatest int64.
-/
import Derived.Test.YtclnhgfionfbbaaGreatDoorSec
import Derived.Test.YtclnhgfionfbbaaGreatDoorJp
namespace Go.Proofs.YtclnhgfionfbbaaGreatDoor
open Go.RowKit
set_option linter.unusedVariables false

/-- What Commit answers and leaves. -/
def CmPost (w : World) (b bs room : Nat) (cs : List (Int × ByteArray)) (D : Ds) (e : Ending) (w' : World) : Prop :=
  e = .returned (.int .i64 (jcommit room cs D).1) ∧ IsDs w' b bs (jcommit room cs D).2 ∧ Tch [b, bs] w w'

/-- What holds at the head of each round. -/
def CmRel (w : World) (b bs : Nat) (cs : List (Int × ByteArray)) (D : Ds) (v36 : Value) (wr : World) : Prop :=
  ∃ (k : Nat) (E : Ds), k ≤ cs.length ∧ v36 = .int .i64 k ∧ IsDs wr b bs E ∧ wrs (cps 0 cs) D = wrs (cps k (cs.drop k)) E ∧ E.done ≤ D.done + k ∧ E.texts.length = D.texts.length ∧ Tch [b, bs] w wr

theorem commit_nil (a : Option Addr) (len cap : Nat) (w : World) :
    Calls Tryz.prog 13 #[.pointer none, .slice a len cap] w fun e w' => e = .returned (.int .i64 1) ∧ w = w' := by
  go_enter Tryz.func13, Tryz.ntmps13
  go_wp2_with fail
  go_ret
  exact ⟨rfl, rfl⟩

theorem Tch.sub {L M : List Nat} {w w' : World} (h : Tch L w w') (hL : ∀ k ∈ L, k ∈ M) : Tch M w w' := h.mono hL

theorem commit_big (jb b bs room : Nat) (D : Ds) (a : Option Addr) (cap cb o : Nat) (cs : List (Int × ByteArray)) (w : World) (h : IsJn w jb b room) (hd0 : IsDs w b bs D) (hr : room ≤ 500) (hlm : cs.length ≤ 9223372036854775807) (hbig : room < cs.length) :
    Calls Tryz.prog 13 #[.pointer (some ⟨jb, 0, none⟩), .slice a cs.length cap] w (CmPost w b bs room cs D) := by
  have c1 := h.c1
  have HF : Hid (CmPost w b bs room cs D (.returned (.int .i64 31)) w) := by
    have e : jcommit room cs D = (31, D) := by unfold jcommit; rw [if_pos (by omega)]
    show CmPost _ _ _ _ _ _ _ _
    unfold CmPost; rw [e]; exact ⟨rfl, hd0, Tch.refl _ _⟩
  have hb1 : decide (room < cs.length) = true := by simpa using hbig
  clear hd0 hbig
  go_enter Tryz.func13, Tryz.ntmps13
  go_wp2_with fail
  go_ret
  exact HF.out

theorem commit_ref (jb b bs room : Nat) (D : Ds) (a : Option Addr) (cap cb o : Nat) (cs : List (Int × ByteArray)) (w : World) (h : IsJn w jb b room) (hd0 : IsDs w b bs D) (hr : room ≤ 500) (hw : IsChs w a cs.length cb o cs) (hbig : ¬ room < cs.length) (hck : ckc (jlen D room) cs [] ≠ 0) :
    Calls Tryz.prog 13 #[.pointer (some ⟨jb, 0, none⟩), .slice a cs.length cap] w (CmPost w b bs room cs D) := by
  have c1 := h.c1
  have hb1 : decide (room < cs.length) = false := by simpa using hbig
  have HF : Hid (∀ w1, Tch [] w w1 → CmPost w b bs room cs D (.returned (.int .i64 (ckc (jlen D room) cs []))) w1) := fun w1 t1 => by
    have e : jcommit room cs D = (ckc (jlen D room) cs [], D) := by unfold jcommit; rw [if_neg (by omega), if_pos (Or.inl hck)]
    unfold CmPost; rw [e]; exact ⟨rfl, hd0.keep t1 (by simp) (by simp), t1.mono (by simp)⟩
  have hne : (ckc (jlen D room) cs [] != 0) = true := by simpa using hck
  have HS : Hid (Calls Tryz.prog 34 #[.pointer (some ⟨jb, 0, none⟩), .slice a cs.length cap] w fun e w' => e = .returned (.tuple #[.slice none 0 0, .int .i64 (ckc (jlen D room) cs [])]) ∧ Tch [] w w') := (sec_any jb b bs room D a cs.length cap cb o cs w h hd0 hr hw (by omega)).mono (fun e w' ⟨t, hx⟩ => by
    rcases hx with ⟨_, he⟩ | ⟨h0, _⟩
    · exact ⟨he, t⟩
    · exact absurd h0 hck)
  have hl5 : cs.length ≤ 500 := by omega
  clear hd0 hw hbig hck
  generalize ckc (jlen D room) cs [] = c at HF HS hne
  go_enter Tryz.func13, Tryz.ntmps13
  go_wp2_with (first | (go_at_call 34; refine HS.out.mono ?_; rintro e w1 ⟨rfl, t1⟩))
  go_ret
  exact HF.out _ t1

theorem sec_ok (jb b bs room : Nat) (D : Ds) (a : Option Addr) (cap cb o : Nat) (cs : List (Int × ByteArray)) (w : World) (h : IsJn w jb b room) (hd0 : IsDs w b bs D) (hr : room ≤ 500) (hw : IsChs w a cs.length cb o cs) (hbig : ¬ room < cs.length) (hck : ckc (jlen D room) cs [] = 0) :
    Calls Tryz.prog 34 #[.pointer (some ⟨jb, 0, none⟩), .slice a cs.length cap] w fun e w' => ∃ x n c, e = .returned (.tuple #[.slice x n c, .int .i64 0]) ∧ n = cs.length ∧ w'.ownsRow w.heap.size 3 1 (.slice x n c) (ats cs).length ((ats cs).map fun a : Nat => Value.int .i64 (a : Int)) ∧ Tch [] w w' :=
  (sec_any jb b bs room D a cs.length cap cb o cs w h hd0 hr hw (by omega)).mono (fun e w' ⟨t, hx⟩ => by
    rcases hx with ⟨h0, _⟩ | ⟨_, v, he, ho⟩
    · exact absurd hck h0
    · have hal : (ats cs).length = cs.length := by unfold ats; simp
      rcases ho.2 with ⟨rfl, h2⟩ | ⟨g, c, cur, rfl, _⟩
      · exact ⟨none, 0, 0, he, by omega, ho, t⟩
      · exact ⟨_, _, _, he, hal, ho, t⟩)

theorem commit_none (jb b bs room : Nat) (D : Ds) (a : Option Addr) (cap cb o : Nat) (w : World) (h : IsJn w jb b room) (hd0 : IsDs w b bs D) (hr : room ≤ 500) (hw : IsChs w a ([] : List (Int × ByteArray)).length cb o []) :
    Calls Tryz.prog 13 #[.pointer (some ⟨jb, 0, none⟩), .slice a 0 cap] w (CmPost w b bs room [] D) := by
  have c1 := h.c1
  have HF : Hid (∀ w1, Tch [] w w1 → CmPost w b bs room [] D (.returned (.int .i64 0)) w1) := fun w1 t1 => by
    have e : jcommit room [] D = (0, D) := by unfold jcommit; rw [if_neg (by simp), if_pos (Or.inr rfl)]; rfl
    unfold CmPost; rw [e]; exact ⟨rfl, hd0.keep t1 (by simp) (by simp), t1.mono (by simp)⟩
  have HS := Lib.hid (sec_ok jb b bs room D a cap cb o [] w h hd0 hr hw (by simp) rfl)
  clear hd0 hw
  go_enter Tryz.func13, Tryz.ntmps13
  go_wp2_with fail
  refine HS.out.mono ?_
  rintro e w1 ⟨x, n, c, rfl, rfl, ho, t1⟩
  clear ho
  simp only [List.length_nil]
  go_wp2_with fail
  go_ret
  exact HF.out _ t1

set_option maxRecDepth 100000 in
set_option maxHeartbeats 1000000 in
theorem commit_go (jb b bs room : Nat) (D : Ds) (a : Option Addr) (cap cb o : Nat) (cs : List (Int × ByteArray)) (w : World) (h : IsJn w jb b room) (hd0 : IsDs w b bs D) (hj : jb ≠ b ∧ jb ≠ bs) (hr : room ≤ 500) (hw : IsChs w a cs.length cb o cs) (hcb : cb ≠ b ∧ cb ≠ bs)
    (hn : D.done + 1002 < 9223372036854775807) (hbig : ¬ room < cs.length) (hck : ckc (jlen D room) cs [] = 0) (hcs : cs ≠ []) :
    Calls Tryz.prog 13 #[.pointer (some ⟨jb, 0, none⟩), .slice a cs.length cap] w (CmPost w b bs room cs D) := by
  have hj2 : jb ∉ [b, bs] := by simp; exact hj
  have hcb2 : cb ∉ [b, bs] := by simp; exact hcb
  have c0 := h.c0
  have c1 := h.c1
  have hlen := hd0.len
  have hlt := hd0.lt
  have hjlt := h.lt
  have hpos : 0 < cs.length := List.length_pos_iff.2 hcs
  have hl5 : cs.length ≤ 500 := by omega
  have hb1 : decide (room < cs.length) = false := by simpa using hbig
  have hb2 : ((cs.length : Int) == 0) = false := by simp; exact hcs
  have HE : Hid (jcommit room cs D = wrs (cws room cs) D) := by show _ = _; unfold jcommit; rw [if_neg (by omega), if_neg (by simp [hck, hcs])]
  have HIN := Lib.hid (ckc_in _ cs [] hck)
  have hjl : 0 < jlen D room := by
    obtain ⟨p, hp⟩ := List.exists_mem_of_ne_nil cs hcs
    have := HIN.out p hp
    omega
  have HRL : Hid (room + 1 ≤ D.texts.length) := by show _ ≤ _; unfold jlen at hjl; omega
  have HS := Lib.hid (sec_ok jb b bs room D a cap cb o cs w h hd0 hr hw hbig hck)
  have HCH : Hid (∀ wr, Tch [b, bs] w wr → IsChs wr a cs.length cb o cs) := fun wr t => hw.keep t hcb2
  have HJN : Hid (∀ wr, Tch [b, bs] w wr → IsJn wr jb b room) := fun wr t => h.keep t hj2
  have hla : a = some ⟨cb, o, none⟩ := by
    rcases hw.at_ with h1 | ⟨h1, _⟩
    · omega
    · exact h1
  subst hla
  have hlr : cs.length ≤ room := by omega
  clear hw h hbig hck hcs hjl
  go_enter Tryz.func13, Tryz.ntmps13
  go_wp2_with fail
  refine HS.out.mono ?_
  rintro e w1 ⟨x, n, c, rfl, rfl, ho, t1⟩
  have hd1 := hd0.keep t1 (by simp) (by simp)
  have T1 : Tch [b, bs] w w1 := t1.mono (by simp)
  have hvb : Hid (∀ k, (Value.slice x cs.length c).ownBlock = some k → k ∉ [b, bs]) := fun k hk hm => by
    have := (ho.lt k hk).1
    simp at hm
    omega
  have HN1 : Hid (IsNums w1 (.slice x cs.length c) (ats cs)) := own_base ho (Nat.zero_le _)
  clear ho t1 hd0 HS
  go_wp2_with fail
  go_loopw [36] (fun v36 wr => CmRel w1 b bs cs D v36 wr) (fun v36 _ => cs.length - (intOf v36).toNat)
  case atStart => exact ⟨0, D, by omega, rfl, hd1, rfl, by omega, rfl, Tch.refl _ _⟩
  case round =>
    obtain ⟨k, E, hk, rfl, hd, hf, hdn, htl, T⟩ := hrel
    by_cases hkl : k < cs.length
    · have TW := T1.trans T
      obtain ⟨x0, x1⟩ := (HCH.out wr TW).row k cs[k] (List.getElem?_eq_getElem hkl)
      have hdr : cs.drop k = cs[k] :: cs.drop (k + 1) := List.drop_eq_getElem_cons hkl
      rw [hdr, cps, wrs] at hf
      simp only at hf
      have hxs := (HIN.out cs[k] (List.getElem_mem hkl)).2.2
      generalize cs[k] = cc at x0 x1 hf hxs
      obtain ⟨i, y⟩ := cc
      simp only at x0 x1 hf hxs
      clear hdr
      have hJA : IsJn (wr.alloc (.cells #[.int .i64 i, .string y] 65)) jb b room := HJN.out _ (TW.alloc _)
      have hdA := hd.keep ((Tch.refl [] wr).alloc (.cells #[.int .i64 i, .string y] 65)) (by simp) (by simp)
      have TA := T.alloc (.cells #[.int .i64 i, .string y] 65)
      have hb := blk_new wr (.cells #[.int .i64 i, .string y] 65)
      have y1 : (wr.alloc (.cells #[.int .i64 i, .string y] 65)).cell? ⟨wr.heap.size, 1, none⟩ = some (.string y) := blk_cell hb 1
      have HW : Hid (∀ w1, IsDs w1 b bs E → _) := fun w1 h1 => dwrite b bs E ((1 + k : Nat) : Int) y w1 h1 (by omega)
      have HD := Lib.hid (wst_done E ((1 + k : Nat) : Int) y).2
      have HL := Lib.hid (wst_len E ((1 + k : Nat) : Int) y)
      clear hd
      by_cases hwc : E.wcode ((1 + k : Nat) : Int) y = 0
      · rw [if_pos hwc] at hf
        rw [hwc] at HW
        have HF := Lib.hid hf
        clear hf hwc
        generalize E.wstate ((1 + k : Nat) : Int) y = E2 at HW HF HD HL
        rw [show ((1 + k : Nat) : Int) = 1 + (k : Int) from by omega] at HW
        go_wp2_with fail
        generalize wr.alloc (.cells #[.int .i64 i, .string y] 65) = WA at hJA hdA TA hb y1 ⊢
        generalize wr.heap.size = p at hb y1 ⊢
        have q0 := hJA.c0
        have hd2 : IsDs WA.drew b bs E := hdA.keep (Tch.refl [] WA).drew (by simp) (by simp)
        have hwr : IntKind.i64.wrap (1 + (k : Int)) = 1 + (k : Int) := IntWalk.i64_in _ (by omega)
        clear hb hdA
        go_region_with (first | (go_at_call 24; refine (HW.out _ hd2).mono ?_; rintro e w2 ⟨rfl, hd3, t3⟩))
        all_goals
          clear hwr
          go_wp2
          go_roundw
          case rel => exact ⟨k + 1, E2, by omega, by go_num, hd3, HF.out, by have := HD.out; omega, by rw [HL.out]; exact htl, TA.drew.trans t3⟩
          case measure => simp [intOf]; omega
      · rw [if_neg hwc] at hf
        have hne : (E.wcode ((1 + k : Nat) : Int) y != 0) = true := by simpa using hwc
        have HF : Hid (∀ w2, IsDs w2 b bs (E.wstate ((1 + k : Nat) : Int) y) → Tch [b, bs] w w2 → CmPost w b bs room cs D (.returned (.int .i64 (E.wcode ((1 + k : Nat) : Int) y))) w2) := fun w2 hd2 t2 => by
          have e : jcommit room cs D = (E.wcode ((1 + k : Nat) : Int) y, E.wstate ((1 + k : Nat) : Int) y) := by
            rw [HE.out, cws, wrs_app, hf, if_neg hwc]
          unfold CmPost; rw [e]; exact ⟨rfl, hd2, t2⟩
        clear hf hwc HD HL
        generalize E.wstate ((1 + k : Nat) : Int) y = E2 at HW HF
        generalize E.wcode ((1 + k : Nat) : Int) y = d at HW HF hne
        rw [show ((1 + k : Nat) : Int) = 1 + (k : Int) from by omega] at HW
        go_wp2_with fail
        generalize wr.alloc (.cells #[.int .i64 i, .string y] 65) = WA at hJA hdA TA hb y1 ⊢
        generalize wr.heap.size = p at hb y1 ⊢
        have q0 := hJA.c0
        have hd2 : IsDs WA.drew b bs E := hdA.keep (Tch.refl [] WA).drew (by simp) (by simp)
        have hwr : IntKind.i64.wrap (1 + (k : Int)) = 1 + (k : Int) := IntWalk.i64_in _ (by omega)
        clear hb hdA
        go_region_with (first | (go_at_call 24; refine (HW.out _ hd2).mono ?_; rintro e w2 ⟨rfl, hd3, t3⟩))
        all_goals
          clear hwr
          go_wp2
          go_ret
          exact HF.out _ hd3 (T1.trans (TA.drew.trans t3))
    · obtain rfl : k = cs.length := by omega
      rw [List.drop_length, cps, wrs] at hf
      have hcg := cps_get cs 0 D (by rw [hf])
      rw [hf] at hcg
      simp only [Nat.zero_add] at hcg
      have HON : Hid (E.on = true) := hcg.2.2 (by intro h0; rw [h0] at hpos; simp at hpos)
      have HCG := Lib.hid hcg.1
      have TW := T1.trans T
      have hJ := HJN.out wr TW
      have hN := HN1.out.keep T hvb.out
      have q0 := hJ.c0
      have HA5 : Hid (∀ y ∈ ats cs, y < 16384) := fun y hy => by
        unfold ats at hy
        obtain ⟨p, hp, rfl⟩ := List.mem_map.1 hy
        have h1 := HIN.out p hp
        have h2 : jlen D room ≤ 16384 := by unfold jlen; omega
        omega
      have hal : (ats cs).length = cs.length := by unfold ats; simp
      have HAL := Lib.hid hal
      clear hal
      have hd2 : IsDs wr.drew b bs E := hd.keep (Tch.refl [] wr).drew (by simp) (by simp)
      have hN2 : IsNums wr.drew (.slice x cs.length c) (ats cs) := hN.keep (Tch.refl [] wr).drew (by simp)
      have HO := Lib.hid (headOf_any (.slice x cs.length c) (ats cs) wr.drew hN2 (by rw [HAL.out]; omega) (fun y hy => by have := HA5.out y hy; omega))
      have HW : Hid (∀ w1, IsDs w1 b bs E → _) := fun w1 h1 => dwrite b bs E 0 (hdb (ats cs)) w1 h1 (by omega)
      have HD := Lib.hid (wst_done E 0 (hdb (ats cs))).2
      have HF0 := Lib.hid hf
      clear hf hcg hd hN2
      by_cases hwc : E.wcode 0 (hdb (ats cs)) = 0
      · have HF : Hid (jcommit room cs D = fins room (ats cs) (E.wstate 0 (hdb (ats cs)))) := by
          show _ = _
          rw [fins_cws room cs _ (wz_on hwc) (by rw [wst_len, htl]; exact HRL.out) (by omega) (fun j hj => by rw [wz_get hwc, if_neg (by omega)]; exact HCG.out j hj)]
          rw [HE.out, cws, wrs_app, HF0.out, if_pos rfl, wrs]
          simp only
          rw [if_pos hwc]
        rw [hwc] at HW
        clear hwc
        generalize E.wstate 0 (hdb (ats cs)) = E2 at HW HF HD
        go_wp2_with fail
        go_region_with (first | (go_at_call 35; refine HO.out.mono ?_; rintro e w2 ⟨rfl, t2⟩; have hd3 := hd2.keep t2 (by simp) (by simp); have q1 := (hJ.keep (Tch.refl [] wr).drew (by simp)).keep t2 (by simp) |>.c0) | (go_at_call 24; refine (HW.out _ hd3).mono ?_; rintro e w3 ⟨rfl, hd4, t4⟩))
        all_goals
          have T4 : Tch [b, bs] w w3 := (TW.drew.trans (t2.mono (by simp))).trans t4
          have T14 : Tch [b, bs] w1 w3 := (T.drew.trans (t2.mono (by simp))).trans t4
          have HFN := Lib.hid (fin_any jb b bs room E2 (.slice x cs.length c) (ats cs) w3 (HJN.out _ T4) hd4 hj hr (HN1.out.keep T14 hvb.out) hvb.out (by rw [HAL.out]; omega) HA5.out (by have := HD.out; omega))
          go_wp2_with (first | (go_at_call 31; refine HFN.out.mono ?_; rintro e w5 ⟨rfl, hd5, t5⟩))
          go_ret
          refine ⟨?_, ?_, T4.trans t5⟩
          · rw [HF.out]; rfl
          · rw [HF.out]; exact hd5
      · have hne : (E.wcode 0 (hdb (ats cs)) != 0) = true := by simpa using hwc
        have HF : Hid (∀ w2, IsDs w2 b bs (E.wstate 0 (hdb (ats cs))) → Tch [b, bs] w w2 → CmPost w b bs room cs D (.returned (.int .i64 (E.wcode 0 (hdb (ats cs))))) w2) := fun w2 hd2 t2 => by
          have e : jcommit room cs D = (E.wcode 0 (hdb (ats cs)), E.wstate 0 (hdb (ats cs))) := by
            rw [HE.out, cws, wrs_app, HF0.out, if_pos rfl, wrs]
            simp only
            rw [if_neg hwc]
          unfold CmPost; rw [e]; exact ⟨rfl, hd2, t2⟩
        clear hwc
        generalize E.wstate 0 (hdb (ats cs)) = E2 at HW HF
        generalize E.wcode 0 (hdb (ats cs)) = d at HW HF hne
        go_wp2_with fail
        go_region_with (first | (go_at_call 35; refine HO.out.mono ?_; rintro e w2 ⟨rfl, t2⟩; have hd3 := hd2.keep t2 (by simp) (by simp); have q1 := (hJ.keep (Tch.refl [] wr).drew (by simp)).keep t2 (by simp) |>.c0) | (go_at_call 24; refine (HW.out _ hd3).mono ?_; rintro e w3 ⟨rfl, hd4, t4⟩))
        all_goals
          go_wp2
          go_ret
          exact HF.out _ hd4 ((TW.drew.trans (t2.mono (by simp))).trans t4)

/-- Commit, of whatever changes. -/
theorem commit_any (jb b bs room : Nat) (D : Ds) (a : Option Addr) (len cap cb o : Nat) (cs : List (Int × ByteArray)) (w : World) (h : IsJn w jb b room) (hd0 : IsDs w b bs D) (hj : jb ≠ b ∧ jb ≠ bs) (hr : room ≤ 500) (hw : IsChs w a len cb o cs) (hcb : 0 < len → cb ≠ b ∧ cb ≠ bs) (hlm : len ≤ 9223372036854775807)
    (hn : D.done + 1002 < 9223372036854775807) :
    Calls Tryz.prog 13 #[.pointer (some ⟨jb, 0, none⟩), .slice a len cap] w (CmPost w b bs room cs D) := by
  obtain rfl := hw.hlen
  by_cases hbig : room < cs.length
  · exact commit_big jb b bs room D a cap cb o cs w h hd0 hr hlm hbig
  by_cases hck : ckc (jlen D room) cs [] = 0
  · by_cases hcs : cs = []
    · subst hcs
      exact commit_none jb b bs room D a cap cb o w h hd0 hr hw
    · exact commit_go jb b bs room D a cap cb o cs w h hd0 hj hr hw (hcb (List.length_pos_iff.2 hcs)) hn hbig hck hcs
  · exact commit_ref jb b bs room D a cap cb o cs w h hd0 hr hw hbig hck
end Go.Proofs.YtclnhgfionfbbaaGreatDoor
