/-
  'Commit' of the document's journal. Conditions: the journal is one that its Open makes, of room at most 500; the count of writes stays below the greatest int64.
-/
import Derived.Test.YtclnhgfionfbbaaGreatDoorRRead
import Derived.Test.YtclnhgfionfbbaaGreatDoorCom
import Derived.StillTailTactics
namespace Go.Proofs.YtclnhgfionfbbaaGreatDoor
open Go.RowKit
set_option linter.unusedVariables false

theorem drewN_add (w : World) (n m : Nat) : (w.drewN n).drewN m = w.drewN (n + m) := by
  unfold World.drewN
  simp [Nat.add_assoc]
theorem rjlen_quiet (kb b bs room : Nat) (D : Ds) (w : World) (n : Nat) (h : IsRj w kb b room) (hd : IsRf w b bs D) (hr : room ≤ 500) :
    Calls Tryz.prog 20 #[.pointer (some ⟨kb, 0, none⟩)] (w.drewN n) fun e w'' => e = .returned (.int .i64 (jlen D room : Nat)) ∧ ∃ m, w'' = w.drewN m := by
  refine (rjlen_any kb b bs room D (w.drewN n) (h.keep (tchDrewN (Tch.refl [] w) n) (by simp)) (hd.keep (tchDrewN (Tch.refl [] w) n) (by simp) (by simp)) hr).mono ?_
  rintro e w' ⟨rfl, m, rfl⟩
  exact ⟨rfl, n + m, drewN_add w n m⟩

/-- What Commit answers and leaves. -/
def RcPost (w : World) (b bs room : Nat) (cs : List (Int × ByteArray)) (D : Ds) (e : Ending) (w' : World) : Prop :=
  e = .returned (.int .i64 (jcommit room cs D).1) ∧ IsRf w' b bs (jcommit room cs D).2 ∧ Tch [b, bs] w w'
/-- What holds at the head of each round of the first loop. -/
def RcRel (w : World) (n : Nat) (cs : List (Int × ByteArray)) (v5 : Value) (wr : World) : Prop :=
  ∃ i : Nat, i ≤ cs.length ∧ v5 = .int .i64 i ∧ ckc n cs [] = ckc n (cs.drop i) ((cs.take i).map (·.1)) ∧ Tch [] w wr
/-- .. of the loop in it. -/
def RcIn (w0 : World) (i : Nat) (cs : List (Int × ByteArray)) (q : Int) (v6 : Value) (wr : World) : Prop :=
  ∃ k : Nat, k ≤ i ∧ v6 = .int .i64 k ∧ (∀ j, j < k → (cs.getD j (0, ⟨#[]⟩)).1 ≠ q) ∧ Tch [] w0 wr

theorem met_in (cs : List (Int × ByteArray)) (i k : Nat) (hk : k < i) (hi : i ≤ cs.length) : (cs.getD k (0, ⟨#[]⟩)).1 ∈ (cs.take i).map (·.1) := by
  rw [List.mem_map]
  refine ⟨cs.getD k (0, ⟨#[]⟩), ?_, rfl⟩
  rw [List.getD_eq_getElem?_getD, List.getElem?_eq_getElem (by omega : k < cs.length)]
  show cs[k] ∈ cs.take i
  rw [List.mem_take_iff_getElem]
  exact ⟨k, by omega, rfl⟩
theorem met_out (cs : List (Int × ByteArray)) (i : Nat) (q : Int) (hi : i ≤ cs.length) (h : ∀ j, j < i → (cs.getD j (0, ⟨#[]⟩)).1 ≠ q) : q ∉ (cs.take i).map (·.1) := fun hm => by
  obtain ⟨c, hc, hcq⟩ := List.mem_map.1 hm
  rw [List.mem_take_iff_getElem] at hc
  obtain ⟨j, hj, hje⟩ := hc
  refine h j (by omega) ?_
  rw [List.getD_eq_getElem?_getD, List.getElem?_eq_getElem (by omega : j < cs.length)]
  show cs[j].1 = q
  rw [hje]; exact hcq

theorem scs_cons (room : Nat) (c : Int × ByteArray) (l : List (Int × ByteArray)) : scs room (c :: l) = (((room + 1 + c.1.toNat : Nat) : Int), c.2) :: scs room l := rfl
theorem scs_nil (room : Nat) : scs room [] = [] := rfl
theorem cm_parts (room : Nat) (cs : List (Int × ByteArray)) (D J : Ds) (j : Int) (hj : (j, J) = wrs (cws room cs) D) :
    (∀ d E, wrs (cps 0 cs) D = (d, E) → d ≠ 0 → (j, J) = (d, E)) ∧
    (∀ E, wrs (cps 0 cs) D = (0, E) → E.wcode 0 (hdb (ats cs)) ≠ 0 → (j, J) = (E.wcode 0 (hdb (ats cs)), E.wstate 0 (hdb (ats cs)))) ∧
    (∀ E d F, wrs (cps 0 cs) D = (0, E) → E.wcode 0 (hdb (ats cs)) = 0 → wrs (scs room cs) (E.wstate 0 (hdb (ats cs))) = (d, F) → d ≠ 0 → (j, J) = (d, F)) ∧
    (∀ E F, wrs (cps 0 cs) D = (0, E) → E.wcode 0 (hdb (ats cs)) = 0 → wrs (scs room cs) (E.wstate 0 (hdb (ats cs))) = (0, F) → (j, J) = (F.wcode 0 (hdb []), F.wstate 0 (hdb []))) := by
  refine ⟨fun d E h hd => ?_, fun E h hw => ?_, fun E d F h hw hs hd => ?_, fun E F h hw hs => ?_⟩
  · rw [hj, cws, wrs_app, h, if_neg hd]
  · rw [hj, cws, wrs_app, h, if_pos rfl, wrs]
    simp only
    rw [if_neg hw]
  · rw [hj, cws, wrs_app, h, if_pos rfl, wrs]
    simp only
    rw [if_pos hw, wrs_app, hs, if_neg hd]
  · rw [hj, cws, wrs_app, h, if_pos rfl, wrs]
    simp only
    rw [if_pos hw, wrs_app, hs, if_pos rfl, wrs_one]
/-- What holds at the head of each round of the copies. -/
def RwRel (w : World) (b bs : Nat) (cs : List (Int × ByteArray)) (D : Ds) (v7 : Value) (wr : World) : Prop :=
  ∃ (k : Nat) (E : Ds), k ≤ cs.length ∧ v7 = .int .i64 k ∧ IsRf wr b bs E ∧ wrs (cps 0 cs) D = wrs (cps k (cs.drop k)) E ∧ E.done ≤ D.done + k ∧ Tch [b, bs] w wr
/-- .. of the sectors. -/
def RxRel (w : World) (b bs room : Nat) (cs : List (Int × ByteArray)) (D0 : Ds) (v11 : Value) (wr : World) : Prop :=
  ∃ (k : Nat) (E : Ds), k ≤ cs.length ∧ v11 = .int .i64 k ∧ IsRf wr b bs E ∧ wrs (scs room cs) D0 = wrs (scs room (cs.drop k)) E ∧ E.done ≤ D0.done + k ∧ Tch [b, bs] w wr

theorem rcommit_big (kb b bs room : Nat) (D : Ds) (a : Option Addr) (cap cb o : Nat) (cs : List (Int × ByteArray)) (w : World) (h : IsRj w kb b room) (hd0 : IsRf w b bs D) (hr : room ≤ 500) (hlm : cs.length ≤ 9223372036854775807) (hbig : room < cs.length) :
    Calls Tryz.prog 17 #[.pointer (some ⟨kb, 0, none⟩), .slice a cs.length cap] w (RcPost w b bs room cs D) := by
  have c1 := h.c1
  have HF : Hid (RcPost w b bs room cs D (.returned (.int .i64 31)) w) := by
    have e : jcommit room cs D = (31, D) := by unfold jcommit; rw [if_pos (by omega)]
    show RcPost _ _ _ _ _ _ _ _
    unfold RcPost; rw [e]; exact ⟨rfl, hd0, Tch.refl _ _⟩
  have hb1 : decide (room < cs.length) = true := by simpa using hbig
  clear hd0 hbig
  go_enter Tryz.func17, Tryz.ntmps17
  go_wp2_with fail
  go_ret
  exact HF.out

set_option maxRecDepth 100000 in
set_option maxHeartbeats 2000000 in
theorem rcommit_go (kb b bs room : Nat) (D : Ds) (a : Option Addr) (cap cb o : Nat) (cs : List (Int × ByteArray)) (w : World) (h : IsRj w kb b room) (hd0 : IsRf w b bs D) (hj : kb ≠ b ∧ kb ≠ bs) (hr : room ≤ 500) (hw : IsChs w a cs.length cb o cs) (hcb : 0 < cs.length → cb ≠ b ∧ cb ≠ bs)
    (hn : D.done + 1002 < 9223372036854775807) (hbig : ¬ room < cs.length) :
    Calls Tryz.prog 17 #[.pointer (some ⟨kb, 0, none⟩), .slice a cs.length cap] w (RcPost w b bs room cs D) := by
  have c1 := h.c1
  have hlen := hd0.len
  have hl5 : cs.length ≤ 500 := by omega
  have hb1 : decide (room < cs.length) = false := by simpa using hbig
  have hjl : jlen D room ≤ 16384 := by unfold jlen; omega
  have HCH : Hid (∀ wr, Tch [b, bs] w wr → IsChs wr a cs.length cb o cs) := fun wr t => by
    by_cases h0 : 0 < cs.length
    · exact hw.keep t (by simp; exact hcb h0)
    · refine ⟨rfl, Or.inl (by omega), fun k c hk => ?_, hw.fit⟩
      have := (List.getElem?_eq_some_iff.1 hk).1
      omega
  have HJN : Hid (∀ wr, Tch [b, bs] w wr → IsRj wr kb b room) := fun wr t => h.keep t (by simp; exact hj)
  have HDN : Hid (∀ wr, Tch [] w wr → IsRf wr b bs D) := fun wr t => hd0.keep t (by simp) (by simp)
  have HREF : Hid (∀ w1 c, ckc (jlen D room) cs [] = c → c ≠ 0 → Tch [] w w1 → RcPost w b bs room cs D (.returned (.int .i64 c)) w1) := fun w1 c hc hc0 t1 => by
    have e : jcommit room cs D = (c, D) := by unfold jcommit; rw [if_neg (by omega), if_pos (Or.inl (by rw [hc]; exact hc0)), hc]
    unfold RcPost; rw [e]; exact ⟨rfl, hd0.keep t1 (by simp) (by simp), t1.mono (by simp)⟩
  have HQ : Hid (∀ wr, Tch [] w wr → ∀ n, _) := fun wr t n => rjlen_quiet kb b bs room D wr n (HJN.out wr (t.mono (by simp))) (HDN.out wr t) hr
  have HBIG := Lib.hid hbig
  clear hw h hbig hd0
  generalize hjn : jlen D room = n at HQ hjl HREF
  go_enter Tryz.func17, Tryz.ntmps17
  go_wp2_with fail
  go_loopw [5] (fun v5 wr => RcRel w n cs v5 wr) (fun v5 _ => cs.length - (intOf v5).toNat)
  case atStart => exact ⟨0, by omega, rfl, by simp, Tch.refl _ _⟩
  case round =>
    obtain ⟨i, hi, rfl, hckc, T⟩ := hrel
    by_cases hil : i < cs.length
    · have hcw := HCH.out wr (T.mono (by simp))
      have hget := List.getElem?_eq_getElem hil
      obtain ⟨x0, x1⟩ := hcw.row i _ hget
      have hla : a = some ⟨cb, o, none⟩ := by
        rcases hcw.at_ with h1 | ⟨h1, _⟩
        · omega
        · exact h1
      subst hla
      have hfit := hcw.fit _ (List.getElem_mem hil)
      have hdr : cs.drop i = cs[i] :: cs.drop (i + 1) := List.drop_eq_getElem_cons hil
      have HTK : Hid ((cs.take (i + 1)).map (·.1) = (cs.take i).map (·.1) ++ [cs[i].1]) := by
        show _ = _
        rw [List.take_succ_eq_append_getElem hil, List.map_append]; rfl
      rw [hdr, ckc] at hckc
      generalize cs[i] = cc at x0 x1 hfit hckc HTK
      obtain ⟨q, y⟩ := cc
      simp only at x0 x1 hfit hckc HTK
      have HC := Lib.hid hckc
      have HQ1 := Lib.hid (HQ.out wr T)
      clear hckc hdr hget hcw
      by_cases hq0 : q < 0
      · have HF := Lib.hid (fun w1 t1 => HREF.out w1 10 (by rw [HC.out, if_pos (Or.inl hq0)]) (by omega) t1)
        have e1 : decide (q < 0) = true := by simpa using hq0
        go_wp2_with fail
        go_quiet (fail)
        go_wp2
        go_ret
        exact HF.out _ (tchDrewN T _)
      have e1 : decide (q < 0) = false := by simpa using hq0
      by_cases hqn : (n : Int) ≤ q
      · have HF := Lib.hid (fun w1 t1 => HREF.out w1 10 (by rw [HC.out, if_pos (Or.inr hqn)]) (by omega) t1)
        have e2 : decide ((n : Int) ≤ q) = true := by simpa using hqn
        clear hq0
        go_wp2_with fail
        go_quiet (first | (go_at_call 20; exact HQ1.out _))
        go_wp2
        go_ret
        exact HF.out _ (tchDrewN T _)
      have e2 : decide ((n : Int) ≤ q) = false := by simpa using hqn
      have hqq : ¬ (q < 0 ∨ (n : Int) ≤ q) := by omega
      clear hq0
      go_wp2_with fail
      go_quiet (first | (go_at_call 20; exact HQ1.out _))
      have T0 := tchDrewN T nq
      have x0' : (wr.drewN nq).cell? ⟨cb, o + i * 2, none⟩ = some (.int .i64 q) := x0
      have x1' : (wr.drewN nq).cell? ⟨cb, o + i * 2 + 1, none⟩ = some (.string y) := x1
      clear x0 x1 HQ1 T
      generalize wr.drewN nq = w0 at T0 x0' x1' ⊢
      by_cases hy : 1024 < y.size
      · have HF := Lib.hid (fun w1 t1 => HREF.out w1 11 (by rw [HC.out, if_neg hqq, if_pos hy]) (by omega) t1)
        have e3 : decide ((1024 : Int) < (y.size : Int)) = true := decide_eq_true (by omega)
        go_wp2
        go_ret
        exact HF.out _ T0
      have e3 : decide ((1024 : Int) < (y.size : Int)) = false := decide_eq_false (by omega)
      have e4 : decide (1024 < y.size) = false := decide_eq_false (by omega)
      have HYY := Lib.hid hy
      clear hy
      go_wp2
      obtain ⟨wo, rfl⟩ : ∃ wo : World, wo = wr := ⟨_, rfl⟩
      go_loopw [6] (fun v6 wq => RcIn w0 i cs q v6 wq) (fun v6 _ => i - (intOf v6).toNat)
      case atStart => exact ⟨0, by omega, rfl, fun j hj => by omega, Tch.refl _ _⟩
      case round =>
        obtain ⟨k, hk, rfl, hno, Tk⟩ := hrel
        have TK := T0.trans Tk
        by_cases hki : k < i
        · have hcwk := HCH.out wr (TK.mono (by simp))
          have hgk := List.getElem?_eq_getElem (by omega : k < cs.length)
          obtain ⟨z0, z1⟩ := hcwk.row k _ hgk
          have z2 := (Tk.cell (cell_lt x0') (by simp)).trans x0'
          have HMI := Lib.hid (met_in cs i k hki hi)
          have HNX : Hid ((cs.getD k (0, ⟨#[]⟩)).1 ≠ q → ∀ j, j < k + 1 → (cs.getD j (0, ⟨#[]⟩)).1 ≠ q) := fun hne j hj => by
            by_cases h : j < k
            · exact hno j h
            · obtain rfl : j = k := by omega
              exact hne
          have hge : (cs.getD k (0, ⟨#[]⟩)) = cs[k] := by rw [List.getD_eq_getElem?_getD, hgk]; rfl
          rw [hge] at HMI HNX
          generalize cs[k] = ck at z0 z1 HMI HNX
          obtain ⟨q2, y2⟩ := ck
          simp only at z0 z1 HMI HNX
          clear hge hgk hcwk z1 hno
          by_cases hqe : q2 = q
          · subst hqe
            have HF := Lib.hid (fun w1 t1 => HREF.out w1 30 (by rw [HC.out, if_neg hqq, if_neg HYY.out, if_pos HMI.out]) (by omega) t1)
            clear HNX
            go_wp2_with fail
            go_quiet (fail)
            go_wp2
            go_ret
            exact HF.out _ (tchDrewN TK _)
          · have HN2 := Lib.hid (HNX.out hqe)
            have f1 : (q2 == q) = false := by simpa using hqe
            clear HNX HMI hqe
            go_wp2_with fail
            go_quiet (fail)
            go_wp2
            go_roundw
            case rel => exact ⟨k + 1, by omega, by go_num, HN2.out, tchDrewN Tk _⟩
            case measure => simp [intOf]; omega
        · obtain rfl : k = i := by omega
          have HN : Hid (ckc n cs [] = ckc n (cs.drop (k + 1)) ((cs.take (k + 1)).map (·.1))) := by
            show _ = _
            rw [HTK.out, HC.out, if_neg hqq, if_neg HYY.out, if_neg (met_out cs k q hi hno)]
          clear hno
          go_wp2
          go_roundw
          case rel => exact ⟨k + 1, by omega, by go_num, HN.out, TK⟩
          case measure => simp [intOf]; omega
    · obtain rfl : i = cs.length := by omega
      rw [List.drop_length, ckc] at hckc
      have hdr0 := HDN.out wr T
      have Tw : Tch [b, bs] w wr := T.mono (by simp)
      by_cases h0 : cs.length = 0
      · have hcs : cs = [] := List.length_eq_zero_iff.1 h0
        have HF : Hid (RcPost w b bs room cs D (.returned (.int .i64 0)) wr) := by
          have e : jcommit room cs D = (0, D) := by unfold jcommit; rw [if_neg HBIG.out, if_pos (Or.inr hcs), hjn, hckc]
          show RcPost _ _ _ _ _ _ _ _
          unfold RcPost; rw [e]; exact ⟨rfl, hdr0, Tw⟩
        have e5 : ((cs.length : Int) == 0) = true := by simp [hcs]
        clear hckc hdr0 hcs h0
        go_wp2
        go_ret
        exact HF.out
      have e5 : ((cs.length : Int) == 0) = false := by simpa using h0
      have HJC : Hid (jcommit room cs D = wrs (cws room cs) D) := by
        show _ = _
        unfold jcommit
        rw [if_neg HBIG.out, if_neg (by rw [hjn]; simp only [ne_eq, hckc, not_true_eq_false, false_or]; intro h; exact h0 (by rw [h]; rfl))]
      have HPOST : Hid (∀ w1 d E, ((jcommit room cs D).1, (jcommit room cs D).2) = (d, E) → IsRf w1 b bs E → Tch [b, bs] w w1 → RcPost w b bs room cs D (.returned (.int .i64 d)) w1) := fun w1 d E he h1 t1 => by
        obtain ⟨rfl, rfl⟩ := Prod.mk.inj he
        exact ⟨rfl, h1, t1⟩
      have HP := Lib.hid (cm_parts room cs D _ _ (HJC.out : ((jcommit room cs D).1, (jcommit room cs D).2) = _))
      have HIN := Lib.hid (ckc_in n cs [] hckc)
      have hla : a = some ⟨cb, o, none⟩ := by
        rcases (HCH.out wr Tw).at_ with h1 | ⟨h1, _⟩
        · omega
        · exact h1
      subst hla
      clear hckc T HQ HREF HDN hb1 c1
      go_wp2
      obtain ⟨wo, rfl⟩ : ∃ wo : World, wo = wr := ⟨_, rfl⟩
      go_loopw [7] (fun v7 wq => RwRel w b bs cs D v7 wq) (fun v7 _ => cs.length - (intOf v7).toNat)
      case atStart => exact ⟨0, D, by omega, rfl, hdr0, rfl, by omega, Tw⟩
      case round =>
        obtain ⟨k, E, hk, rfl, hd, hf, hdn, T⟩ := hrel
        by_cases hkl : k < cs.length
        · obtain ⟨x0, x1⟩ := (HCH.out wr T).row k cs[k] (List.getElem?_eq_getElem hkl)
          have hdr : cs.drop k = cs[k] :: cs.drop (k + 1) := List.drop_eq_getElem_cons hkl
          rw [hdr, cps, wrs] at hf
          simp only at hf
          generalize cs[k] = cc at x0 x1 hf
          obtain ⟨i, y⟩ := cc
          simp only at x0 x1 hf
          clear hdr x0
          have hJ := HJN.out wr T
          have q0 := hJ.c0
          have hd2 : IsRf wr.drew b bs E := hd.keep (Tch.refl [] wr).drew (by simp) (by simp)
          have HW : Hid (∀ w1, IsRf w1 b bs E → _) := fun w1 h1 => fwrite b bs E ((1 + k : Nat) : Int) y w1 h1 (by omega)
          have HD := Lib.hid (wst_done E ((1 + k : Nat) : Int) y).2
          have hwr : IntKind.i64.wrap (1 + (k : Int)) = 1 + (k : Int) := IntWalk.i64_in _ (by omega)
          by_cases hwc : E.wcode ((1 + k : Nat) : Int) y = 0
          · rw [if_pos hwc] at hf
            rw [hwc] at HW
            have HF := Lib.hid hf
            clear hf hwc hd
            generalize E.wstate ((1 + k : Nat) : Int) y = E2 at HW HF HD
            rw [show ((1 + k : Nat) : Int) = 1 + (k : Int) from by omega] at HW
            go_wp2_with fail
            go_region_with (first | (go_at_call 25; with_reducible refine (HW.out _ hd2).mono ?_; rintro e w2 ⟨rfl, hd3, t3⟩))
            all_goals
              clear hwr
              go_wp2
              go_roundw
              case rel => exact ⟨k + 1, E2, by omega, by go_num, hd3, HF.out, by have := HD.out; omega, T.drew.trans t3⟩
              case measure => simp [intOf]; omega
          · rw [if_neg hwc] at hf
            have hne : (E.wcode ((1 + k : Nat) : Int) y != 0) = true := by simpa using hwc
            have HF := Lib.hid (fun w1 h1 t1 => HPOST.out w1 _ _ (HP.out.1 _ _ hf hwc) h1 t1)
            clear hf hwc HD hd
            generalize E.wstate ((1 + k : Nat) : Int) y = E2 at HW HF
            generalize E.wcode ((1 + k : Nat) : Int) y = d at HW HF hne
            rw [show ((1 + k : Nat) : Int) = 1 + (k : Int) from by omega] at HW
            go_wp2_with fail
            go_region_with (first | (go_at_call 25; with_reducible refine (HW.out _ hd2).mono ?_; rintro e w2 ⟨rfl, hd3, t3⟩))
            all_goals
              clear hwr
              go_wp2
              go_ret
              exact HF.out _ hd3 (T.drew.trans t3)
        · obtain rfl : k = cs.length := by omega
          rw [List.drop_length, cps, wrs] at hf
          have HH := Lib.hid (rjhead_any (some ⟨cb, o, none⟩) cs.length cap cb o cs wr (HCH.out wr T) hl5 (fun c hc => (HIN.out c hc).1))
          have HF0 := Lib.hid hf
          have HJ1 := Lib.hid (HJN.out wr T)
          have HW : Hid (∀ w1, IsRf w1 b bs E → _) := fun w1 h1 => fwrite b bs E 0 (hdb (ats cs)) w1 h1 (by omega)
          have HD := Lib.hid (wst_done E 0 (hdb (ats cs))).2
          clear hf
          go_wp2_with fail
          refine HH.out.mono ?_
          rintro e w2 ⟨rfl, t2⟩
          have hd2 := hd.keep t2 (by simp) (by simp)
          have T2 := T.trans (t2.mono (L' := [b, bs]) (by simp))
          have q0 := (HJ1.out.keep t2 (by simp)).c0
          clear t2 hd
          by_cases hwc : E.wcode 0 (hdb (ats cs)) = 0
          · rw [hwc] at HW
            have HR := Lib.hid (HP.out.2.2.1 E · · HF0.out hwc)
            have HZ := Lib.hid (HP.out.2.2.2 E · HF0.out hwc)
            clear hwc
            generalize E.wstate 0 (hdb (ats cs)) = E0 at HW HR HZ HD
            go_wp2_with fail
            refine (HW.out _ hd2).mono ?_
            rintro e w3 ⟨rfl, hd3, t3⟩
            have T3 := T2.trans t3
            clear T2 t3 hd2 q0
            go_wp2_with fail
            obtain ⟨wo2, rfl⟩ : ∃ wo2 : World, wo2 = wr := ⟨_, rfl⟩
            have hk0 : E0.done ≤ D.done + 501 := by have := HD.out; omega
            go_loopw [11] (fun v11 wq => RxRel w b bs room cs E0 v11 wq) (fun v11 _ => cs.length - (intOf v11).toNat)
            case atStart => exact ⟨0, E0, by omega, rfl, hd3, rfl, by omega, T3⟩
            case round =>
              obtain ⟨k, F, hk, rfl, hd, hf, hdn, T⟩ := hrel
              by_cases hkl : k < cs.length
              · obtain ⟨x0, x1⟩ := (HCH.out wr T).row k cs[k] (List.getElem?_eq_getElem hkl)
                have hdr : cs.drop k = cs[k] :: cs.drop (k + 1) := List.drop_eq_getElem_cons hkl
                rw [hdr, scs_cons, wrs] at hf
                have hic := HIN.out cs[k] (List.getElem_mem hkl)
                simp only at hf
                generalize cs[k] = cc at x0 x1 hf hic
                obtain ⟨i, y⟩ := cc
                simp only at x0 x1 hf hic
                obtain ⟨q, rfl⟩ := Int.eq_ofNat_of_zero_le hic.1
                rw [Int.toNat_natCast] at hf
                clear hdr
                have hJ := HJN.out wr T
                have q0 := hJ.c0
                have q1 := hJ.c1
                have hd2 : IsRf wr.drew b bs F := hd.keep (Tch.refl [] wr).drew (by simp) (by simp)
                have HW : Hid (∀ w1, IsRf w1 b bs F → _) := fun w1 h1 => fwrite b bs F ((room + 1 + q : Nat) : Int) y w1 h1 (by omega)
                have HD2 := Lib.hid (wst_done F ((room + 1 + q : Nat) : Int) y).2
                have hw1 : IntKind.i64.wrap ((room : Int) + 1) = (room : Int) + 1 := IntWalk.i64_in _ (by omega)
                have hw2 : IntKind.i64.wrap ((room : Int) + 1 + (q : Int)) = (room : Int) + 1 + (q : Int) := IntWalk.i64_in _ (by omega)
                by_cases hwc : F.wcode ((room + 1 + q : Nat) : Int) y = 0
                · rw [if_pos hwc] at hf
                  rw [hwc] at HW
                  have HF := Lib.hid hf
                  clear hf hwc hd
                  generalize F.wstate ((room + 1 + q : Nat) : Int) y = E2 at HW HF HD2
                  rw [show ((room + 1 + q : Nat) : Int) = (room : Int) + 1 + (q : Int) from by omega] at HW
                  go_wp2_with fail
                  go_still_tail 20, (by kernel_rfl)
                  change wpList _ _ _ _ _ wr.drew
                  go_wp2_with fail
                  refine (HW.out _ hd2).mono ?_
                  rintro e w4 ⟨rfl, hd4, t4⟩
                  go_wp2_with fail
                  go_roundw
                  case rel => exact ⟨k + 1, E2, by omega, by go_num, hd4, HF.out, by have := HD2.out; omega, T.drew.trans t4⟩
                  case measure => simp [intOf]; omega
                · rw [if_neg hwc] at hf
                  have hne : (F.wcode ((room + 1 + q : Nat) : Int) y != 0) = true := by simpa using hwc
                  have HF := Lib.hid (fun w1 h1 t1 => HPOST.out w1 _ _ (HR.out _ _ hf hwc) h1 t1)
                  clear hf hwc HD2 hd
                  generalize F.wstate ((room + 1 + q : Nat) : Int) y = E2 at HW HF
                  generalize F.wcode ((room + 1 + q : Nat) : Int) y = d at HW HF hne
                  rw [show ((room + 1 + q : Nat) : Int) = (room : Int) + 1 + (q : Int) from by omega] at HW
                  go_wp2_with fail
                  go_still_tail 20, (by kernel_rfl)
                  change wpList _ _ _ _ _ wr.drew
                  go_wp2_with fail
                  refine (HW.out _ hd2).mono ?_
                  rintro e w4 ⟨rfl, hd4, t4⟩
                  go_wp2_with fail
                  go_ret
                  exact HF.out _ hd4 (T.drew.trans t4)
              · obtain rfl : k = cs.length := by omega
                rw [List.drop_length, scs_nil, wrs] at hf
                have HF := Lib.hid (fun w1 h1 t1 => HPOST.out w1 _ _ (HZ.out F hf) h1 t1)
                have HH2 := Lib.hid (rjhead_nil wr)
                have HW : Hid (∀ w1, IsRf w1 b bs F → _) := fun w1 h1 => fwrite b bs F 0 (hdb []) w1 h1 (by omega)
                have HJ2 := Lib.hid (HJN.out wr T)
                clear hf
                generalize F.wstate 0 (hdb []) = E2 at HW HF
                generalize F.wcode 0 (hdb []) = d at HW HF
                go_wp2_with fail
                refine HH2.out.mono ?_
                rintro e w4 ⟨rfl, t4⟩
                have hd4 := hd.keep t4 (by simp) (by simp)
                have T4 := T.trans (t4.mono (L' := [b, bs]) (by simp))
                have q0 := (HJ2.out.keep t4 (by simp)).c0
                go_wp2_with fail
                refine (HW.out _ hd4).mono ?_
                rintro e w5 ⟨rfl, hd5, t5⟩
                go_wp2_with fail
                go_ret
                exact HF.out _ hd5 (T4.trans t5)
          · have hne : (E.wcode 0 (hdb (ats cs)) != 0) = true := by simpa using hwc
            have HF := Lib.hid (fun w1 h1 t1 => HPOST.out w1 _ _ (HP.out.2.1 E HF0.out hwc) h1 t1)
            clear hwc HD
            generalize E.wstate 0 (hdb (ats cs)) = E2 at HW HF
            generalize E.wcode 0 (hdb (ats cs)) = d at HW HF hne
            go_wp2_with fail
            refine (HW.out _ hd2).mono ?_
            rintro e w3 ⟨rfl, hd3, t3⟩
            go_wp2_with fail
            go_ret
            exact HF.out _ hd3 (T2.trans t3)

/-- Commit, of whatever changes. -/
theorem rcommit_any (kb b bs room : Nat) (D : Ds) (a : Option Addr) (len cap cb o : Nat) (cs : List (Int × ByteArray)) (w : World) (h : IsRj w kb b room) (hd0 : IsRf w b bs D) (hj : kb ≠ b ∧ kb ≠ bs) (hr : room ≤ 500) (hw : IsChs w a len cb o cs) (hcb : 0 < len → cb ≠ b ∧ cb ≠ bs) (hlm : len ≤ 9223372036854775807)
    (hn : D.done + 1002 < 9223372036854775807) :
    Calls Tryz.prog 17 #[.pointer (some ⟨kb, 0, none⟩), .slice a len cap] w (RcPost w b bs room cs D) := by
  obtain rfl := hw.hlen
  by_cases hbig : room < cs.length
  · exact rcommit_big kb b bs room D a cap cb o cs w h hd0 hr hlm hbig
  · exact rcommit_go kb b bs room D a cap cb o cs w h hd0 hj hr hw hcb hn hbig
end Go.Proofs.YtclnhgfionfbbaaGreatDoor
