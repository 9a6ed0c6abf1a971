/-
  The last steps of the law's script over journals: cuts, opens, writes past the journal, what does nothing; every step. Conditions: the count of writes stays below the greatest int64; numbers are int64; changes are within the reach of memory.
-/
import Derived.Test.YtclnhgfionfbbaaGreatDoorSw2
namespace Go.Proofs.YtclnhgfionfbbaaGreatDoor
open Go.RowKit
set_option linter.unusedVariables false

theorem jo_done (room : Int) (D : Ds) : (jopen room D).2.done ≤ D.done + 502 := by
  unfold jopen
  split
  · simp; omega
  · rename_i hr
    split
    · simp; omega
    · cases hh : rhead (D.rtext 0).data.toList room.toNat (jlen D room.toNat) with
      | none => simp; omega
      | some l =>
        cases l with
        | nil => simp; omega
        | cons a l =>
          have hll := rhead_len hh
          have h1 := fin_done room.toNat (a :: l) 0 D
          simp only
          unfold fins
          split
          · rw [wrs_one]
            have h2 := (wst_done (fin room.toNat 0 (a :: l) D).2 0 (hdb [])).2
            simp only
            omega
          · omega

set_option maxRecDepth 100000 in
set_option maxHeartbeats 1000000 in
theorem sw_cut (wb db ds rb rs r : Nat) (room : Int) (D : Ds) (i : Int) (a : Option Addr) (len cap : Nat) (x : ByteArray) (w : World) (ha : Apart wb db ds rb rs)
    (h : Jrs w wb db ds rb rs r) (hd : IsDs w db ds D) (hf : IsRf w rb rs D) (h0 : -9223372036854775808 ≤ i) (h1 : i ≤ 9223372036854775807) :
    Calls Tryz.prog 8 #[.pointer (some ⟨wb, 0, none⟩), .int .i64 room, .agg #[.int .i64 3, .int .i64 i, .slice a len cap, .string x]] w (SwPost wb db ds rb rs r D w) := by
  have ha0 := ha
  obtain ⟨a1, a2, a3, a4, a5, a6, a7, a8⟩ := ha
  obtain ⟨jp, kp, hw0⟩ := h.wd
  have T0 : Tch [] w (w.alloc (.cells #[.int .i64 3, .int .i64 i, .slice a len cap, .string x] 36)) := (Tch.refl _ _).alloc _
  have k := blk_new w (.cells #[.int .i64 3, .int .i64 i, .slice a len cap, .string x] 36)
  have hwlt : wb < w.heap.size := lt_of_block hw0
  have hdlt := hd.lt
  have hrlt := hf.lt
  have hw1 := hw0.keep T0 (by simp)
  have HAL : Hid (IsDs _ db ds D ∧ IsRf _ rb rs D) := ⟨hd.keep T0 (by simp) (by simp), hf.keep T0 (by simp) (by simp)⟩
  have HJRS : Hid (∀ w', Tch [db, ds, rb, rs] w w' → Jrs w' wb db ds rb rs r) := fun w' t => h.keep t ha0 (fun k hk => hk)
  have m1 : wb ∉ [db, ds, rb, rs] := by simp; omega
  have m2 : w.heap.size ∉ [db, ds, rb, rs] := by simp; omega
  obtain ⟨c0, c1, c2, c3⟩ := hw1.at_
  clear h hd hf hw0
  go_enter Tryz.func8, Tryz.ntmps8
  go_wp2_with fail
  generalize hp : w.heap.size = p at k m2 hwlt hdlt hrlt ⊢
  generalize w.alloc (.cells #[.int .i64 3, .int .i64 i, .slice a len cap, .string x] 36) = W1 at T0 k hw1 HAL c0 c1 c2 c3 ⊢
  clear hp
  have HS : Hid (∀ w', Tch [db, ds, rb, rs] W1.drew w' → w'.cell? ⟨wb, 0, none⟩ = some (.pointer (some ⟨db, 0, none⟩)) ∧ w'.cell? ⟨wb, 2, none⟩ = some (.pointer (some ⟨rb, 0, none⟩)) ∧ w'.cell? ⟨p, 1, none⟩ = some (.int .i64 i)) := fun w' t => by
    have hk := t.keep (b := p) (show W1.drew.heap[p]? = _ from k) m2
    have hw := (hw1.keep (Tch.refl [] W1).drew (by simp)).keep t m1
    exact ⟨hw.at_.1, hw.at_.2.2.1, by rw [blk_cell hk]; rfl⟩
  obtain ⟨hd1, hf1⟩ : IsDs W1.drew db ds D ∧ IsRf W1.drew rb rs D := ⟨HAL.out.1.keep (Tch.refl [] W1).drew (by simp) (by simp), HAL.out.2.keep (Tch.refl [] W1).drew (by simp) (by simp)⟩
  have HCM := Lib.hid (dcut db ds D i _ hd1 h0 h1)
  clear k hw1 HAL c0 c1 c2 c3
  go_region_held3 (fun w' => w'.cell? ⟨wb, 0, none⟩ = some (.pointer (some ⟨db, 0, none⟩)) ∧ w'.cell? ⟨wb, 2, none⟩ = some (.pointer (some ⟨rb, 0, none⟩)) ∧ w'.cell? ⟨p, 1, none⟩ = some (.int .i64 i))
    (first | exact HS.out _ (t2.mono (by simp)) | exact HS.out _ (Tch.refl _ _))
    (first | (go_at_call 21; refine HCM.out.mono ?_; rintro e w2 ⟨rfl, hd2, t2⟩))
  obtain ⟨c0, c2, k2⟩ := HS.out _ (t2.mono (L' := [db, ds, rb, rs]) (by simp))
  have hf2 := hf1.keep t2 (by simp; omega) (by simp; omega)
  have HRM := Lib.hid (fcut rb rs D i w2.drew (hf2.keep (Tch.refl [] w2).drew (by simp) (by simp)) h1)
  clear hf1 hd1 HCM
  go_wp2_with fail
  have HS2 : Hid (∀ w', Tch [rb] w2.drew w' → w'.cell? ⟨wb, 0, none⟩ = some (.pointer (some ⟨db, 0, none⟩)) ∧ w'.cell? ⟨wb, 2, none⟩ = some (.pointer (some ⟨rb, 0, none⟩)) ∧ w'.cell? ⟨p, 1, none⟩ = some (.int .i64 i)) := fun w' t => HS.out w' ((t2.mono (L' := [db, ds, rb, rs]) (by simp)).drew.trans (t.mono (by simp)))
  go_region_held3 (fun w' => w'.cell? ⟨wb, 0, none⟩ = some (.pointer (some ⟨db, 0, none⟩)) ∧ w'.cell? ⟨wb, 2, none⟩ = some (.pointer (some ⟨rb, 0, none⟩)) ∧ w'.cell? ⟨p, 1, none⟩ = some (.int .i64 i))
    (first | exact HS2.out _ t3 | exact HS2.out _ (Tch.refl _ _))
    (first | (go_at_call 22; refine HRM.out.mono ?_; rintro e w3 ⟨rfl, hf3, t3⟩))
  have TW : Tch [db, ds, rb, rs] w w3 := ((T0.drew.mono (by simp)).trans (t2.mono (L' := [db, ds, rb, rs]) (by simp))).drew.trans (t3.mono (by simp))
  have hd3 := (hd2.keep (Tch.refl [] w2).drew (by simp) (by simp)).keep t3 (by simp; omega) (by simp; omega)
  have HF : Hid (SwPost wb db ds rb rs r D w (.returned (.bool true)) w3) := ⟨rfl, _, hd3, hf3, HJRS.out _ TW, by simp; omega, TW.mono (by simp)⟩
  clear hd3 hf3 TW
  go_wp2
  go_ret
  exact HF.out

set_option maxRecDepth 100000 in
set_option maxHeartbeats 1000000 in
theorem sw_write (wb db ds rb rs r : Nat) (room : Int) (D : Ds) (i : Int) (a : Option Addr) (len cap : Nat) (x : ByteArray) (w : World) (ha : Apart wb db ds rb rs)
    (h : Jrs w wb db ds rb rs r) (hd : IsDs w db ds D) (hf : IsRf w rb rs D) (hn : D.done + 1002 < 9223372036854775807) :
    Calls Tryz.prog 8 #[.pointer (some ⟨wb, 0, none⟩), .int .i64 room, .agg #[.int .i64 5, .int .i64 i, .slice a len cap, .string x]] w (SwPost wb db ds rb rs r D w) := by
  have ha0 := ha
  obtain ⟨a1, a2, a3, a4, a5, a6, a7, a8⟩ := ha
  obtain ⟨jp, kp, hw0⟩ := h.wd
  have T0 : Tch [] w (w.alloc (.cells #[.int .i64 5, .int .i64 i, .slice a len cap, .string x] 36)) := (Tch.refl _ _).alloc _
  have k := blk_new w (.cells #[.int .i64 5, .int .i64 i, .slice a len cap, .string x] 36)
  have hwlt : wb < w.heap.size := lt_of_block hw0
  have hdlt := hd.lt
  have hrlt := hf.lt
  have hw1 := hw0.keep T0 (by simp)
  have HAL : Hid (IsDs _ db ds D ∧ IsRf _ rb rs D) := ⟨hd.keep T0 (by simp) (by simp), hf.keep T0 (by simp) (by simp)⟩
  have HJRS : Hid (∀ w', Tch [db, ds, rb, rs] w w' → Jrs w' wb db ds rb rs r) := fun w' t => h.keep t ha0 (fun k hk => hk)
  have m1 : wb ∉ [db, ds, rb, rs] := by simp; omega
  have m2 : w.heap.size ∉ [db, ds, rb, rs] := by simp; omega
  have HW : Hid (∀ wx, IsDs wx db ds D → _) := fun wx h => dwrite db ds D i x wx h (by omega)
  have HF0 : Hid (∀ wx, IsRf wx rb rs D → _) := fun wx h => fwrite rb rs D i x wx h (by omega)
  have HD := Lib.hid (sw_done D i x)
  generalize D.wstate i x = E at HW HF0 HD
  generalize D.wcode i x = c at HW HF0
  obtain ⟨c0, c1, c2, c3⟩ := hw1.at_
  clear h hd hf hw0
  go_enter Tryz.func8, Tryz.ntmps8
  go_wp2_with fail
  generalize hp : w.heap.size = p at k m2 hwlt hdlt hrlt ⊢
  generalize w.alloc (.cells #[.int .i64 5, .int .i64 i, .slice a len cap, .string x] 36) = W1 at T0 k hw1 HAL c0 c1 c2 c3 ⊢
  clear hp
  have HS : Hid (∀ w', Tch [db, ds, rb, rs] W1.drew w' → w'.cell? ⟨wb, 0, none⟩ = some (.pointer (some ⟨db, 0, none⟩)) ∧ w'.cell? ⟨wb, 2, none⟩ = some (.pointer (some ⟨rb, 0, none⟩)) ∧ w'.cell? ⟨p, 1, none⟩ = some (.int .i64 i) ∧ w'.cell? ⟨p, 3, none⟩ = some (.string x)) := fun w' t => by
    have hk := t.keep (b := p) (show W1.drew.heap[p]? = _ from k) m2
    have hw := (hw1.keep (Tch.refl [] W1).drew (by simp)).keep t m1
    exact ⟨hw.at_.1, hw.at_.2.2.1, by rw [blk_cell hk]; rfl, by rw [blk_cell hk]; rfl⟩
  obtain ⟨hd1, hf1⟩ : IsDs W1.drew db ds D ∧ IsRf W1.drew rb rs D := ⟨HAL.out.1.keep (Tch.refl [] W1).drew (by simp) (by simp), HAL.out.2.keep (Tch.refl [] W1).drew (by simp) (by simp)⟩
  clear k hw1 HAL c0 c1 c2 c3
  go_region_held3 (fun w' => w'.cell? ⟨wb, 0, none⟩ = some (.pointer (some ⟨db, 0, none⟩)) ∧ w'.cell? ⟨wb, 2, none⟩ = some (.pointer (some ⟨rb, 0, none⟩)) ∧ w'.cell? ⟨p, 1, none⟩ = some (.int .i64 i) ∧ w'.cell? ⟨p, 3, none⟩ = some (.string x))
    (first | exact HS.out _ T3 | exact HS.out _ (t2.mono (by simp)) | exact HS.out _ (Tch.refl _ _))
    (first | (go_at_call 24; refine (HW.out _ hd1).mono ?_; rintro e w2 ⟨rfl, hd2, t2⟩; have hf2 := hf1.keep t2 (by simp; omega) (by simp; omega)) | (go_at_call 25; refine (HF0.out _ hf2).mono ?_; rintro e w3 ⟨rfl, hf3, t3⟩; have T3 : Tch [db, ds, rb, rs] W1.drew w3 := (t2.mono (by simp)).trans (t3.mono (by simp))))
  have hd3 := hd2.keep t3 (by simp; omega) (by simp; omega)
  have TW : Tch [db, ds, rb, rs] w w3 := (T0.drew.mono (by simp)).trans T3
  have HF : Hid (SwPost wb db ds rb rs r D w (.returned (.bool true)) w3) := ⟨rfl, E, hd3, hf3, HJRS.out _ TW, HD.out, TW.mono (by simp)⟩
  clear hd3 hf3 TW
  go_wp2
  go_ret
  exact HF.out

set_option maxRecDepth 100000 in
set_option maxHeartbeats 1000000 in
theorem sw_open (wb db ds rb rs : Nat) (room : Int) (D : Ds) (i : Int) (a : Option Addr) (len cap : Nat) (x : ByteArray) (w : World) (ha : Apart wb db ds rb rs)
    (h : Jrs w wb db ds rb rs room.toNat) (hd : IsDs w db ds D) (hf : IsRf w rb rs D) (hn : D.done + 1002 < 9223372036854775807) :
    Calls Tryz.prog 8 #[.pointer (some ⟨wb, 0, none⟩), .int .i64 room, .agg #[.int .i64 4, .int .i64 i, .slice a len cap, .string x]] w (SwPost wb db ds rb rs room.toNat D w) := by
  have ha0 := ha
  obtain ⟨a1, a2, a3, a4, a5, a6, a7, a8⟩ := ha
  obtain ⟨jp, kp, hw0⟩ := h.wd
  have T0 : Tch [] w (w.alloc (.cells #[.int .i64 4, .int .i64 i, .slice a len cap, .string x] 36)) := (Tch.refl _ _).alloc _
  have k := blk_new w (.cells #[.int .i64 4, .int .i64 i, .slice a len cap, .string x] 36)
  have hwlt : wb < w.heap.size := lt_of_block hw0
  have hw1 := hw0.keep T0 (by simp)
  have hd1 := hd.keep T0 (by simp) (by simp)
  have hf1 := hf.keep T0 (by simp) (by simp)
  have HCM := Lib.hid (dstart db ds D _ hd1)
  obtain ⟨c0, c1, c2, c3⟩ := hw1.at_
  have HA := Lib.hid ha0
  have n1 : wb ∉ [db] := by simp; exact a1
  have n2 : rb ∉ [db] := by simp; exact Ne.symm a5
  have n3 : rs ∉ [db] := by simp; exact Ne.symm a6
  have n4 : wb ∉ [rb] := by simp; exact a3
  have n5 : db ∉ [rb] := by simp; exact a5
  have n6 : ds ∉ [rb] := by simp; exact a7
  clear h hd hf hw0 hd1 ha0
  go_enter Tryz.func8, Tryz.ntmps8
  go_wp2_with fail
  refine HCM.out.mono ?_
  rintro e w2 ⟨rfl, hd2, t2⟩
  have hw2 := hw1.keep t2 n1
  have hf2 := hf1.keep t2 n2 n3
  have HRM := Lib.hid (fstart rb rs D w2 hf2)
  have T2 : Tch [wb, db, ds, rb, rs] w w2 := (T0.mono (by simp)).trans (t2.mono (by simp))
  clear c0 c1 c2 c3 hw1 hf1 hf2 k T0 HCM t2
  obtain ⟨c0, c1, c2, c3⟩ := hw2.at_
  go_wp2_with fail
  refine HRM.out.mono ?_
  rintro e w3 ⟨rfl, hf3, t3⟩
  have hw3 := hw2.keep t3 n4
  have hd3 := hd2.keep t3 n5 n6
  have T3 := T2.trans (t3.mono (L' := [wb, db, ds, rb, rs]) (by simp))
  have HO := Lib.hid (jopenw_any wb db ds rb rs room { D with left := -1, on := true } jp kp w3 HA.out hw3 hd3 hf3 (by simp; omega))
  have HD : Hid ((jopen room { D with left := -1, on := true }).2.done ≤ D.done + 1002) := by
    have := jo_done room { D with left := -1, on := true }
    show _ ≤ _
    simp at this
    omega
  generalize (jopen room { D with left := -1, on := true }).2 = E at HO HD
  clear c0 c1 c2 c3 hw2 hd2 hw3 hd3 hf3 T2 t3 HRM
  go_wp2_with fail
  refine HO.out.mono ?_
  rintro e w4 ⟨rfl, hd4, hf4, hj4, t4⟩
  have HF : Hid (SwPost wb db ds rb rs room.toNat D w (.returned (.bool true)) w4) := ⟨rfl, E, hd4, hf4, hj4, HD.out, T3.trans t4⟩
  clear hd4 hf4 hj4 t4
  go_wp2_with fail
  go_ret
  exact HF.out

set_option maxRecDepth 100000 in
set_option maxHeartbeats 1000000 in
theorem sw_none (wb db ds rb rs r : Nat) (room : Int) (D : Ds) (q i : Int) (a : Option Addr) (len cap : Nat) (x : ByteArray) (w : World) (ha : Apart wb db ds rb rs)
    (h : Jrs w wb db ds rb rs r) (hd : IsDs w db ds D) (hf : IsRf w rb rs D) (q1 : q ≠ 1) (q2 : q ≠ 2) (q3 : q ≠ 3) (q4 : q ≠ 4) (q5 : q ≠ 5) :
    Calls Tryz.prog 8 #[.pointer (some ⟨wb, 0, none⟩), .int .i64 room, .agg #[.int .i64 q, .int .i64 i, .slice a len cap, .string x]] w (SwPost wb db ds rb rs r D w) := by
  have T0 : Tch [] w (w.alloc (.cells #[.int .i64 q, .int .i64 i, .slice a len cap, .string x] 36)) := (Tch.refl _ _).alloc _
  have HF : Hid (SwPost wb db ds rb rs r D w (.returned (.bool true)) (w.alloc (.cells #[.int .i64 q, .int .i64 i, .slice a len cap, .string x] 36))) := ⟨rfl, D, hd.keep T0 (by simp) (by simp), hf.keep T0 (by simp) (by simp), h.keep T0 ha (by simp), by omega, T0.mono (by simp)⟩
  have e1 : (q == 1) = false := by simpa using q1
  have e2 : (q == 2) = false := by simpa using q2
  have e3 : (q == 3) = false := by simpa using q3
  have e4 : (q == 4) = false := by simpa using q4
  have e5 : (q == 5) = false := by simpa using q5
  clear q1 q2 q3 q4 q5 hd hf h T0
  go_enter Tryz.func8, Tryz.ntmps8
  go_wp2_with fail
  go_ret
  exact HF.out

/-- Every step. -/
theorem sw_any (wb db ds rb rs : Nat) (room : Int) (D : Ds) (q i : Int) (a : Option Addr) (len cap cb o : Nat) (cs : List (Int × ByteArray)) (x : ByteArray) (w : World) (ha : Apart wb db ds rb rs)
    (h : Jrs w wb db ds rb rs room.toNat) (hd : IsDs w db ds D) (hf : IsRf w rb rs D) (hn : D.done + 1002 < 9223372036854775807)
    (hch : IsChs w a len cb o cs) (hcb : 0 < len → cb ∉ [wb, db, ds, rb, rs]) (hl : len * 24 ≤ 140737488351232) (hnil : a = none → len = 0 ∧ cap = 0) (h0 : -9223372036854775808 ≤ i) (h1 : i ≤ 9223372036854775807) :
    Calls Tryz.prog 8 #[.pointer (some ⟨wb, 0, none⟩), .int .i64 room, .agg #[.int .i64 q, .int .i64 i, .slice a len cap, .string x]] w (SwPost wb db ds rb rs room.toNat D w) := by
  by_cases q1 : q = 1
  · subst q1
    rcases h with h | ⟨jb, kb, h, hJ, hK, hr, hjn, hkn⟩
    · exact sw_commit_none wb db ds rb rs _ room D i a len cap x w ha h hd hf
    · exact sw_commit wb db ds rb rs _ jb kb room D i a len cap cb o cs x w ha h hJ hK hr hjn hkn hd hf hn hch hcb hl hnil
  by_cases q2 : q = 2
  · subst q2
    rcases h with h | ⟨jb, kb, h, hJ, hK, hr, hjn, hkn⟩
    · exact sw_read_none wb db ds rb rs _ room D i a len cap x w ha h hd hf
    · exact sw_read wb db ds rb rs _ jb kb room D i a len cap x w ha h hJ hK hr hjn hkn hd hf
  by_cases q3 : q = 3
  · subst q3; exact sw_cut wb db ds rb rs _ room D i a len cap x w ha h hd hf h0 h1
  by_cases q4 : q = 4
  · subst q4; exact sw_open wb db ds rb rs room D i a len cap x w ha h hd hf hn
  by_cases q5 : q = 5
  · subst q5; exact sw_write wb db ds rb rs _ room D i a len cap x w ha h hd hf hn
  exact sw_none wb db ds rb rs _ room D q i a len cap x w ha h hd hf q1 q2 q3 q4 q5
end Go.Proofs.YtclnhgfionfbbaaGreatDoor
