/-
  The other steps of the law's script over journals: reads, cuts, opens, writes past the journal, and what does nothing. Conditions: the count of writes stays below the greatest int64; numbers are int64.
-/
import Derived.Test.YtclnhgfionfbbaaGreatDoorSw
namespace Go.Proofs.YtclnhgfionfbbaaGreatDoor
open Go.RowKit
set_option linter.unusedVariables false

theorem Jrs.wd {w : World} {wb db ds rb rs r : Nat} (h : Jrs w wb db ds rb rs r) : ∃ jp kp, IsWd w wb db jp rb kp := by
  rcases h with h | ⟨jb, kb, h, _⟩
  · exact ⟨_, _, h⟩
  · exact ⟨_, _, h⟩
theorem sw_done (D : Ds) (i : Int) (x : ByteArray) : (D.wstate i x).done ≤ D.done + 1002 := by have := (wst_done D i x).2; omega

set_option maxRecDepth 100000 in
set_option maxHeartbeats 1000000 in
theorem sw_commit_none (wb db ds rb rs r : Nat) (room : Int) (D : Ds) (i : Int) (a : Option Addr) (len cap : Nat) (x : ByteArray) (w : World) (ha : Apart wb db ds rb rs)
    (h : IsWd w wb db none rb none) (hd : IsDs w db ds D) (hf : IsRf w rb rs D) :
    Calls Tryz.prog 8 #[.pointer (some ⟨wb, 0, none⟩), .int .i64 room, .agg #[.int .i64 1, .int .i64 i, .slice a len cap, .string x]] w (SwPost wb db ds rb rs r D w) := by
  have T0 : Tch [] w (w.alloc (.cells #[.int .i64 1, .int .i64 i, .slice a len cap, .string x] 36)) := (Tch.refl _ _).alloc _
  have k := blk_new w (.cells #[.int .i64 1, .int .i64 i, .slice a len cap, .string x] 36)
  have hwlt : wb < w.heap.size := lt_of_block h
  have h1 := h.keep T0 (by simp)
  have HF : Hid (∀ n, SwPost wb db ds rb rs r D w (.returned (.bool true)) ((w.alloc (.cells #[.int .i64 1, .int .i64 i, .slice a len cap, .string x] 36)).drewN n)) := fun n => by
    have t := tdrewN T0 n
    exact ⟨rfl, D, hd.keep t (by simp) (by simp), hf.keep t (by simp) (by simp), Or.inl (h.keep t (by simp)), by omega, t.mono (by simp)⟩
  obtain ⟨c0, c1, c2, c3⟩ := h1.at_
  clear h hd hf h1
  go_enter Tryz.func8, Tryz.ntmps8
  go_wp2_with fail
  have k2 : (w.alloc (.cells #[.int .i64 1, .int .i64 i, .slice a len cap, .string x] 36)).cell? ⟨w.heap.size, 2, none⟩ = some (.slice a len cap) := blk_cell k 2
  generalize w.heap.size = p at k k2 hwlt ⊢
  generalize w.alloc (.cells #[.int .i64 1, .int .i64 i, .slice a len cap, .string x] 36) = W1 at T0 k k2 c0 c1 c2 c3 HF ⊢
  go_quiet ((go_at_call 13; exact quietSame' (commit_nil a len cap _)))
  go_wp2
  go_ret
  exact HF.out _

set_option maxRecDepth 100000 in
set_option maxHeartbeats 1000000 in
theorem sw_read_none (wb db ds rb rs r : Nat) (room : Int) (D : Ds) (i : Int) (a : Option Addr) (len cap : Nat) (x : ByteArray) (w : World) (ha : Apart wb db ds rb rs)
    (h : IsWd w wb db none rb none) (hd : IsDs w db ds D) (hf : IsRf w rb rs D) :
    Calls Tryz.prog 8 #[.pointer (some ⟨wb, 0, none⟩), .int .i64 room, .agg #[.int .i64 2, .int .i64 i, .slice a len cap, .string x]] w (SwPost wb db ds rb rs r D w) := by
  have T0 : Tch [] w (w.alloc (.cells #[.int .i64 2, .int .i64 i, .slice a len cap, .string x] 36)) := (Tch.refl _ _).alloc _
  have k := blk_new w (.cells #[.int .i64 2, .int .i64 i, .slice a len cap, .string x] 36)
  have hwlt : wb < w.heap.size := lt_of_block h
  have h1 := h.keep T0 (by simp)
  have HF : Hid (∀ n, SwPost wb db ds rb rs r D w (.returned (.bool true)) ((w.alloc (.cells #[.int .i64 2, .int .i64 i, .slice a len cap, .string x] 36)).drewN n)) := fun n => by
    have t := tdrewN T0 n
    exact ⟨rfl, D, hd.keep t (by simp) (by simp), hf.keep t (by simp) (by simp), Or.inl (h.keep t (by simp)), by omega, t.mono (by simp)⟩
  obtain ⟨c0, c1, c2, c3⟩ := h1.at_
  clear h hd hf h1
  go_enter Tryz.func8, Tryz.ntmps8
  go_wp2_with fail
  have k2 : (w.alloc (.cells #[.int .i64 2, .int .i64 i, .slice a len cap, .string x] 36)).cell? ⟨w.heap.size, 1, none⟩ = some (.int .i64 i) := blk_cell k 1
  generalize w.heap.size = p at k k2 hwlt ⊢
  generalize w.alloc (.cells #[.int .i64 2, .int .i64 i, .slice a len cap, .string x] 36) = W1 at T0 k k2 c0 c1 c2 c3 HF ⊢
  go_quiet ((go_at_call 14; exact quietSame' (jread_nil i _)))
  go_wp2_with (first | (go_at_call 12; refine (jlen_nil _).mono ?_; rintro e w1 ⟨rfl, rfl⟩))
  go_ret
  exact HF.out _

set_option maxRecDepth 100000 in
set_option maxHeartbeats 1000000 in
theorem sw_read (wb db ds rb rs r jb kb : Nat) (room : Int) (D : Ds) (i : Int) (a : Option Addr) (len cap : Nat) (x : ByteArray) (w : World) (ha : Apart wb db ds rb rs)
    (h : IsWd w wb db (some ⟨jb, 0, none⟩) rb (some ⟨kb, 0, none⟩)) (hJ : IsJn w jb db r) (hK : IsRj w kb rb r) (hr : r ≤ 500) (hjn : jb ∉ [wb, db, ds, rb, rs]) (hkn : kb ∉ [wb, db, ds, rb, rs]) (hd : IsDs w db ds D) (hf : IsRf w rb rs D) :
    Calls Tryz.prog 8 #[.pointer (some ⟨wb, 0, none⟩), .int .i64 room, .agg #[.int .i64 2, .int .i64 i, .slice a len cap, .string x]] w (SwPost wb db ds rb rs r D w) := by
  have ha0 := ha
  obtain ⟨a1, a2, a3, a4, a5, a6, a7, a8⟩ := ha
  have T0 : Tch [] w (w.alloc (.cells #[.int .i64 2, .int .i64 i, .slice a len cap, .string x] 36)) := (Tch.refl _ _).alloc _
  have k := blk_new w (.cells #[.int .i64 2, .int .i64 i, .slice a len cap, .string x] 36)
  have hwlt : wb < w.heap.size := lt_of_block h
  have hdlt := hd.lt
  have h1 := h.keep T0 (by simp)
  have HAL : Hid (IsJn _ jb db r ∧ IsRj _ kb rb r ∧ IsDs _ db ds D ∧ IsRf _ rb rs D) := ⟨hJ.keep T0 (by simp), hK.keep T0 (by simp), hd.keep T0 (by simp) (by simp), hf.keep T0 (by simp) (by simp)⟩
  have HC : Hid (∀ w1, IsJn w1 jb db r → IsDs w1 db ds D → _) := fun w1 q1 q2 => jread_any jb db ds r D i w1 q1 q2 hr
  have HR : Hid (∀ w1, IsRj w1 kb rb r → IsRf w1 rb rs D → _) := fun w1 q1 q2 => rjread_any kb rb rs r D i w1 q1 q2 hr
  have HJL : Hid (∀ w1, IsJn w1 jb db r → IsDs w1 db ds D → _) := fun w1 q1 q2 => jlen_any jb db ds r D w1 q1 q2 hr
  have HRL : Hid (∀ w1 n, IsRj w1 kb rb r → IsRf w1 rb rs D → _) := fun w1 n q1 q2 => rjlen_quiet kb rb rs r D w1 n q1 q2 hr
  have HJRS : Hid (∀ w', Tch [db, ds, rb, rs] w w' → Jrs w' wb db ds rb rs r) := fun w' t => Jrs.keep (Or.inr ⟨jb, kb, h, hJ, hK, hr, hjn, hkn⟩) t ha0 (fun k hk => hk)
  have m1 : wb ∉ [db, ds, rb, rs] := by simp; omega
  have m2 : w.heap.size ∉ [db] := by simp; omega
  have m4 : kb ∉ [db] := fun hm => hkn (by simp at hm ⊢; omega)
  have m5 : jb ∉ [db] := fun hm => hjn (by simp at hm ⊢; omega)
  generalize jrtext r D i = s at HC HR
  generalize jrcode r D i = c at HC HR
  generalize ((jlen D r : Nat) : Int) = ln at HJL HRL
  obtain ⟨c0, c1, c2, c3⟩ := h1.at_
  clear h hJ hK hd hf hjn hkn
  go_enter Tryz.func8, Tryz.ntmps8
  go_wp2_with fail
  have k2 := blk_cell k 1
  simp at k2
  generalize hp : w.heap.size = p at k k2 m2 hwlt hdlt ⊢
  generalize w.alloc (.cells #[.int .i64 2, .int .i64 i, .slice a len cap, .string x] 36) = W1 at T0 k k2 h1 HAL c0 c1 c2 c3 ⊢
  clear hp
  have HS : Hid (∀ w', Tch [db] W1.drew w' → w'.cell? ⟨wb, 1, none⟩ = some (.pointer (some ⟨jb, 0, none⟩)) ∧ w'.cell? ⟨wb, 3, none⟩ = some (.pointer (some ⟨kb, 0, none⟩)) ∧ w'.cell? ⟨p, 1, none⟩ = some (.int .i64 i)) := fun w' t => by
    have hk := t.keep (b := p) (show W1.drew.heap[p]? = _ from k) m2
    have hw := (h1.keep (Tch.refl [] W1).drew (by simp)).keep t (fun hm => m1 (by simp at hm ⊢; omega))
    exact ⟨hw.at_.2.1, hw.at_.2.2.2, by rw [blk_cell hk]; rfl⟩
  obtain ⟨hJ1, hK1, hd1, hf1⟩ : IsJn W1.drew jb db r ∧ IsRj W1.drew kb rb r ∧ IsDs W1.drew db ds D ∧ IsRf W1.drew rb rs D := ⟨HAL.out.1.keep (Tch.refl [] W1).drew (by simp), HAL.out.2.1.keep (Tch.refl [] W1).drew (by simp), HAL.out.2.2.1.keep (Tch.refl [] W1).drew (by simp) (by simp), HAL.out.2.2.2.keep (Tch.refl [] W1).drew (by simp) (by simp)⟩
  have HCM := HC.out _ hJ1 hd1
  clear k k2 h1 HAL c0 c1 c2 c3
  go_region_held3 (fun w' => w'.cell? ⟨wb, 1, none⟩ = some (.pointer (some ⟨jb, 0, none⟩)) ∧ w'.cell? ⟨wb, 3, none⟩ = some (.pointer (some ⟨kb, 0, none⟩)) ∧ w'.cell? ⟨p, 1, none⟩ = some (.int .i64 i))
    (first | exact HS.out _ t2 | exact HS.out _ (Tch.refl _ _))
    (first | (go_at_call 14; refine HCM.mono ?_; rintro e w2 ⟨rfl, hd2, t2⟩))
  obtain ⟨c1, c3, k2⟩ := HS.out _ t2
  have hJ2 := hJ1.keep t2 m5
  have hK2 := hK1.keep t2 m4
  have hf2 := hf1.keep t2 (by simp; omega) (by simp; omega)
  clear hJ1 hK1 hf1 hd1 HCM
  go_wp2_with fail
  have HS2 : Hid (∀ w', Tch [] w2.drew w' → w'.cell? ⟨wb, 3, none⟩ = some (.pointer (some ⟨kb, 0, none⟩)) ∧ w'.cell? ⟨p, 1, none⟩ = some (.int .i64 i)) := fun w' t => (HS.out w' (t2.drew.trans (t.mono (by simp)))).2
  have HRM := HR.out w2.drew (hK2.keep (Tch.refl [] w2).drew (by simp)) (hf2.keep (Tch.refl [] w2).drew (by simp) (by simp))
  go_region_held3 (fun w' => w'.cell? ⟨wb, 3, none⟩ = some (.pointer (some ⟨kb, 0, none⟩)) ∧ w'.cell? ⟨p, 1, none⟩ = some (.int .i64 i))
    (first | exact HS2.out _ t3 | exact HS2.out _ (Tch.refl _ _))
    (first | (go_at_call 19; refine HRM.mono ?_; rintro e w3 ⟨rfl, hf3, t3⟩))
  have TT : Tch [db] W1.drew w3 := t2.drew.trans (t3.mono (by simp))
  obtain ⟨d1, d3, _⟩ := HS.out _ TT
  have t3' : Tch [] w2 w3 := (Tch.refl [] w2).drew.trans t3
  have hd3 := hd2.keep t3' (by simp) (by simp)
  have hJ3 := hJ2.keep t3' (by simp)
  have hK3 := hK2.keep t3' (by simp)
  have HQ : Hid (∀ n, IsJn (w3.drewN n) jb db r ∧ IsDs (w3.drewN n) db ds D) := fun n => ⟨hJ3.keep (tdrewN (Tch.refl [] w3) n) (by simp), hd3.keep (tdrewN (Tch.refl [] w3) n) (by simp) (by simp)⟩
  have HF : Hid (∀ n, SwPost wb db ds rb rs r D w (.returned (.bool true)) (w3.drewN n)) := fun n => by
    have TW : Tch [db, ds, rb, rs] w (w3.drewN n) := tdrewN ((T0.drew.mono (by simp)).trans (TT.mono (L' := [db, ds, rb, rs]) (by simp))) n
    exact ⟨rfl, D, hd3.keep (tdrewN (Tch.refl [] w3) n) (by simp) (by simp), hf3.keep (tdrewN (Tch.refl [] w3) n) (by simp) (by simp), HJRS.out _ TW, by omega, TW.mono (by simp)⟩
  clear c1 c3 k2 hJ2 hK2 hf2 hd2 HRM
  go_wp2_with fail
  go_quiet (first | (go_at_call 12; exact quietSame' (HJL.out _ (HQ.out _).1 (HQ.out _).2)) | (go_at_call 20; exact HRL.out w3 _ hK3 hf3))
  go_wp2
  go_ret
  exact HF.out _
end Go.Proofs.YtclnhgfionfbbaaGreatDoor
