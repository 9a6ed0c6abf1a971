/-
  The law's world: the program's disk and journal beside the document's; its open. Condition: the count of writes stays below the greatest int64.
-/
import Derived.Test.YtclnhgfionfbbaaGreatDoorOwnChs
import Derived.Test.YtclnhgfionfbbaaGreatDoorOpn
namespace Go.Proofs.YtclnhgfionfbbaaGreatDoor
open Go.RowKit
set_option linter.unusedVariables false

/-- Block wb is the law's world. -/
def IsWd (w : World) (wb db : Nat) (jp : Option Addr) (rb : Nat) (kp : Option Addr) : Prop :=
  w.heap[wb]? = some (.cells #[.pointer (some ⟨db, 0, none⟩), .pointer jp, .pointer (some ⟨rb, 0, none⟩), .pointer kp] 31 (0, 0))
theorem IsWd.keep {w w' : World} {wb db rb : Nat} {jp kp : Option Addr} {L : List Nat} (h : IsWd w wb db jp rb kp) (t : Tch L w w') (hn : wb ∉ L) : IsWd w' wb db jp rb kp := t.keep h hn
theorem IsWd.at_ {w : World} {wb db rb : Nat} {jp kp : Option Addr} (h : IsWd w wb db jp rb kp) :
    w.cell? ⟨wb, 0, none⟩ = some (.pointer (some ⟨db, 0, none⟩)) ∧ w.cell? ⟨wb, 1, none⟩ = some (.pointer jp) ∧ w.cell? ⟨wb, 2, none⟩ = some (.pointer (some ⟨rb, 0, none⟩)) ∧ w.cell? ⟨wb, 3, none⟩ = some (.pointer kp) := by
  refine ⟨?_, ?_, ?_, ?_⟩ <;> rw [blk_cell h] <;> rfl
theorem IsWd.free {w : World} {wb db rb : Nat} {jp kp : Option Addr} (h : IsWd w wb db jp rb kp) (o : Nat) : w.frozen? ⟨wb, o, none⟩ = false := blk_free h o
theorem IsWd.set1 {w : World} {wb db rb : Nat} {jp kp : Option Addr} (h : IsWd w wb db jp rb kp) (p : Option Addr) : IsWd (w.setCell ⟨wb, 1, none⟩ (.pointer p)) wb db p rb kp := blk_set h 1 _
theorem IsWd.set3 {w : World} {wb db rb : Nat} {jp kp : Option Addr} (h : IsWd w wb db jp rb kp) (p : Option Addr) : IsWd (w.setCell ⟨wb, 3, none⟩ (.pointer p)) wb db jp rb p := blk_set h 3 _

/-- The five blocks lie apart. -/
def Apart (wb db ds rb rs : Nat) : Prop := wb ≠ db ∧ wb ≠ ds ∧ wb ≠ rb ∧ wb ≠ rs ∧ db ≠ rb ∧ db ≠ rs ∧ ds ≠ rb ∧ ds ≠ rs
/-- The two journals: none on either side, or one on each, of room r. -/
def Jrs (w : World) (wb db ds rb rs : Nat) (r : Nat) : Prop :=
  IsWd w wb db none rb none ∨ ∃ jb kb, IsWd w wb db (some ⟨jb, 0, none⟩) rb (some ⟨kb, 0, none⟩) ∧ IsJn w jb db r ∧ IsRj w kb rb r ∧ r ≤ 500 ∧ jb ∉ [wb, db, ds, rb, rs] ∧ kb ∉ [wb, db, ds, rb, rs]

theorem jopen_room {room : Int} {D : Ds} (h : (jopen room D).1 = 0) : room.toNat ≤ 500 := by
  by_cases hr : room < 1 ∨ 500 < room
  · unfold jopen at h
    rw [if_pos hr] at h
    simp at h
  · omega
theorem Jrs.keep {w w' : World} {wb db ds rb rs r : Nat} {L : List Nat} (h : Jrs w wb db ds rb rs r) (t : Tch L w w') (ha : Apart wb db ds rb rs) (hL : ∀ k ∈ L, k ∈ [db, ds, rb, rs]) : Jrs w' wb db ds rb rs r := by
  obtain ⟨a1, a2, a3, a4, _, _, _, _⟩ := ha
  have hw : wb ∉ L := fun hm => by have := hL _ hm; simp at this; omega
  rcases h with h | ⟨jb, kb, h1, h2, h3, h4, h5, h6⟩
  · exact Or.inl (h.keep t hw)
  · have hj : jb ∉ L := fun hm => h5 (by have := hL _ hm; simp at this ⊢; omega)
    have hk : kb ∉ L := fun hm => h6 (by have := hL _ hm; simp at this ⊢; omega)
    exact Or.inr ⟨jb, kb, h1.keep t hw, h2.keep t hj, h3.keep t hk, h4, h5, h6⟩

set_option maxRecDepth 100000 in
set_option maxHeartbeats 1000000 in
theorem jopenw_any (wb db ds rb rs : Nat) (room : Int) (D : Ds) (jp kp : Option Addr) (w : World) (ha : Apart wb db ds rb rs) (h : IsWd w wb db jp rb kp) (hd : IsDs w db ds D) (hf : IsRf w rb rs D) (hn : D.done + 502 < 9223372036854775807) :
    Calls Tryz.prog 7 #[.pointer (some ⟨wb, 0, none⟩), .int .i64 room] w fun e w' => e = .returned (.bool true) ∧ (IsDs w' db ds (jopen room D).2 ∧ IsRf w' rb rs (jopen room D).2 ∧ Jrs w' wb db ds rb rs room.toNat ∧ Tch [wb, db, ds, rb, rs] w w') := by
  obtain ⟨a1, a2, a3, a4, a5, a6, a7, a8⟩ := ha
  have HO := Lib.hid (open_any db ds room D w hd hn)
  obtain ⟨c0, c1, c2, c3⟩ := h.at_
  have hwlt : wb < w.heap.size := lt_of_block h
  have hrlt := hf.lt
  have hdlt := hd.lt
  have k1 : wb ∉ [rb, rs] := by simp; exact ⟨a3, a4⟩
  have k2 : db ∉ [rb, rs] := by simp; exact ⟨a5, a6⟩
  have k3 : ds ∉ [rb, rs] := by simp; exact ⟨a7, a8⟩
  have m1 : db ∉ [wb] := by simp; exact Ne.symm a1
  have m2 : ds ∉ [wb] := by simp; exact Ne.symm a2
  have m3 : rb ∉ [wb] := by simp; exact Ne.symm a3
  have m4 : rs ∉ [wb] := by simp; exact Ne.symm a4
  have n1 : wb ∉ [db, ds] := by simp; exact ⟨a1, a2⟩
  have n2 : rb ∉ [db, ds] := by simp; exact ⟨Ne.symm a5, Ne.symm a7⟩
  have n3 : rs ∉ [db, ds] := by simp; exact ⟨Ne.symm a6, Ne.symm a8⟩
  have HR5 : Hid ((jopen room D).1 = 0 → room.toNat ≤ 500) := jopen_room
  clear hd
  go_enter Tryz.func7, Tryz.ntmps7
  go_wp2_with fail
  refine HO.out.mono ?_
  rintro e w1 ⟨t1, hd1, hx1⟩
  have h1 := h.keep t1 n1
  have hf1 := hf.keep t1 n2 n3
  have T1 : Tch [wb, db, ds, rb, rs] w w1 := t1.mono (by simp)
  clear h hf c0 c1 c2 c3 HO t1
  rcases hx1 with ⟨e0, jb, rfl, hjb, hj1⟩ | ⟨e0, rfl⟩
  · obtain ⟨d0, d1, d2, d3⟩ := h1.at_
    have z1 := h1.free 1
    have h2 := h1.set1 (some ⟨jb, 0, none⟩)
    have t2 : Tch [wb] w1 (w1.setCell ⟨wb, 1, none⟩ (.pointer (some ⟨jb, 0, none⟩))) := (Tch.refl [wb] w1).setCell (p := ⟨wb, 1, none⟩) (by simp) _
    have hd2 := hd1.keep t2 m1 m2
    have hf2 := hf1.keep t2 m3 m4
    have hj2 := hj1.keep t2 (by simp; omega)
    have hjn : jb ∉ [wb, db, ds, rb, rs] := by simp; omega
    have T2 := T1.trans (t2.mono (L' := [wb, db, ds, rb, rs]) (by simp))
    obtain ⟨f0, f1, f2, f3⟩ := h2.at_
    go_wp2_with fail
    generalize w1.setCell ⟨wb, 1, none⟩ (.pointer (some ⟨jb, 0, none⟩)) = w2 at h2 hd2 hf2 T2 f0 f1 f2 f3 t2 hj2 ⊢
    have hs2 := T2.size
    refine (ropen_any rb rs room D w2 hf2 hn).mono ?_
    rintro e w3 ⟨t3, hf3, hx3⟩
    have h3 := h2.keep t3 k1
    have hd3 := hd2.keep t3 k2 k3
    have T3 := T2.trans (t3.mono (L' := [wb, db, ds, rb, rs]) (by simp))
    clear h2 f0 f1 f2 f3 d0 d1 d2 d3 z1 h1 hd1 hf1 hd2 hf2
    obtain ⟨f0, f1, f2, f3⟩ := h3.at_
    have z3 := h3.free 3
    have hj3 := hj2.keep t3 (by simp at hjn ⊢; omega)
    rcases hx3 with ⟨_, kb, rfl, hkb, hk3⟩ | ⟨e9, _⟩
    rotate_left
    · exact absurd e0 e9
    have h4 := h3.set3 (some ⟨kb, 0, none⟩)
    have t4 : Tch [wb] w3 (w3.setCell ⟨wb, 3, none⟩ (.pointer (some ⟨kb, 0, none⟩))) := (Tch.refl [wb] w3).setCell (p := ⟨wb, 3, none⟩) (by simp) _
    have hkn : kb ∉ [wb, db, ds, rb, rs] := by simp; omega
    have HF : Hid (IsDs _ db ds (jopen room D).2 ∧ IsRf _ rb rs (jopen room D).2 ∧ Jrs _ wb db ds rb rs room.toNat ∧ Tch [wb, db, ds, rb, rs] w _) := ⟨hd3.keep t4 m1 m2, hf3.keep t4 m3 m4, Or.inr ⟨jb, kb, h4, hj3.keep t4 (by simp at hjn ⊢; omega), hk3.keep t4 (by simp at hkn ⊢; omega), HR5.out e0, hjn, hkn⟩, T3.trans (t4.mono (by simp))⟩
    obtain ⟨g0, g1, g2, g3⟩ := h4.at_
    clear h3 hd3 hf3 h4 t4
    go_wp2_with fail
    go_ret
    refine ⟨?_, HF.out⟩
    rfl
  · obtain ⟨d0, d1, d2, d3⟩ := h1.at_
    have z1 := h1.free 1
    have h2 := h1.set1 none
    have t2 : Tch [wb] w1 (w1.setCell ⟨wb, 1, none⟩ (.pointer none)) := (Tch.refl [wb] w1).setCell (p := ⟨wb, 1, none⟩) (by simp) _
    have hd2 := hd1.keep t2 m1 m2
    have hf2 := hf1.keep t2 m3 m4
    have T2 := T1.trans (t2.mono (L' := [wb, db, ds, rb, rs]) (by simp))
    obtain ⟨f0, f1, f2, f3⟩ := h2.at_
    go_wp2_with fail
    generalize w1.setCell ⟨wb, 1, none⟩ (.pointer none) = w2 at h2 hd2 hf2 T2 f0 f1 f2 f3 t2 ⊢
    have hs2 := T2.size
    refine (ropen_any rb rs room D w2 hf2 hn).mono ?_
    rintro e w3 ⟨t3, hf3, hx3⟩
    have h3 := h2.keep t3 k1
    have hd3 := hd2.keep t3 k2 k3
    have T3 := T2.trans (t3.mono (L' := [wb, db, ds, rb, rs]) (by simp))
    clear h2 f0 f1 f2 f3 d0 d1 d2 d3 z1 h1 hd1 hf1 hd2 hf2
    obtain ⟨f0, f1, f2, f3⟩ := h3.at_
    have z3 := h3.free 3
    rcases hx3 with ⟨e9, _⟩ | ⟨_, rfl⟩
    · exact absurd e9 e0
    have hne : ((jopen room D).1 != 0) = true := by simpa using e0
    have h4 := h3.set3 none
    have t4 : Tch [wb] w3 (w3.setCell ⟨wb, 3, none⟩ (.pointer none)) := (Tch.refl [wb] w3).setCell (p := ⟨wb, 3, none⟩) (by simp) _
    have HF : Hid (IsDs _ db ds (jopen room D).2 ∧ IsRf _ rb rs (jopen room D).2 ∧ Jrs _ wb db ds rb rs room.toNat ∧ Tch [wb, db, ds, rb, rs] w _) := ⟨hd3.keep t4 m1 m2, hf3.keep t4 m3 m4, Or.inl h4, T3.trans (t4.mono (by simp))⟩
    obtain ⟨g0, g1, g2, g3⟩ := h4.at_
    clear h3 hd3 hf3 h4 t4
    go_wp2_with fail
    go_ret
    refine ⟨?_, HF.out⟩
    rfl
end Go.Proofs.YtclnhgfionfbbaaGreatDoor
