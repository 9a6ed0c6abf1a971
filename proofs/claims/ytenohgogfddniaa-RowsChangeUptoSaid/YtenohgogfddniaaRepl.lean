/-
  Layer 6: 'replaced'.
-/
import Derived.Test.YtenohgogfddniaaPon
import Derived.Test.YtenohgogfddniaaFch
namespace Go.Proofs.Ytenohgogfddniaa
open Go.RowKit
set_option linter.unusedVariables false

/-- The changes by which one pair takes another's place. -/
def replL (wk ik iv : ByteArray) : List Ch := (if ik.toList.isEmpty then [] else [⟨ik, iv, false⟩]) ++ (if !wk.toList.isEmpty && wk.toList != ik.toList then [⟨wk, ⟨#[]⟩, true⟩] else [])
def RplPost (w : World) (l : List Ch) (e : Ending) (w' : World) : Prop := ∃ x c, e = .returned (.slice x l.length c) ∧ w'.ownsRow w.heap.size 78 3 (.slice x l.length c) l.length (l.flatMap fChg) ∧ Tch [] w w'
theorem cells_threeP (w : World) (x y z : Value) (T : TypeId) : ∀ j u, [x, y, z][j]? = some u → (w.alloc (.cells #[x, y, z] T)).cell? ((⟨w.heap.size, 0, none⟩ : Addr).add j) = some u := fun j u hu => by
  rw [add_mk, blk_cell (blk_new w _), Nat.zero_add]; simpa using hu
theorem Try.info_tchr : (Try.prog.info? 78).map (fun i => (i.zero, i.size, i.bytes)) = some (some (.agg #[.string ⟨#[]⟩, .string ⟨#[]⟩, .bool false]), 3, 40) := by kernel_rfl
set_option maxRecDepth 100000 in
set_option maxHeartbeats 4000000 in
theorem replaced_any (wk wv ik iv : ByteArray) (w : World) :
    Calls Try.prog 27 #[.agg #[.string wk, .string wv], .agg #[.string ik, .string iv]] w (RplPost w (replL wk ik iv)) := by
  obtain ⟨i0, hi, hz0, hz1, hz2⟩ := info_parts Try.info_tchr
  obtain ⟨W2, hW2⟩ : ∃ W2, W2 = (w.alloc (.cells #[.string wk, .string wv] 28)).alloc (.cells #[.string ik, .string iv] 28) := ⟨_, rfl⟩
  have T2 : Tch [] w W2 := by rw [hW2]; exact ((Tch.refl [] w).alloc _).alloc _
  have hb1 : W2.heap[w.heap.size]? = some (.cells #[.string wk, .string wv] 28 (0, 0)) := by rw [hW2]; exact blk_alloc (blk_new w _) _
  have hb2 : W2.heap[w.heap.size + 1]? = some (.cells #[.string ik, .string iv] 28 (0, 0)) := by
    have h := blk_new (w.alloc (.cells #[.string wk, .string wv] 28)) (.cells #[.string ik, .string iv] 28)
    rw [show (w.alloc (.cells #[.string wk, .string wv] 28)).heap.size = w.heap.size + 1 from Array.size_push _] at h
    rw [hW2]; exact h
  have HX : Hid (∀ W, Tch [] W2 W → W.cell? ⟨w.heap.size, 0, none⟩ = some (.string wk) ∧ W.cell? ⟨w.heap.size, 1, none⟩ = some (.string wv) ∧ W.cell? ⟨w.heap.size + 1, 0, none⟩ = some (.string ik) ∧ W.cell? ⟨w.heap.size + 1, 1, none⟩ = some (.string iv)) := fun W t => by
    have h1 := t.keep hb1 (by simp)
    have h2 := t.keep hb2 (by simp)
    exact ⟨by rw [blk_cell h1]; rfl, by rw [blk_cell h1]; rfl, by rw [blk_cell h2]; rfl, by rw [blk_cell h2]; rfl⟩
  have hg : w.heap.size + 1 < W2.heap.size := lt_of_block hb2
  have hg0 : w.heap.size < W2.heap.size := by omega
  have HT2 := Lib.hid T2
  clear hb1 hb2 T2
  rcases hA : ik.toList.isEmpty with _ | _
  · have hA1 : ¬ ik.toList = [] := by intro h; rw [h] at hA; simp at hA
    rcases hE : (!wk.toList.isEmpty && wk.toList != ik.toList) with _ | _
    · have HL := Lib.hid (show replL wk ik iv = [⟨ik, iv, false⟩] from by unfold replL; rw [hA, hE]; rfl)
      rw [HL.out]
      go_enter Try.func27, Try.ntmps27
      go_upto_region 1 with fail
      rw [← hW2]
      clear hW2
      obtain ⟨x0, x1, x2, x3⟩ := HX.out W2 (Tch.refl _ _)
      have hs4 : W2.heap.size ≤ W2.heap.size := Nat.le_refl _
      have hn0 : (W2.alloc (.cells #[.string ik, .string iv, .bool false] 78)).ownsRow W2.heap.size 78 3 (.slice none 0 0) 0 [] := World.ownsRow_nil _ W2.heap.size 78 3
      go_wp2_with (at_builtin; refine wpList_append_own _ rfl _ _ 47 rfl W2.heap.size 78 i0 (.agg #[.string ⟨#[]⟩, .string ⟨#[]⟩, .bool false]) 3 40 Try.underlying47 hi hz0 hz1 hz2 rfl (by decide) _ _ _ rfl hn0 ⟨W2.heap.size, 0, none⟩ 1 1 [.string ik, .string iv, .bool false] rfl rfl (cells_threeP W2 _ _ _ 78) (by intro u hu; simp only [List.mem_cons, List.not_mem_nil, or_false] at hu; rcases hu with rfl | rfl | rfl <;> rfl) ?c3 ?c4 ?c5 ?_)
      case c3 => unfold maxLen; omega
      case c4 => omega
      case c5 => exact Nat.le_trans hs4 ((Tch.refl [] _).alloc _).size
      intro v' w4 hown2 hgrow _
      have T4 : Tch [] W2 w4 := ((Tch.refl [] W2).alloc (.cells #[.string ik, .string iv, .bool false] 78)).own hn0 (Nat.le_refl _) hgrow
      obtain ⟨x2', c2, rfl⟩ := own_slice hown2
      have HE : Hid (RplPost w [⟨ik, iv, false⟩] (.returned (.slice x2' 1 c2)) w4) := ⟨x2', c2, rfl, own_base hown2 (by omega), HT2.out.trans T4⟩
      generalize RplPost w [(⟨ik, iv, false⟩ : Ch)] = Q at *
      clear hown2 hgrow x0 x1 x2 x3 hn0
      obtain ⟨x0, x1, x2, x3⟩ := HX.out w4 T4
      have hg4 : w.heap.size + 1 < w4.heap.size := Nat.lt_of_lt_of_le hg T4.size
      by_cases hw : wk.toList = []
      · clear hE
        go_wp2_with fail
        first | exact HE.out | (go_ret; exact HE.out)
      · have hwe : wk.toList.isEmpty = false := by simpa using hw
        have hne : (wk.toList == ik.toList) = true := by rw [hwe] at hE; simpa using hE
        clear hE
        go_wp2_with fail
        first | exact HE.out | (go_ret; exact HE.out)
    · have HL := Lib.hid (show replL wk ik iv = [⟨ik, iv, false⟩, ⟨wk, ⟨#[]⟩, true⟩] from by unfold replL; rw [hA, hE]; rfl)
      rw [HL.out]
      have hwe : wk.toList.isEmpty = false := by rw [Bool.and_eq_true] at hE; simpa using hE.1
      have hw : ¬ wk.toList = [] := by intro h; rw [h] at hwe; simp at hwe
      have hne : (wk.toList == ik.toList) = false := by rw [Bool.and_eq_true] at hE; simpa using hE.2
      clear hE
      go_enter Try.func27, Try.ntmps27
      go_upto_region 1 with fail
      rw [← hW2]
      clear hW2
      obtain ⟨x0, x1, x2, x3⟩ := HX.out W2 (Tch.refl _ _)
      have hs4 : W2.heap.size ≤ W2.heap.size := Nat.le_refl _
      have hn0 : (W2.alloc (.cells #[.string ik, .string iv, .bool false] 78)).ownsRow W2.heap.size 78 3 (.slice none 0 0) 0 [] := World.ownsRow_nil _ W2.heap.size 78 3
      go_wp2_with (at_builtin; refine wpList_append_own _ rfl _ _ 47 rfl W2.heap.size 78 i0 (.agg #[.string ⟨#[]⟩, .string ⟨#[]⟩, .bool false]) 3 40 Try.underlying47 hi hz0 hz1 hz2 rfl (by decide) _ _ _ rfl hn0 ⟨W2.heap.size, 0, none⟩ 1 1 [.string ik, .string iv, .bool false] rfl rfl (cells_threeP W2 _ _ _ 78) (by intro u hu; simp only [List.mem_cons, List.not_mem_nil, or_false] at hu; rcases hu with rfl | rfl | rfl <;> rfl) ?c3 ?c4 ?c5 ?_)
      case c3 => unfold maxLen; omega
      case c4 => omega
      case c5 => exact Nat.le_trans hs4 ((Tch.refl [] _).alloc _).size
      intro v' w4 hown2 hgrow _
      have T4 : Tch [] W2 w4 := ((Tch.refl [] W2).alloc (.cells #[.string ik, .string iv, .bool false] 78)).own hn0 (Nat.le_refl _) hgrow
      obtain ⟨x2', c2, rfl⟩ := own_slice hown2
      have HO := Lib.hid hown2
      clear hown2 hgrow x0 x1 x2 x3 hn0
      obtain ⟨x0, x1, x2, x3⟩ := HX.out w4 T4
      have hg4 : w.heap.size + 1 < w4.heap.size := Nat.lt_of_lt_of_le hg T4.size
      have hg40 : w.heap.size < w4.heap.size := by omega
      have hs4 := T4.size
      go_wp2_with (at_builtin; refine wpList_append_own _ rfl _ _ 47 rfl W2.heap.size 78 i0 (.agg #[.string ⟨#[]⟩, .string ⟨#[]⟩, .bool false]) 3 40 Try.underlying47 hi hz0 hz1 hz2 rfl (by decide) _ _ _ rfl (HO.out.alloc _) ⟨w4.heap.size, 0, none⟩ 1 1 [.string wk, .string ⟨#[]⟩, .bool true] rfl rfl (cells_threeP w4 _ _ _ 78) (by intro u hu; simp only [List.mem_cons, List.not_mem_nil, or_false] at hu; rcases hu with rfl | rfl | rfl <;> rfl) ?c3 ?c4 ?c5 ?_)
      case c3 => unfold maxLen; omega
      case c4 => omega
      case c5 => exact Nat.le_trans hs4 ((Tch.refl [] _).alloc _).size
      intro v' w5 hown3 hgrow _
      have T5 : Tch [] W2 w5 := (T4.alloc (.cells #[.string wk, .string ⟨#[]⟩, .bool true] 78)).own (HO.out.alloc _) (Nat.le_refl _) hgrow
      obtain ⟨x3', c3, rfl⟩ := own_slice hown3
      have HE : Hid (RplPost w [⟨ik, iv, false⟩, ⟨wk, ⟨#[]⟩, true⟩] (.returned (.slice x3' 2 c3)) w5) := ⟨x3', c3, rfl, own_base hown3 (by omega), HT2.out.trans T5⟩
      generalize RplPost w [(⟨ik, iv, false⟩ : Ch), ⟨wk, ⟨#[]⟩, true⟩] = Q at *
      clear hown3 hgrow HO x0 x1 x2 x3
      go_wp2_with fail
      first | exact HE.out | (go_ret; exact HE.out)
  · have hA1 : ik.toList = [] := by simpa using hA
    by_cases hw : wk.toList = []
    · have HL := Lib.hid (show replL wk ik iv = [] from by unfold replL; rw [hA, hw]; rfl)
      rw [HL.out]
      have HE : Hid (RplPost w [] (.returned (.slice none 0 0)) W2) := ⟨none, 0, rfl, World.ownsRow_nil _ w.heap.size 78 3, HT2.out⟩
      generalize RplPost w ([] : List Ch) = Q at *
      go_enter Try.func27, Try.ntmps27
      go_upto_region 1 with fail
      rw [← hW2]
      clear hW2
      obtain ⟨x0, x1, x2, x3⟩ := HX.out W2 (Tch.refl _ _)
      have hs4 : W2.heap.size ≤ W2.heap.size := Nat.le_refl _
      go_wp2_with fail
      first | exact HE.out | (go_ret; exact HE.out)
    · have hwe : wk.toList.isEmpty = false := by simpa using hw
      have hne : (wk.toList == ik.toList) = false := by rw [hA1]; simpa using hw
      have HL := Lib.hid (show replL wk ik iv = [⟨wk, ⟨#[]⟩, true⟩] from by unfold replL; rw [hA, hwe, show (wk.toList != ik.toList) = true from by rw [bne, hne]; rfl]; rfl)
      rw [HL.out]
      go_enter Try.func27, Try.ntmps27
      go_upto_region 1 with fail
      rw [← hW2]
      clear hW2
      obtain ⟨x0, x1, x2, x3⟩ := HX.out W2 (Tch.refl _ _)
      have hs4 : W2.heap.size ≤ W2.heap.size := Nat.le_refl _
      have hn0 : (W2.alloc (.cells #[.string wk, .string ⟨#[]⟩, .bool true] 78)).ownsRow W2.heap.size 78 3 (.slice none 0 0) 0 [] := World.ownsRow_nil _ W2.heap.size 78 3
      go_wp2_with (at_builtin; refine wpList_append_own _ rfl _ _ 47 rfl W2.heap.size 78 i0 (.agg #[.string ⟨#[]⟩, .string ⟨#[]⟩, .bool false]) 3 40 Try.underlying47 hi hz0 hz1 hz2 rfl (by decide) _ _ _ rfl hn0 ⟨W2.heap.size, 0, none⟩ 1 1 [.string wk, .string ⟨#[]⟩, .bool true] rfl rfl (cells_threeP W2 _ _ _ 78) (by intro u hu; simp only [List.mem_cons, List.not_mem_nil, or_false] at hu; rcases hu with rfl | rfl | rfl <;> rfl) ?c3 ?c4 ?c5 ?_)
      case c3 => unfold maxLen; omega
      case c4 => omega
      case c5 => exact Nat.le_trans hs4 ((Tch.refl [] _).alloc _).size
      intro v' w4 hown2 hgrow _
      have T4 : Tch [] W2 w4 := ((Tch.refl [] W2).alloc (.cells #[.string wk, .string ⟨#[]⟩, .bool true] 78)).own hn0 (Nat.le_refl _) hgrow
      obtain ⟨x2', c2, rfl⟩ := own_slice hown2
      have HE : Hid (RplPost w [⟨wk, ⟨#[]⟩, true⟩] (.returned (.slice x2' 1 c2)) w4) := ⟨x2', c2, rfl, own_base hown2 (by omega), HT2.out.trans T4⟩
      generalize RplPost w [(⟨wk, ⟨#[]⟩, true⟩ : Ch)] = Q at *
      clear hown2 hgrow x0 x1 x2 x3 hn0
      go_wp2_with fail
      first | exact HE.out | (go_ret; exact HE.out)
end Go.Proofs.Ytenohgogfddniaa
