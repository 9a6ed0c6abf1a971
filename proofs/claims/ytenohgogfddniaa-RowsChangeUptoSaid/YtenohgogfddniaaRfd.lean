/-
  Layer 6: 'readField'.
-/
import Derived.Test.YtenohgogfddniaaRdi
import Derived.Test.YtenohgogfddniaaKf
namespace Go.Proofs.Ytenohgogfddniaa
open Go.RowKit
set_option linter.unusedVariables false

/-- What is read of a value's bytes: the error, the value, how many bytes. -/
def rdField (k : Int) (L : List UInt8) : Int × Vl × Nat :=
  if k = 0 then (if (rdu L 0 0).1 = 0 then (0, ⟨unzz (rdu L 0 0).2.1, ⟨#[]⟩⟩, (rdu L 0 0).2.2) else ((rdu L 0 0).1, ⟨0, ⟨#[]⟩⟩, 0))
  else ((rtx L).1, ⟨0, (rtx L).2.1⟩, (rtx L).2.2)
/-- .. as it is answered. -/
def rdvE (r : Int × Vl × Nat) (p : Nat) : Ending := .returned (.tuple #[r.2.1.agg, .int .i64 (if r.1 = 0 then ((p + r.2.2 : Nat) : Int) else 0), .int .i64 r.1])
set_option maxRecDepth 100000 in
set_option maxHeartbeats 1000000 in
theorem readField_any (k : Int) (s : ByteArray) (p : Nat) (w : World) (hs : s.size ≤ 1000000000) :
    Calls Try.prog 40 #[.int .i64 k, .string s, .int .i64 p] w fun e w' => e = rdvE (rdField k (s.data.toList.drop p)) p ∧ Tch [] w w' := by
  generalize hL : s.data.toList.drop p = L
  by_cases h : k = 0
  · subst h
    have HC := Lib.hid (fun W => rdint_at s p W hs)
    rw [hL] at HC
    have HF : Hid (∃ N B C, rdiE L p = .returned (.tuple #[.int .i64 N, .int .i64 B, .int .i64 C]) ∧ rdvE (rdField 0 L) p = .returned (.tuple #[.agg #[.int .i64 N, .string ⟨#[]⟩], .int .i64 B, .int .i64 C])) := by
      refine ⟨_, _, _, rfl, ?_⟩
      unfold rdvE rdField Vl.agg
      rw [if_pos rfl]
      by_cases hc : (rdu L 0 0).1 = 0
      · rw [if_pos hc]; simp [hc]
      · rw [if_neg hc]; simp [hc]
    obtain ⟨N, B, C, e1, e2⟩ := HF.out
    rw [e1] at HC
    rw [e2]
    clear HF e1 e2 hL
    go_enter Try.func40, Try.ntmps40
    go_wp2_with fail
    refine (HC.out _).mono ?_
    rintro e w' ⟨rfl, rfl⟩
    go_wp2_with fail
    have hb := blk_new w (.cells #[.int .i64 N, .string ⟨#[]⟩] 58)
    have q0 := blk_cell hb 0
    have q1 := blk_cell hb 1
    simp only [List.getElem?_toArray, List.getElem?_cons_zero, List.getElem?_cons_succ] at q0 q1
    exact bodyPost_ret (v := .tuple #[.agg #[.int .i64 N, .string ⟨#[]⟩], .int .i64 B, .int .i64 C]) (by simp [results, Try.results40, go_sem, q0, q1]) rfl ⟨rfl, (Tch.refl [] w).alloc _⟩
  · have hb : (k == 0) = false := by simp; exact h
    have hb0 := blk_new w (.cells #[.int .i64 0, .string ⟨#[]⟩] 58)
    have HC := Lib.hid (rdtext_at s p (w.alloc (.cells #[.int .i64 0, .string ⟨#[]⟩] 58)) hs)
    rw [hL] at HC
    have HF : Hid (∃ S B C, rtxE L p = .returned (.tuple #[.string S, .int .i64 B, .int .i64 C]) ∧ rdvE (rdField k L) p = .returned (.tuple #[.agg #[.int .i64 0, .string S], .int .i64 B, .int .i64 C])) := by
      refine ⟨_, _, _, rfl, ?_⟩
      unfold rdvE rdField Vl.agg
      rw [if_neg h]
    obtain ⟨S, B, C, e1, e2⟩ := HF.out
    rw [e1] at HC
    rw [e2]
    have HB := Lib.hid hb0
    clear HF e1 e2 hL h hb0
    go_enter Try.func40, Try.ntmps40
    go_wp2_with fail
    refine HC.out.mono ?_
    rintro e w1 ⟨rfl, t1⟩
    have hb1 := t1.keep HB.out (by simp)
    have p0 : w1.cell? ⟨w.heap.size, 0, none⟩ = some (.int .i64 0) := by rw [blk_cell hb1]; rfl
    have p1 : w1.cell? ⟨w.heap.size, 1, none⟩ = some (.string ⟨#[]⟩) := by rw [blk_cell hb1]; rfl
    have f0 := blk_free hb1 0
    have f1 := blk_free hb1 1
    have hg1 : w.heap.size < w1.heap.size := lt_of_block hb1
    have HB1 := Lib.hid hb1
    have HT1 := Lib.hid (((Tch.refl [] w).alloc (.cells #[.int .i64 0, .string ⟨#[]⟩] 58)).trans t1)
    clear hb1 t1 HC
    go_wp2_with fail
    have h2 := blk_set (blk_set HB1.out 0 (.int .i64 0)) 1 (.string S)
    have q0 := blk_cell h2 0
    have q1 := blk_cell h2 1
    have e2 : ((#[.int .i64 0, .string ⟨#[]⟩] : Array Value).setIfInBounds 0 (.int .i64 0)).setIfInBounds 1 (.string S) = #[.int .i64 0, .string S] := rfl
    rw [e2] at q0 q1
    simp only [List.getElem?_toArray, List.getElem?_cons_zero, List.getElem?_cons_succ] at q0 q1
    exact bodyPost_ret (v := .tuple #[.agg #[.int .i64 0, .string S], .int .i64 B, .int .i64 C]) (by simp [results, Try.results40, go_sem, q0, q1]) rfl ⟨rfl, (HT1.out.setNew (Nat.le_refl _) _).setNew (Nat.le_refl _) _⟩
end Go.Proofs.Ytenohgogfddniaa
