/-
  Layer 6: 'readKeyForm'. Conditions: the place lies in the text; bytealg's MaxLen stands where it was laid.
-/
import Derived.Test.YtenohgogfddniaaRfd
import Derived.Test.YtenohgogfddniaaRdo
import Derived.Test.YtenohgogfddniaaShelf2
namespace Go.Proofs.Ytenohgogfddniaa
open Go.RowKit
set_option linter.unusedVariables false

/-- The first variable holds an int (bytealg.MaxLen). -/
def MaxL (w : World) : Prop := ∃ m, w.cell? ⟨0, 0, none⟩ = some (.int .i64 m) ∧ 0 < w.heap.size
theorem MaxL.keep {w w' : World} (h : MaxL w) (t : Tch [] w w') : MaxL w' := by
  obtain ⟨m, h1, h2⟩ := h
  exact ⟨m, by rw [t.cell h2 (by simp)]; exact h1, Nat.lt_of_lt_of_le h2 t.size⟩
/-- What is read of a value's bytes in a key. -/
def rdKey (k : Int) (L : List UInt8) : Int × Vl × Nat :=
  if k = 0 then (if L.length < 8 then (20, ⟨0, ⟨#[]⟩⟩, 0) else (0, ⟨unord (beN (L.take 8)), ⟨#[]⟩⟩, 8))
  else if (Lib.cut L [0]).2.2 = true then (0, ⟨0, ⟨(Lib.cut L [0]).1.toArray⟩⟩, (Lib.cut L [0]).1.length + 1) else (60, ⟨0, ⟨#[]⟩⟩, 0)
theorem rfrom_str (s : ByteArray) (q : Nat) (hq : q ≤ s.size) (w : World) : (Instr.slice 9 (.string s) (some (.int .i64 (q : Int))) none none).run Try.prog w = .ok (.string (s.extract q s.size)) w := by
  rw [run_slice_string_from_if _ _ _ _ _ Try.underlying9, if_pos (by omega), Int.toNat_natCast]
theorem cut_len (L : List UInt8) : (Lib.cut L [0]).1.length ≤ L.length := by
  unfold Lib.cut; split <;> simp; omega
set_option maxRecDepth 100000 in
set_option maxHeartbeats 1000000 in
theorem readKeyForm_any (k : Int) (s : ByteArray) (p : Nat) (w : World) (hs : s.size ≤ 1000000000) (hp : p ≤ s.size) (hm : MaxL w) :
    Calls Try.prog 39 #[.int .i64 k, .string s, .int .i64 p] w fun e w' => e = rdvE (rdKey k (s.data.toList.drop p)) p ∧ Tch [] w w' := by
  have hdt : (s.extract p s.size).data.toList = s.data.toList.drop p := by
    rw [Lib.extract_data]
    exact List.take_of_length_le (by rw [List.length_drop, ← Lib.size_eq]; omega)
  have hll : (s.data.toList.drop p).length ≤ 1000000000 := by rw [List.length_drop, ← Lib.size_eq]; omega
  have HO := Lib.hid (fun W => rdord_at s p W hs (by omega))
  generalize hL : s.data.toList.drop p = L at *
  by_cases h : k = 0
  · subst h
    have HF : Hid (∃ N B C, rdoE L p = .returned (.tuple #[.int .i64 N, .int .i64 B, .int .i64 C]) ∧ rdvE (rdKey 0 L) p = .returned (.tuple #[.agg #[.int .i64 N, .string ⟨#[]⟩], .int .i64 B, .int .i64 C])) := by
      unfold rdoE rdKey
      rw [if_pos rfl]
      by_cases hc : L.length < 8
      · rw [if_pos hc, if_pos hc]; exact ⟨_, _, _, rfl, rfl⟩
      · rw [if_neg hc, if_neg hc]; exact ⟨_, _, _, rfl, rfl⟩
    obtain ⟨N, B, C, e1, e2⟩ := HF.out
    rw [e1] at HO
    rw [e2]
    clear HF e1 e2 hL hdt hll
    go_enter Try.func39, Try.ntmps39
    go_wp2_with fail
    refine (HO.out _).mono ?_
    rintro e w' ⟨rfl, rfl⟩
    go_wp2_with fail
    have hb := blk_new w (.cells #[.int .i64 N, .string ⟨#[]⟩] 58)
    have q0 := blk_cell hb 0
    have q1 := blk_cell hb 1
    simp only [List.getElem?_toArray, List.getElem?_cons_zero, List.getElem?_cons_succ] at q0 q1
    exact bodyPost_ret (v := .tuple #[.agg #[.int .i64 N, .string ⟨#[]⟩], .int .i64 B, .int .i64 C]) (by simp [results, Try.results39, go_sem, q0, q1]) rfl ⟨rfl, (Tch.refl [] w).alloc _⟩
  · have hb : (k == 0) = false := by simp; exact h
    have hsl := rfrom_str s p hp (w.alloc (.cells #[.int .i64 0, .string ⟨#[]⟩] 58))
    have hb0 := blk_new w (.cells #[.int .i64 0, .string ⟨#[]⟩] 58)
    have T0 : Tch [] w (w.alloc (.cells #[.int .i64 0, .string ⟨#[]⟩] 58)) := (Tch.refl [] w).alloc _
    obtain ⟨m, hm1, _⟩ := hm.keep T0
    have HC := Lib.hid (Try.strings_Cut (s.extract p s.size) ⟨#[0]⟩ m (w.alloc (.cells #[.int .i64 0, .string ⟨#[]⟩] 58)) (by rw [Lib.size_eq, hdt]; omega) hm1)
    rw [hdt, show (⟨#[0]⟩ : ByteArray).data.toList = [0] from rfl] at HC
    have hcl := cut_len L
    have HK : Hid (rdKey k L = if (Lib.cut L [0]).2.2 = true then (0, ⟨0, ⟨(Lib.cut L [0]).1.toArray⟩⟩, (Lib.cut L [0]).1.length + 1) else (60, ⟨0, ⟨#[]⟩⟩, 0)) := if_neg h
    rw [HK.out]
    generalize Lib.cut L [0] = r at *
    obtain ⟨r1, r2, r3⟩ := r
    simp only at hcl HC ⊢
    have HB := Lib.hid hb0
    have HT0 := Lib.hid T0
    have hrl : (⟨r1.toArray⟩ : ByteArray).size = r1.length := List.size_toArray
    clear h hb0 T0 HK HO hdt hL hm1
    rcases r3 with _ | _
    · go_enter Try.func39, Try.ntmps39
      go_wp2_with fail
      refine HC.out.mono ?_
      rintro e w1 ⟨rfl, n, hw⟩
      have t1 : Tch [] (w.alloc (.cells #[.int .i64 0, .string ⟨#[]⟩] 58)) w1 := by rw [hw]; exact tdrewN (Tch.refl [] _) n
      clear hw HC
      have hb1 := t1.keep HB.out (by simp)
      have p0 : w1.cell? ⟨w.heap.size, 0, none⟩ = some (.int .i64 0) := by rw [blk_cell hb1]; rfl
      have p1 : w1.cell? ⟨w.heap.size, 1, none⟩ = some (.string ⟨#[]⟩) := by rw [blk_cell hb1]; rfl
      have f0 := blk_free hb1 0
      have f1 := blk_free hb1 1
      have hg1 : w.heap.size < w1.heap.size := lt_of_block hb1
      have HB1 := Lib.hid hb1
      have HT1 := Lib.hid (HT0.out.trans t1)
      clear hb1 t1 hsl
      go_wp2_with fail
      have h2 := blk_set (blk_set HB1.out 0 (.int .i64 0)) 1 (.string ⟨#[]⟩)
      have q0 := blk_cell h2 0
      have q1 := blk_cell h2 1
      have e2 : ((#[.int .i64 0, .string ⟨#[]⟩] : Array Value).setIfInBounds 0 (.int .i64 0)).setIfInBounds 1 (.string ⟨#[]⟩) = #[.int .i64 0, .string ⟨#[]⟩] := rfl
      rw [e2] at q0 q1
      simp only [List.getElem?_toArray, List.getElem?_cons_zero, List.getElem?_cons_succ] at q0 q1
      exact bodyPost_ret (v := .tuple #[.agg #[.int .i64 0, .string ⟨#[]⟩], .int .i64 0, .int .i64 60]) (by simp [results, Try.results39, go_sem, q0, q1]) rfl ⟨rfl, (HT1.out.setNew (Nat.le_refl _) _).setNew (Nat.le_refl _) _⟩
    · have HE : Hid (rdvE ((0, ⟨0, ⟨r1.toArray⟩⟩, r1.length + 1) : Int × Vl × Nat) p = .returned (.tuple #[.agg #[.int .i64 0, .string ⟨r1.toArray⟩], .int .i64 ((p : Int) + ((⟨r1.toArray⟩ : ByteArray).size : Int) + 1), .int .i64 0])) := by
        show _ = _
        rw [hrl]
        unfold rdvE Vl.agg
        simp only [if_pos]
        congr 4
      rw [if_pos rfl, HE.out]
      have hrs : (⟨r1.toArray⟩ : ByteArray).size ≤ 1000000000 := by omega
      generalize (⟨r1.toArray⟩ : ByteArray) = S at *
      clear hrl
      have HCL := Lib.hid (fun W => clone_any S W hrs)
      go_enter Try.func39, Try.ntmps39
      go_wp2_with fail
      refine HC.out.mono ?_
      rintro e w1 ⟨rfl, n, hw⟩
      have t1 : Tch [] (w.alloc (.cells #[.int .i64 0, .string ⟨#[]⟩] 58)) w1 := by rw [hw]; exact tdrewN (Tch.refl [] _) n
      clear hw HC
      go_wp2_with fail
      refine (HCL.out _).mono ?_
      rintro e w2 ⟨rfl, t2⟩
      have t1 := t1.trans t2
      clear t2
      have hb1 := t1.keep HB.out (by simp)
      have p0 : w2.cell? ⟨w.heap.size, 0, none⟩ = some (.int .i64 0) := by rw [blk_cell hb1]; rfl
      have p1 : w2.cell? ⟨w.heap.size, 1, none⟩ = some (.string ⟨#[]⟩) := by rw [blk_cell hb1]; rfl
      have f0 := blk_free hb1 0
      have f1 := blk_free hb1 1
      have hg1 : w.heap.size < w2.heap.size := lt_of_block hb1
      have HB1 := Lib.hid hb1
      have HT1 := Lib.hid (HT0.out.trans t1)
      clear hb1 t1 hsl
      go_wp2_with fail
      have h2 := blk_set (blk_set HB1.out 0 (.int .i64 0)) 1 (.string S)
      have q0 := blk_cell h2 0
      have q1 := blk_cell h2 1
      have e2 : ((#[.int .i64 0, .string ⟨#[]⟩] : Array Value).setIfInBounds 0 (.int .i64 0)).setIfInBounds 1 (.string S) = #[.int .i64 0, .string S] := rfl
      rw [e2] at q0 q1
      simp only [List.getElem?_toArray, List.getElem?_cons_zero, List.getElem?_cons_succ] at q0 q1
      exact bodyPost_ret (v := .tuple #[.agg #[.int .i64 0, .string S], .int .i64 ((p : Int) + (S.size : Int) + 1), .int .i64 0]) (by simp [results, Try.results39, go_sem, q0, q1]) rfl ⟨rfl, (HT1.out.setNew (Nat.le_refl _) _).setNew (Nat.le_refl _) _⟩
end Go.Proofs.Ytenohgogfddniaa
