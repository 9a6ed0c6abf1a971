/-
  The document's 'Int' and 'Ordered' (chandlerref02), and what is joined of them.
-/
import Derived.Test.YtenohgogfddniaaRfa
import Derived.Test.YtenohgogfddniaaRUint
namespace Go.Proofs.Ytenohgogfddniaa
open Go.RowKit
set_option linter.unusedVariables false

set_option maxRecDepth 100000 in
set_option maxHeartbeats 1000000 in
theorem rint_any (v : Int) (w : World) (h1 : -9223372036854775808 ≤ v) (h2 : v < 9223372036854775808) :
    Calls Try.prog 22 #[.int .i64 v] w fun e w' => e = .returned (.string ⟨(ub (zz v)).toArray⟩) ∧ Tch [] w w' := by
  have HC := Lib.hid (fun W => ruint_any (zz v) W (zz_lt h1 h2))
  by_cases h : v < 0
  · have hb : decide (0 ≤ v) = false := by simp; exact h
    have HZ := Lib.hid (show -(v + 1) * 2 + 1 = ((zz v : Nat) : Int) from by unfold zz; rw [if_pos h]; omega)
    go_enter Try.func22, Try.ntmps22
    go_wp2_with fail
    rw [HZ.out]
    refine (HC.out _).mono ?_
    rintro e w' ⟨rfl, T⟩
    go_wp2
    go_ret
    exact ⟨rfl, T⟩
  · have hb : decide (0 ≤ v) = true := by simp; omega
    have HZ := Lib.hid (show v * 2 = ((zz v : Nat) : Int) from by unfold zz; rw [if_neg h]; omega)
    go_enter Try.func22, Try.ntmps22
    go_wp2_with fail
    rw [HZ.out]
    refine (HC.out _).mono ?_
    rintro e w' ⟨rfl, T⟩
    go_wp2
    go_ret
    exact ⟨rfl, T⟩

def RorRel (w : World) (U : Nat) (v5 v4 : Value) (wr : World) : Prop :=
  ∃ k : Nat, k ≤ 8 ∧ v5 = .int .i64 (((8 - k : Nat) : Int) - 1) ∧ v4 = .int .u64 ((U / 256 ^ k : Nat) : Int) ∧ wr.heap[w.heap.size]? = some (.cells (bebC k U) 5 (0, 0)) ∧ Tch [] w wr

set_option maxRecDepth 100000 in
set_option maxHeartbeats 1000000 in
theorem rord_any (v : Int) (w : World) (h1 : -9223372036854775808 ≤ v) (h2 : v < 9223372036854775808) :
    Calls Try.prog 35 #[.int .i64 v] w fun e w' => e = .returned (.string ⟨(ord v).toArray⟩) ∧ Tch [] w w' := by
  have HU := Lib.hid (show IntKind.u64.wrap (IntKind.u64.wrap v + 9223372036854775808) = ((ordN v : Nat) : Int) from by
    rw [IntKind.wrap_u64, IntKind.wrap_u64]; unfold ordN; omega)
  have hmk : ∀ W : World, (Instr.makeSlice 70 (.int .i64 8) (.int .i64 8)).run Try.prog W = .ok (.slice (some ⟨W.heap.size, 0, none⟩) 8 8) (W.alloc (.cells (bebC 0 0) 5)) := fun W => by kernel_rfl
  have hb := Lib.hid (blk_new w (.cells (bebC 0 0) 5))
  go_enter Try.func35, Try.ntmps35
  go_upto_region 3 with fail
  rw [HU.out]
  go_wp2_with fail
  go_loopw [5, 4] (fun v5 v4 wr => RorRel w (ordN v) v5 v4 wr) (fun v5 _ _ => (intOf v5 + 1).toNat)
  case atStart => exact ⟨0, by omega, rfl, by simp, hb.out, (Tch.refl [] w).alloc _⟩
  case round =>
    obtain ⟨k, hk, rfl, rfl, hblk, T⟩ := hrel
    by_cases hk0 : k < 8
    · have hj2 : ((8 - k : Nat) : Int) - 1 = ((7 - k : Nat) : Int) := by omega
      rw [hj2]
      have hj3 : 7 - k < 8 := by omega
      have hsz := bebC_size (ordN v) hk
      have hc : wr.cell? ⟨w.heap.size, 7 - k, none⟩ = some ((bebC k (ordN v))[7 - k]'(by omega)) := by rw [blk_cell hblk]; exact Array.getElem?_eq_getElem _
      have hz : wr.frozen? ⟨w.heap.size, 7 - k, none⟩ = false := blk_free hblk _
      have hk8 : (0 : Int) ≤ ((7 - k : Nat) : Int) := by omega
      generalize (bebC k (ordN v))[7 - k]'(by omega) = u0 at hc
      have HB := Lib.hid hblk
      have hq64 : ordN v / 256 ^ k < 18446744073709551616 := Nat.lt_of_le_of_lt (Nat.div_le_self _ _) (ordN_lt h1 h2)
      obtain ⟨q, hq⟩ : ∃ q, q = ordN v / 256 ^ k := ⟨_, rfl⟩
      rw [← hq] at hq64 ⊢
      have HQ := Lib.hid hq
      have hqd : (q : Int).tdiv 256 = ((q / 256 : Nat) : Int) := rfl
      have hqm : (q : Int).tmod 256 = ((q % 256 : Nat) : Int) := rfl
      clear hblk hsz hj2 hq
      go_wp2
      go_roundw
      case rel =>
        refine ⟨k + 1, by omega, by rw [show 8 - (k + 1) = 7 - k from by omega], ?_, ?_, T.setNew (Nat.le_refl _) _⟩
        · rw [Nat.pow_succ, ← Nat.div_div_eq_div_mul, ← HQ.out]
          first | rfl | (rw [hqd]; first | rfl | (rw [wrap_self .u64 (by omega) (by omega)])) | (congr 1; simp only [IntKind.wrap_u64]; omega)
        · have h := blk_set HB.out (7 - k) (.int .u8 ((ordN v / 256 ^ k % 256 : Nat) : Int))
          rw [bebC_set _ hk0, ← HQ.out] at h
          first | exact h | (rw [hqm]; exact h) | (rw [hqm, show (((q % 256 : Nat) : Int) % 256) = ((q % 256 : Nat) : Int) from by omega]; exact h) | (trace_state; fail)
      case measure => simp [intOf] <;> omega
    · obtain rfl : k = 8 := by omega
      rw [show ((8 - 8 : Nat) : Int) - 1 = -1 from rfl]
      have hcv : (convert 70 9 (.slice (some ⟨w.heap.size, 0, none⟩) 8 8)).run Try.prog wr = .ok (.string ⟨(ord v).toArray⟩) wr := by
        rw [run_convert_bytes_string wr _ _ 5 _ _ _ Try.underlying70 Try.underlying5 Try.underlying9]
        have e8 : bebA 8 (ordN v) = ord v := by simp [bebA, ord]
        have hl : ((ord v).map fun b => (b.toNat : Int)).length = 8 := by rw [List.length_map, ord_len]
        have hld := run_loadCells_list (P := Try.prog) (w := wr) ⟨w.heap.size, 0, none⟩ (((ord v).map fun b => (b.toNat : Int)).map (Value.int .u8)) (by
          intro j u hj
          have : (⟨w.heap.size, 0, none⟩ : Addr).add j = ⟨w.heap.size, j, none⟩ := by unfold Addr.add; split <;> simp_all
          rw [this, blk_cell hblk, bebC, e8]
          simpa using hj)
        rw [List.length_map, hl] at hld
        rw [run_bytesToString wr _ 8 8 _ hld, foldl_push]
        simp
      clear hblk
      go_wp2
      go_ret
      exact ⟨rfl, T⟩
end Go.Proofs.Ytenohgogfddniaa
