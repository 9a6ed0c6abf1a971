/-
  'Ordered' of package pack: the ordered form of a number with a sign. Condition: it is an int64's.
-/
import Derived.Test.YtenohgogfddniaaPin
import Derived.Test.YtenohgogfddniaaPad
namespace Go.Proofs.Ytenohgogfddniaa
open Go.RowKit
set_option linter.unusedVariables false

theorem beb_cons : ∀ (k u : Nat), beb (k + 1) u = UInt8.ofNat (u / 256 ^ k % 256) :: beb k u
  | 0, u => by simp [beb]
  | k + 1, u => by
    rw [beb, beb_cons k (u / 256), beb, List.cons_append, Nat.div_div_eq_div_mul, Nat.pow_succ, Nat.mul_comm 256]
/-- What the array holds behind k rounds. -/
def bebA (k u : Nat) : List UInt8 := List.replicate (8 - k) 0 ++ beb k u
def bebC (k u : Nat) : Array Value := ((bebA k u).map fun b => Value.int .u8 b.toNat).toArray
theorem bebC_size {k : Nat} (u : Nat) (h : k ≤ 8) : (bebC k u).size = 8 := by
  unfold bebC bebA
  simp [beb_len]; omega
theorem bebC_set {k : Nat} (u : Nat) (h : k < 8) : (bebC k u).setIfInBounds (7 - k) (.int .u8 ((u / 256 ^ k % 256 : Nat) : Int)) = bebC (k + 1) u := by
  have e1 : 8 - k = (7 - k) + 1 := by omega
  have e2 : 8 - (k + 1) = 7 - k := by omega
  have e3 : (UInt8.ofNat (u / 256 ^ k % 256)).toNat = u / 256 ^ k % 256 := by simp
  unfold bebC bebA
  rw [e1, e2, beb_cons, List.replicate_succ', List.append_assoc, List.singleton_append, List.map_append, List.map_append, List.map_cons, List.map_cons, e3]
  generalize hA : (List.replicate (7 - k) (0 : UInt8)).map (fun b => Value.int .u8 b.toNat) = A
  have hl : A.length = 7 - k := by rw [← hA]; simp
  rw [← hl]
  apply Array.toList_inj.1
  rw [Array.toList_setIfInBounds, List.toList_toArray, List.toList_toArray, List.set_append]
  simp
theorem ord_alloc (ρ : Operand → Value) (o : Oper) (ho : o.op = .alloc 108) (w : World) :
    (execOp ρ o).run Try.prog w = .ok (.value (.pointer (some ⟨w.heap.size, 0, none⟩))) (w.alloc (.cells (bebC 0 0) 108)) := by
  unfold execOp
  rw [ho]
  kernel_rfl
def OrRel (w : World) (U : Nat) (v9 v4 : Value) (wr : World) : Prop :=
  ∃ k : Nat, k ≤ 8 ∧ v9 = .int .i64 k ∧ v4 = .int .u64 ((U / 256 ^ k : Nat) : Int) ∧ wr.heap[w.heap.size]? = some (.cells (bebC k U) 108 (0, 0)) ∧ Tch [] w wr

set_option maxRecDepth 100000 in
set_option maxHeartbeats 400000 in
theorem pord_any (v : Int) (w : World) (h1 : -9223372036854775808 ≤ v) (h2 : v < 9223372036854775808) :
    Calls Try.prog 45 #[.int .i64 v] w fun e w' => e = .returned (.string ⟨(ord v).toArray⟩) ∧ Tch [] w w' := by
  have HU := Lib.hid (show IntKind.u64.wrap (IntKind.u64.wrap v + 9223372036854775808) = ((ordN v : Nat) : Int) from by
    rw [IntKind.wrap_u64, IntKind.wrap_u64]; unfold ordN; omega)
  have hb := Lib.hid (blk_new w (.cells (bebC 0 0) 108))
  go_enter Try.func45, Try.ntmps45
  go_wp2_with (with_reducible refine Go.Great.wpList_allocTo rfl (some 3) rfl _ _ (ord_alloc _ _ rfl _) ?_)
  rw [HU.out]
  go_loopw [9, 4] (fun v9 v4 wr => OrRel w (ordN v) v9 v4 wr) (fun v9 _ _ => 8 - (intOf v9).toNat)
  case atStart => exact ⟨0, by omega, rfl, by simp, hb.out, (Tch.refl [] w).alloc _⟩
  case round =>
    obtain ⟨k, hk, rfl, rfl, hblk, T⟩ := hrel
    by_cases hk0 : k < 8
    · have hsz := bebC_size (ordN v) hk
      have hj2 : (7 : Int) - (k : Int) = ((7 - k : Nat) : Int) := by omega
      have hj3 : 7 - k < 8 := by omega
      have hc : wr.cell? ⟨w.heap.size, 7 - k, none⟩ = some ((bebC k (ordN v))[7 - k]'(by omega)) := by rw [blk_cell hblk]; exact Array.getElem?_eq_getElem _
      have hz : wr.frozen? ⟨w.heap.size, 7 - k, none⟩ = false := blk_free hblk _
      have hk8 : (k : Int) < 8 := by omega
      generalize (bebC k (ordN v))[7 - k]'(by omega) = u0 at hc
      have HB := Lib.hid hblk
      clear hblk hsz
      go_wp2
      go_roundw
      case rel =>
        refine ⟨k + 1, by omega, by go_num, ?_, ?_, T.setNew (Nat.le_refl _) _⟩
        · rw [Nat.pow_succ, ← Nat.div_div_eq_div_mul]; push_cast; rfl
        · have h := blk_set HB.out (7 - k) (.int .u8 ((ordN v / 256 ^ k % 256 : Nat) : Int))
          rw [bebC_set _ hk0] at h
          push_cast at h
          exact h
      case measure => simp [intOf]; omega
    · obtain rfl : k = 8 := by omega
      have hcv : (convert 70 9 (.slice (some ⟨w.heap.size, 0, none⟩) 8 8)).run Try.prog wr = .ok (.string ⟨(ord v).toArray⟩) wr := by
        rw [run_convert_bytes_string wr _ _ 5 _ _ _ Try.underlying70 Try.underlying5 Try.underlying9]
        have e8 : bebA 8 (ordN v) = ord v := by simp [bebA, ord]
        have hl : ((ord v).map fun b => (b.toNat : Int)).length = 8 := by rw [List.length_map, ord_len]
        have hld := run_loadCells_list (P := Try.prog) (w := wr) ⟨w.heap.size, 0, none⟩ (((ord v).map fun b => (b.toNat : Int)).map (Value.int .u8)) (by
          intro j u hj
          have : (⟨w.heap.size, 0, none⟩ : Addr).add j = ⟨w.heap.size, j, none⟩ := by unfold Addr.add; split <;> simp_all
          rw [this, blk_cell hblk, bebC, e8]
          simpa using hj)
        rw [List.length_map, hl] at hld
        rw [run_bytesToString wr _ 8 8 _ hld, foldl_push]
        simp
      clear hblk
      go_wp2
      go_ret
      exact ⟨rfl, T⟩
end Go.Proofs.Ytenohgogfddniaa
