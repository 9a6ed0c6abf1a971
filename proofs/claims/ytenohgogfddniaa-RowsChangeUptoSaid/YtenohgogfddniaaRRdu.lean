/-
  'ReadUint' of the document's package: the same answer as package pack's. Condition: the text is short.
-/
import Derived.Test.YtenohgogfddniaaRdu
import Derived.Test.YtenohgogfddniaaRUint
namespace Go.Proofs.Ytenohgogfddniaa
open Go.RowKit
set_option linter.unusedVariables false

/-- The value of the first k digits. -/
def dg (L : List UInt8) : Nat → Nat
  | 0 => 0
  | k + 1 => dg L k + (L.getD k 0).toNat % 128 * 128 ^ k
theorem dg_lt (L : List UInt8) : ∀ k, dg L k < 128 ^ k
  | 0 => by simp [dg]
  | k + 1 => by
    have := dg_lt L k
    have h : (L.getD k 0).toNat % 128 * 128 ^ k ≤ 127 * 128 ^ k := Nat.mul_le_mul_right _ (by omega)
    rw [dg, Nat.pow_succ]
    omega
theorem drop_get {L : List UInt8} {k : Nat} (h : k < L.length) : L.drop k = L.getD k 0 :: L.drop (k + 1) := by
  rw [List.drop_eq_getElem_cons h, List.getD_eq_getElem?_getD, List.getElem?_eq_getElem h]; rfl
theorem rdu_scan (L : List UInt8) : ∀ k, k ≤ 9 → k ≤ L.length → (∀ i, i < k → 128 ≤ (L.getD i 0).toNat) → rdu L 0 0 = rdu (L.drop k) k (dg L k)
  | 0, _, _, _ => by simp [dg]
  | k + 1, h1, h2, h3 => by
    rw [rdu_scan L k (by omega) (by omega) (fun i hi => h3 i (by omega)), drop_get (by omega), rdu_more _ _ (by omega) (h3 k (by omega)), dg]
/-- The three ends of the scan. -/
theorem rdu_end (L : List UInt8) (k : Nat) (h1 : k ≤ 9) (h2 : k ≤ L.length) (h3 : ∀ i, i < k → 128 ≤ (L.getD i 0).toNat) :
    (k = L.length → rdu L 0 0 = (20, 0, 0)) ∧ (k < L.length → k = 9 → 1 < (L.getD k 0).toNat → rdu L 0 0 = (21, 0, 0)) ∧ (k < L.length → (L.getD k 0).toNat = 0 → k ≠ 0 → rdu L 0 0 = (21, 0, 0)) ∧
      (k < L.length → (L.getD k 0).toNat < 128 → ¬ ((L.getD k 0).toNat = 0 ∧ k ≠ 0) → ¬ (k = 9 ∧ 1 < (L.getD k 0).toNat) → rdu L 0 0 = (0, dg L (k + 1), k + 1)) := by
  have hs := rdu_scan L k h1 h2 h3
  refine ⟨fun h => ?_, fun h h9 hb => ?_, fun h h0 hk => ?_, fun h hb h0 h9 => ?_⟩
  · rw [hs, List.drop_eq_nil_of_le (by omega), rdu_nil _ (by omega)]
  · rw [hs, drop_get h, h9]
    by_cases hm : 128 ≤ (L.getD 9 0).toNat
    · rw [rdu_more _ _ (by omega) hm, rdu_10]
    · rw [rdu_ten _ _ (by omega) (by rw [← h9]; exact hb)]
  · rw [hs, drop_get h, rdu_zero _ _ (by omega) h0 hk]
  · rw [hs, drop_get h, rdu_last _ _ (by omega) hb h0 h9, dg, Nat.mod_eq_of_lt hb]

/-- What holds at the head of each round of the first loop. -/
def RsRel (L : List UInt8) (p n : Nat) (v7 : Value) : Prop :=
  ∃ k : Nat, k ≤ 9 ∧ p + k ≤ n ∧ v7 = .int .i64 ((p : Int) + (k : Int)) ∧ ∀ i, i < k → 128 ≤ (L.getD i 0).toNat
/-- .. of the second. -/
def RtRel (L : List UInt8) (p k : Nat) (v8 v9 : Value) : Prop :=
  ∃ j x : Nat, j ≤ k + 1 ∧ v9 = .int .i64 ((p : Int) + (j : Int) - 1) ∧ v8 = .int .u64 x ∧ x * 128 ^ j + dg L j = dg L (k + 1)

theorem nil0_step (s : ByteArray) (q : Nat) (h : q < s.size) : nil0 (s.data.toList.drop q) = ((s[q]'h == 0) && nil0 (s.data.toList.drop (q + 1))) := by
  rw [List.drop_eq_getElem_cons (by rw [← Lib.size_eq]; exact h)]
  rfl
end Go.Proofs.Ytenohgogfddniaa
