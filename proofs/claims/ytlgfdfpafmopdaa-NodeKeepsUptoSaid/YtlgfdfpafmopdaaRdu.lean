/-
  'ReadUint' of package pack: the number whose one form stands at a place of a text, and the place behind it; or why there is none. Condition: the text's length is an int's.
-/
import Derived.Test.YtlgfdfpafmopdaaUint
import Derived.Laws.Shifts
import Derived.Laws.Bits64b
import Derived.Outline
namespace Go.Proofs.Ytlgfdfpafmopdaa
open Go.RowKit
set_option linter.unusedVariables false

/-- May a number end in this digit? -/
def lastB (b i : Nat) : Bool := decide (¬ (b = 0 ∧ i ≠ 0) ∧ ¬ (i = 9 ∧ 1 < b))

theorem and128_all : ∀ k : Fin 256, (bits .and .u8 ((k.val : Nat) : Int) 128 != 0) = decide (128 ≤ k.val) := by decide +kernel
theorem andNot128_all : ∀ k : Fin 256, bits .andNot .u8 ((k.val : Nat) : Int) 128 = ((k.val % 128 : Nat) : Int) := by decide +kernel
theorem and128 (b : Nat) (h : b < 256) : (bits .and .u8 (b : Int) 128 != 0) = decide (128 ≤ b) := and128_all ⟨b, h⟩
theorem andNot128 (b : Nat) (h : b < 256) : bits .andNot .u8 (b : Int) 128 = ((b % 128 : Nat) : Int) := andNot128_all ⟨b, h⟩
/-- One digit more. -/
theorem digit_in (v k b : Nat) (hb : b < 256) (hk : k ≤ 9) (hv : v < 128 ^ k) :
    ∃ v' : Nat, bits .or .u64 (v : Int) (IntKind.u64.wrap (IntKind.u64.wrap (bits .andNot .u8 (b : Int) 128) * 2 ^ (k * 7))) = (v' : Int) ∧ v' < 18446744073709551616 ∧ (k ≤ 8 ∨ b % 128 ≤ 1 → v' = v + b % 128 * 128 ^ k) := by
  rw [andNot128 b hb]
  have e7 : (2 : Nat) ^ (k * 7) = 128 ^ k := by rw [Nat.mul_comm, Nat.pow_mul]
  have hk9 : (128 : Nat) ^ k ≤ 128 ^ 9 := Nat.pow_le_pow_right (by omega) hk
  have e9 : (128 : Nat) ^ 9 = 9223372036854775808 := by decide
  have w1 : IntKind.u64.wrap ((b % 128 : Nat) : Int) = ((b % 128 : Nat) : Int) := by rw [IntKind.wrap_u64]; omega
  have w2 : IntKind.u64.wrap (((b % 128 : Nat) : Int) * 2 ^ (k * 7)) = ((b % 128 * 128 ^ k % 18446744073709551616 : Nat) : Int) := by
    rw [IntKind.wrap_u64, ← e7]
    simp only [Int.natCast_emod, Int.natCast_mul, Int.natCast_pow]
    rfl
  rw [w1, w2, bits_or_u64_nat _ _ (by omega) (by omega)]
  refine ⟨_, rfl, Nat.or_lt_two_pow (n := 64) (by omega) (by omega), fun h => ?_⟩
  have hlt : b % 128 * 128 ^ k < 18446744073709551616 := by
    rcases h with h | h
    · have h4 : (128 : Nat) ^ k ≤ 128 ^ 8 := Nat.pow_le_pow_right (by omega) h
      have e8 : (128 : Nat) ^ 8 = 72057594037927936 := by decide
      have : b % 128 * 128 ^ k ≤ 127 * 128 ^ k := Nat.mul_le_mul_right _ (by omega)
      omega
    · have : b % 128 * 128 ^ k ≤ 1 * 128 ^ k := Nat.mul_le_mul_right _ h
      omega
  rw [Nat.mod_eq_of_lt hlt, Nat.or_comm, ← e7, Nat.mul_comm, ← Nat.two_pow_add_eq_or_of_lt (by rw [e7]; exact hv), Nat.add_comm]
  
/-- What ReadUint answers. -/
def rduE (L : List UInt8) (p : Nat) : Ending := .returned (.tuple #[.int .u64 (rdu L 0 0).2.1, .int .i64 (if (rdu L 0 0).1 = 0 then ((p + (rdu L 0 0).2.2 : Nat) : Int) else 0), .int .i64 (rdu L 0 0).1])
theorem rduE_ok {L : List UInt8} {p v n : Nat} (h : rdu L 0 0 = (0, v, n)) : rduE L p = .returned (.tuple #[.int .u64 v, .int .i64 ((p + n : Nat) : Int), .int .i64 0]) := by
  unfold rduE; rw [h, if_pos rfl]
theorem rduE_no {L : List UInt8} {p : Nat} {c : Int} (h : rdu L 0 0 = (c, 0, 0)) (hc : c ≠ 0) : rduE L p = .returned (.tuple #[.int .u64 0, .int .i64 0, .int .i64 c]) := by
  unfold rduE; rw [h, if_neg hc]; rfl
/-- What holds at the head of each round. -/
def RdRel (l : List UInt8) (m : Nat) (v7 v23 : Value) : Prop :=
  ∃ k v : Nat, k ≤ m ∧ v23 = .int .i64 k ∧ v7 = .int .u64 v ∧ v < 128 ^ k ∧ rdu l 0 0 = rdu (l.drop k) k v

end Go.Proofs.Ytlgfdfpafmopdaa
