/-
  Plain notions of layer 2's numbers, of no program: the one form of a number ('ub') and what is read of bytes ('rdu').
-/
import Derived.Lib.Strings
namespace Go.Proofs.Ytenohgogfddniaa
set_option linter.unusedVariables false

/-- The one form of a number, as bytes. -/
def ub (v : Nat) : List UInt8 := if v < 128 then [UInt8.ofNat v] else UInt8.ofNat (v % 128 + 128) :: ub (v / 128)
termination_by v
decreasing_by omega

/-- What is read from the i-th digit on, v read so far: the error, the number, the count of digits. -/
def rdu (l : List UInt8) (i v : Nat) : Int × Nat × Nat :=
  if i = 10 then (21, 0, 0) else
  match l with
  | [] => (20, 0, 0)
  | b :: l =>
    if 128 ≤ b.toNat then rdu l (i + 1) (v + b.toNat % 128 * 128 ^ i)
    else if b.toNat = 0 ∧ i ≠ 0 then (21, 0, 0)
    else if i = 9 ∧ 1 < b.toNat then (21, 0, 0)
    else (0, v + b.toNat * 128 ^ i, i + 1)

theorem ub_ne (v : Nat) : ub v ≠ [] := by unfold ub; split <;> simp
theorem ub_small {v : Nat} (h : v < 128) : ub v = [UInt8.ofNat v] := by unfold ub; rw [if_pos h]
theorem ub_big {v : Nat} (h : ¬ v < 128) : ub v = UInt8.ofNat (v % 128 + 128) :: ub (v / 128) := by rw [ub, if_neg h]
theorem ub_len (k : Nat) : ∀ v, v < 128 ^ (k + 1) → (ub v).length ≤ k + 1 := by
  induction k with
  | zero => intro v h; rw [ub_small (by simpa using h)]; simp
  | succ k ih =>
    intro v h
    by_cases hv : v < 128
    · rw [ub_small hv]; simp
    · rw [ub_big hv, List.length_cons]
      have := ih (v / 128) (by
        rw [Nat.div_lt_iff_lt_mul (by omega)]
        rw [Nat.pow_succ] at h
        exact h)
      omega
theorem u8_of (n : Nat) (h : n < 256) : (UInt8.ofNat n).toNat = n := by simp; omega

theorem rdu_10 (l : List UInt8) (v : Nat) : rdu l 10 v = (21, 0, 0) := by unfold rdu; simp
theorem rdu_nil {i : Nat} (v : Nat) (h : i ≠ 10) : rdu [] i v = (20, 0, 0) := by unfold rdu; rw [if_neg h]
theorem rdu_more {b : UInt8} {i : Nat} (l : List UInt8) (v : Nat) (h : i ≠ 10) (hb : 128 ≤ b.toNat) : rdu (b :: l) i v = rdu l (i + 1) (v + b.toNat % 128 * 128 ^ i) := by
  conv => lhs; unfold rdu
  rw [if_neg h]; simp only; rw [if_pos hb]
theorem rdu_zero {b : UInt8} {i : Nat} (l : List UInt8) (v : Nat) (h : i ≠ 10) (hb : b.toNat = 0) (hi : i ≠ 0) : rdu (b :: l) i v = (21, 0, 0) := by
  conv => lhs; unfold rdu
  rw [if_neg h]; simp only; rw [if_neg (by omega), if_pos ⟨hb, hi⟩]
theorem rdu_ten {b : UInt8} (l : List UInt8) (v : Nat) (hb : b.toNat < 128) (h1 : 1 < b.toNat) : rdu (b :: l) 9 v = (21, 0, 0) := by
  conv => lhs; unfold rdu
  rw [if_neg (by omega)]; simp only; rw [if_neg (by omega), if_neg (by omega), if_pos ⟨trivial, h1⟩]
theorem rdu_last {b : UInt8} {i : Nat} (l : List UInt8) (v : Nat) (h : i ≠ 10) (hb : b.toNat < 128) (h0 : ¬ (b.toNat = 0 ∧ i ≠ 0)) (h9 : ¬ (i = 9 ∧ 1 < b.toNat)) : rdu (b :: l) i v = (0, v + b.toNat * 128 ^ i, i + 1) := by
  conv => lhs; unfold rdu
  rw [if_neg h]; simp only; rw [if_neg (by omega), if_neg h0, if_neg h9]

/-- A number is read back from its one form, whatever stands behind. -/
theorem rdu_ub (k : Nat) : ∀ (v i a : Nat) (r : List UInt8), v < 128 ^ (k + 1) → i + k = 9 → v < 2 * 128 ^ k → (v = 0 → i = 0) → rdu (ub v ++ r) i a = (0, a + v * 128 ^ i, i + (ub v).length) := by
  induction k with
  | zero =>
    intro v i a r h1 h2 h3 h4
    have hv : v < 2 := by simpa using h3
    rw [ub_small (by omega)]
    have e := u8_of v (by omega)
    rw [List.singleton_append, rdu_last r a (by omega) (by omega) (by omega) (by omega), e]
    simp
  | succ k ih =>
    intro v i a r h1 h2 h3 h4
    by_cases hv : v < 128
    · rw [ub_small hv]
      have e := u8_of v (by omega)
      rw [List.singleton_append, rdu_last r a (by omega) (by omega) (by omega) (by omega), e]
      simp
    · rw [ub_big hv]
      have e := u8_of (v % 128 + 128) (by omega)
      rw [List.cons_append, rdu_more _ a (by omega) (by omega), e]
      have h5 : v / 128 < 128 ^ (k + 1) := by
        rw [Nat.div_lt_iff_lt_mul (by omega)]; rw [Nat.pow_succ] at h1; exact h1
      have h6 : v / 128 < 2 * 128 ^ k := by
        rw [Nat.div_lt_iff_lt_mul (by omega)]; rw [Nat.pow_succ] at h3; omega
      rw [ih (v / 128) (i + 1) _ r h5 (by omega) h6 (by omega)]
      rw [show (v % 128 + 128) % 128 = v % 128 from by omega]
      have h7 : v % 128 * 128 ^ i + v / 128 * 128 ^ (i + 1) = v * 128 ^ i := by
        rw [Nat.pow_succ, Nat.mul_comm (128 ^ i) 128, ← Nat.mul_assoc, ← Nat.add_mul]
        congr 1
        omega
      simp only [List.length_cons, Prod.mk.injEq, true_and]
      constructor
      · omega
      · omega
theorem rdu_ub64 (v : Nat) (hv : v < 18446744073709551616) (r : List UInt8) : rdu (ub v ++ r) 0 0 = (0, v, (ub v).length) := by
  rw [rdu_ub 9 v 0 0 r (by simp; omega) (by omega) (by simp; omega) (by simp)]
  simp

/-- What is read is below 2^64, and its digits stand there. -/
theorem rdu_bound : ∀ (l : List UInt8) (i v : Nat) (c : Int) (u n : Nat), rdu l i v = (c, u, n) → v < 128 ^ i → i ≤ 9 → c = 0 → u < 18446744073709551616 ∧ i < n ∧ n ≤ i + l.length ∧ n ≤ 10
  | [], i, v, c, u, n, h, hv, hi, hc => by
    rw [rdu_nil v (by omega)] at h
    simp only [Prod.mk.injEq] at h
    omega
  | b :: l, i, v, c, u, n, h, hv, hi, hc => by
    have hb := b.toNat_lt
    by_cases h1 : 128 ≤ b.toNat
    · rw [rdu_more l v (by omega) h1] at h
      by_cases h9 : i = 9
      · subst h9
        rw [rdu_10] at h
        simp only [Prod.mk.injEq] at h
        omega
      · have hv2 : v + b.toNat % 128 * 128 ^ i < 128 ^ (i + 1) := by
          rw [Nat.pow_succ]
          have : b.toNat % 128 * 128 ^ i ≤ 127 * 128 ^ i := Nat.mul_le_mul_right _ (by omega)
          omega
        have := rdu_bound l (i + 1) _ c u n h hv2 (by omega) hc
        simp only [List.length_cons]
        omega
    · by_cases h0 : b.toNat = 0 ∧ i ≠ 0
      · rw [rdu_zero l v (by omega) h0.1 h0.2] at h
        simp only [Prod.mk.injEq] at h
        omega
      · by_cases h9 : i = 9 ∧ 1 < b.toNat
        · obtain ⟨rfl, h9⟩ := h9
          rw [rdu_ten l v (by omega) h9] at h
          simp only [Prod.mk.injEq] at h
          omega
        · rw [rdu_last l v (by omega) (by omega) h0 h9] at h
          simp only [Prod.mk.injEq] at h
          obtain ⟨rfl, rfl, rfl⟩ := h
          refine ⟨?_, by omega, by simp, by omega⟩
          by_cases hi9 : i = 9
          · subst hi9
            have : b.toNat ≤ 1 := by omega
            have : b.toNat * 128 ^ 9 ≤ 1 * 128 ^ 9 := Nat.mul_le_mul_right _ this
            have e : (128 : Nat) ^ 9 = 9223372036854775808 := by decide
            omega
          · have h3 : b.toNat * 128 ^ i ≤ 127 * 128 ^ i := Nat.mul_le_mul_right _ (by omega)
            have h4 : (128 : Nat) ^ i ≤ 128 ^ 8 := Nat.pow_le_pow_right (by omega) (by omega)
            have e : (128 : Nat) ^ 8 = 72057594037927936 := by decide
            omega
/-- Are all bytes zero? -/
def nil0 (l : List UInt8) : Bool := l.all (· == 0)
end Go.Proofs.Ytenohgogfddniaa
