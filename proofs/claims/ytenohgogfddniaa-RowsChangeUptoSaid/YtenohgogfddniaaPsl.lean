/-
  Parts of a slice, of whatever element; a row's pairs as plain data.
-/
import Derived.Test.YtenohgogfddniaaIbg
namespace Go.Proofs.Ytenohgogfddniaa
open Go.RowKit
set_option linter.unusedVariables false

theorem psl_hi (T : TypeId) (sz : Nat) (hT : Try.prog.underlying T = some (.slice (Try.prog.elem T))) (hz : ∀ w, (sizeOf (Try.prog.elem T)).run Try.prog w = .ok sz w) (b o n c k : Nat) (h : k ≤ c) (w : World) :
    (Instr.slice T (.slice (some ⟨b, o, none⟩) n c) none (some (.int .i64 (k : Int))) none).run Try.prog w = .ok (.slice (some ⟨b, o, none⟩) k c) w := by
  rw [run_slice_h _ _ _ _ _ hT _ _ (by omega) (by omega), hz]
  simp only [Result.andThen, sliced]
  rw [Int.toNat_natCast]
  split <;> simp [add_mk]
theorem psl_lo (T : TypeId) (sz : Nat) (hT : Try.prog.underlying T = some (.slice (Try.prog.elem T))) (hz : ∀ w, (sizeOf (Try.prog.elem T)).run Try.prog w = .ok sz w) (b o n c k : Nat) (h : k ≤ n) (hc : n ≤ c) :
    ∃ A, (∀ w, (Instr.slice T (.slice (some ⟨b, o, none⟩) n c) (some (.int .i64 (k : Int))) none none).run Try.prog w = .ok (.slice A (n - k) (c - k)) w) ∧ (0 < n - k → A = some ⟨b, o + k * sz, none⟩) := by
  by_cases hk : k < c
  · refine ⟨some ⟨b, o + k * sz, none⟩, fun w => ?_, fun _ => rfl⟩
    rw [run_slice_l _ _ _ _ _ hT _ _ (by omega) (by omega), hz]
    simp only [Result.andThen, sliced]
    rw [Int.toNat_natCast, if_neg (by omega)]
    simp [add_mk]
  · obtain rfl : k = c := by omega
    obtain rfl : n = k := by omega
    refine ⟨some ⟨b, o, none⟩, fun w => ?_, fun h => by omega⟩
    rw [run_slice_l _ _ _ _ _ hT _ _ (by omega) (by omega), hz]
    simp only [Result.andThen, sliced]
    rw [Int.toNat_natCast]
    simp
theorem Try.elem_ks : Try.prog.underlying 22 = some (.slice (Try.prog.elem 22)) := by kernel_rfl
theorem Try.size_ks (w : World) : (sizeOf (Try.prog.elem 22)).run Try.prog w = .ok 1 w := by kernel_rfl
theorem Try.elem_rw : Try.prog.underlying 26 = some (.slice (Try.prog.elem 26)) := by kernel_rfl
theorem Try.size_rw (w : World) : (sizeOf (Try.prog.elem 26)).run Try.prog w = .ok 2 w := by kernel_rfl

theorem joinE_is (F : Int → Vl → List UInt8) (ks : List Int) (xs : List Vl) (most : Nat) : joinE F ks xs most = .returned (.tuple #[.string (if (joinF F ks xs).length ≤ most then ⟨(joinF F ks xs).toArray⟩ else ⟨#[]⟩), .bool (decide ((joinF F ks xs).length ≤ most))]) := by
  unfold joinE; split <;> simp [*]
theorem tfit_keys {t : Tb} (h : tfit t = true) : 1 ≤ t.keys ∧ t.keys ≤ t.cols.length ∧ -1 ≤ t.idx ∧ t.idx < t.cols.length := by
  unfold tfit at h
  simp only [Bool.and_eq_true, decide_eq_true_eq] at h
  exact ⟨h.1.1.1.2, h.1.1.2, h.1.2, h.2⟩
theorem hasV_len {t : Tb} {r : List Vl} (h : hasV t r = true) : r.length = t.cols.length := by
  unfold hasV at h
  simp only [Bool.and_eq_true, beq_iff_eq] at h
  exact h.1
/-- What stands in the keys of a row's pairs. -/
def keysOf (t : Tb) (r : List Vl) : List UInt8 := joinF kform (t.cols.take t.keys.toNat) (r.take t.keys.toNat)
def fieldsOf (t : Tb) (r : List Vl) : List UInt8 := joinF fform (t.cols.drop t.keys.toNat) (r.drop t.keys.toNat)
def indexOf (t : Tb) (r : List Vl) : List UInt8 := if t.idx = -1 then [] else ibegin t (t.cols.getD t.idx.toNat 0) (r.getD t.idx.toNat ⟨0, ⟨#[]⟩⟩) ++ keysOf t r
/-- A row's pair, and the key of its index's (empty: there is none); none: the row does not fit. -/
def pairsF (t : Tb) (r : List Vl) : Option (List UInt8 × List UInt8 × List UInt8) :=
  if tfit t && hasV t r && decide ((keysOf t r).length ≤ 46) && decide ((fieldsOf t r).length ≤ 200) && decide ((indexOf t r).length ≤ 48) then some (tbegin t 0 ++ keysOf t r, fieldsOf t r, indexOf t r) else none
def vPrs (k v x : List UInt8) : Value := .agg #[.string ⟨k.toArray⟩, .string ⟨v.toArray⟩, .string ⟨x.toArray⟩, .string ⟨#[]⟩]
def pofE : Option (List UInt8 × List UInt8 × List UInt8) → Ending
  | none => .returned (.tuple #[vPrs [] [] [], .bool false])
  | some (k, v, x) => .returned (.tuple #[vPrs k v x, .bool true])
end Go.Proofs.Ytenohgogfddniaa
