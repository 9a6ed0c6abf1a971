/-
  'ReadOrdered' of package pack.
-/
import Derived.Test.YtenohgogfddniaaPor
import Derived.Test.YtenohgogfddniaaRdu
namespace Go.Proofs.Ytenohgogfddniaa
open Go.RowKit
set_option linter.unusedVariables false

/-- The number of some bytes, the greatest ahead. -/
def beN (l : List UInt8) : Nat := l.foldl (fun a b => a * 256 + b.toNat) 0
theorem beN_snoc (l : List UInt8) (b : UInt8) : beN (l ++ [b]) = beN l * 256 + b.toNat := by unfold beN; rw [List.foldl_append]; rfl
theorem beN_lt : ∀ (n : Nat) (l : List UInt8), l.length = n → beN l < 256 ^ n
  | 0, l, h => by rw [List.length_eq_zero_iff] at h; subst h; decide
  | n + 1, l, h => by
    obtain ⟨m, b, rfl⟩ : ∃ m b, l = m ++ [b] := ⟨l.dropLast, l.getLast (fun e => by subst e; simp at h), (List.dropLast_concat_getLast _).symm⟩
    rw [beN_snoc, Nat.pow_succ]
    have h1 := beN_lt n m (by simpa using h)
    have h2 := b.toNat_lt
    omega
theorem beN_beb : ∀ (k u : Nat), beN (beb k u) = u % 256 ^ k
  | 0, u => by simp [beb, beN, Nat.mod_one]
  | k + 1, u => by
    rw [beb, beN_snoc, beN_beb k (u / 256), Nat.pow_succ]
    have h : (UInt8.ofNat (u % 256)).toNat = u % 256 := by simp
    rw [h]
    have h2 : u % (256 ^ k * 256) = u % 256 + 256 * (u / 256 % 256 ^ k) := by rw [Nat.mul_comm, Nat.mod_mul]
    omega
/-- An int64 of its ordered form. -/
def unord (u : Nat) : Int := (u : Int) - 9223372036854775808
theorem unord_ord {v : Int} (h1 : -9223372036854775808 ≤ v) (h2 : v < 9223372036854775808) : unord (beN (ord v)) = v := by
  unfold ord
  rw [beN_beb, Nat.mod_eq_of_lt (ordN_lt h1 h2)]
  unfold unord ordN; omega
/-- What ReadOrdered answers at bytes L that stand from p on. -/
def rdoE (L : List UInt8) (p : Nat) : Ending := if L.length < 8 then .returned (.tuple #[.int .i64 0, .int .i64 0, .int .i64 20]) else .returned (.tuple #[.int .i64 (unord (beN (L.take 8))), .int .i64 ((p + 8 : Nat) : Int), .int .i64 0])
theorem or_byte (u k : Nat) (b : Nat) (hk : k ≤ 7) (hu : u < 256 ^ k) (hb : b < 256) : bits .or .u64 (IntKind.u64.wrap ((u : Int) * 256)) (b : Int) = ((u * 256 + b : Nat) : Int) := by
  have h7 : (256 : Nat) ^ k ≤ 256 ^ 7 := Nat.pow_le_pow_right (by omega) hk
  have e7 : (256 : Nat) ^ 7 = 72057594037927936 := by decide
  have w1 : IntKind.u64.wrap ((u : Int) * 256) = ((u * 256 : Nat) : Int) := by rw [IntKind.wrap_u64]; omega
  rw [w1, bits_or_u64_nat _ _ (by omega) (by omega)]
  have := Nat.two_pow_add_eq_or_of_lt (i := 8) (b := b) (by omega) u
  rw [Nat.mul_comm u 256, show (256 : Nat) = 2 ^ 8 from rfl, ← this]
theorem ro_wrap (u : Nat) (h : u < 18446744073709551616) : wrap64 (IntKind.u64.wrap ((u : Int) - 9223372036854775808)) = unord u := by
  rw [IntKind.wrap_u64]
  unfold unord wrap64
  omega
def RoRel (L : List UInt8) (v18 v7 : Value) : Prop := ∃ k : Nat, k ≤ 8 ∧ v18 = .int .i64 k ∧ v7 = .int .u64 ((beN (L.take k) : Nat) : Int)
set_option maxRecDepth 100000 in
set_option maxHeartbeats 1000000 in
theorem rdord_at (s : ByteArray) (p : Nat) (w : World) (hs : s.size ≤ 1000000000) (hp : p ≤ 2000000000) :
    Calls Try.prog 49 #[.string s, .int .i64 p] w fun e w' => e = rdoE (s.data.toList.drop p) p ∧ w = w' := by
  obtain ⟨L, hL⟩ : ∃ L, s.data.toList.drop p = L := ⟨_, rfl⟩
  have hll : L.length = s.size - p := by rw [← hL, List.length_drop, ← Lib.size_eq]
  have h0 : decide ((p : Int) < 0) = false := by simp
  by_cases h8 : L.length < 8
  · have hd : decide ((s.size : Int) - (p : Int) < 8) = true := decide_eq_true (by omega)
    have HF := Lib.hid (show rdoE L p = .returned (.tuple #[.int .i64 0, .int .i64 0, .int .i64 20]) from if_pos h8)
    rw [hL]
    clear hL hll h8
    go_enter Try.func49, Try.ntmps49
    go_wp2_with fail
    go_ret3
    exact ⟨HF.out.symm, rfl⟩
  · have hd : decide ((s.size : Int) - (p : Int) < 8) = false := decide_eq_false (by omega)
    have HF := Lib.hid (show rdoE L p = .returned (.tuple #[.int .i64 (unord (beN (L.take 8))), .int .i64 ((p + 8 : Nat) : Int), .int .i64 0]) from if_neg h8)
    rw [hL]
    have HL := Lib.hid hL
    have hps : p + 8 ≤ s.size := by omega
    clear hL hll h8
    go_enter Try.func49, Try.ntmps49
    go_wp2_with fail
    go_loop [18, 7] (fun v18 v7 => RoRel L v18 v7) (fun v18 _ => 8 - (intOf v18).toNat)
    case atStart => exact ⟨0, by omega, rfl, rfl⟩
    case round =>
      obtain ⟨k, hk, rfl, rfl⟩ := hrel
      by_cases hk0 : k < 8
      · have hpk : p + k < s.size := by omega
        have hlen : k < L.length := by rw [← HL.out, List.length_drop, ← Lib.size_eq]; omega
        have hlk : L.take (k + 1) = L.take k ++ [s[p + k]'hpk] := by
          rw [List.take_succ_eq_append_getElem hlen]
          congr 2
          simp only [← HL.out, List.getElem_drop]
          rfl
        have HN := Lib.hid (show beN (L.take (k + 1)) = beN (L.take k) * 256 + (s[p + k]'hpk).toNat from by rw [hlk, beN_snoc])
        have hor := or_byte (beN (L.take k)) k (s[p + k]'hpk).toNat (by omega) (beN_lt k _ (by rw [List.length_take]; omega)) (UInt8.toNat_lt _)
        have hk8 : (k : Int) < 8 := by omega
        clear hlk hlen
        have hwb := Lib.hid (show IntKind.u64.wrap ((s[p + k]'hpk).toNat : Int) = ((s[p + k]'hpk).toNat : Int) from by have := (s[p + k]'hpk).toNat_lt; rw [IntKind.wrap_u64]; omega)
        have HO := Lib.hid hor
        clear hor
        generalize beN (L.take k) = u at *
        go_wp2_with fail
        go_round
        case rel => exact ⟨k + 1, by omega, by go_num, by rw [hwb.out, HO.out, HN.out]⟩
        case measure => simp [intOf]; omega
      · obtain rfl : k = 8 := by omega
        have h64 : beN (L.take 8) < 256 ^ 8 := beN_lt 8 _ (by rw [List.length_take, ← HL.out, List.length_drop, ← Lib.size_eq]; omega)
        have e64 : (256 : Nat) ^ 8 = 18446744073709551616 := by decide
        have HV := Lib.hid (ro_wrap (beN (L.take 8)) (by omega))
        clear h64 e64
        go_wp2_with fail
        go_ret3
        exact ⟨by rw [HF.out, ← HV.out]; rfl, rfl⟩
end Go.Proofs.Ytenohgogfddniaa
