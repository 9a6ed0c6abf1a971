/-
  'ReadUint' of package pack: the number whose one form stands at a place of a text, and the place behind it; or why there is none. Condition: the text's length is an int's.
-/
import Derived.Test.YtenohgogfddniaaUint
import Derived.Laws.Shifts
import Derived.Laws.Bits64b
import Derived.Outline
namespace Go.Proofs.Ytenohgogfddniaa
open Go.RowKit
set_option linter.unusedVariables false

/-- May a number end in this digit? -/
def lastB (b i : Nat) : Bool := decide (¬ (b = 0 ∧ i ≠ 0) ∧ ¬ (i = 9 ∧ 1 < b))

theorem last_any (b i : Nat) (w : World) (hb : b < 256) (hi : i < 10) :
    Calls Try.prog 63 #[.int .u8 b, .int .i64 i] w fun e w' => e = .returned (.bool (lastB b i)) ∧ w = w' := by
  by_cases h0 : b = 0
  · subst h0
    by_cases h1 : i = 0
    · subst h1
      have HX := Lib.hid (show lastB 0 0 = true from by decide)
      go_enter Try.func63, Try.ntmps63
      go_wp2
      go_ret
      exact ⟨by rw [HX.out]; rfl, rfl⟩
    · have e1 : ((i : Int) == 0) = false := by simp; omega
      have HX := Lib.hid (show lastB 0 i = false from by unfold lastB; simp [h1])
      clear h1
      go_enter Try.func63, Try.ntmps63
      go_wp2
      go_ret
      exact ⟨by rw [HX.out]; rfl, rfl⟩
  · have e0 : ((b : Int) == 0) = false := by simp; omega
    by_cases h9 : i < 9
    · have HX := Lib.hid (show lastB b i = true from by unfold lastB; simp; omega)
      have e9 : (i : Int) < 9 := by omega
      clear h0
      go_enter Try.func63, Try.ntmps63
      go_wp2
      go_ret
      exact ⟨by rw [HX.out]; rfl, rfl⟩
    · obtain rfl : i = 9 := by omega
      by_cases hb1 : b ≤ 1
      · have HX := Lib.hid (show lastB b 9 = true from by unfold lastB; simp; omega)
        have hb2 : (b : Int) ≤ 1 := by omega
        clear h0
        go_enter Try.func63, Try.ntmps63
        go_wp2
        go_ret
        exact ⟨by rw [HX.out]; rfl, rfl⟩
      · have HX := Lib.hid (show lastB b 9 = false from by unfold lastB; simp; omega)
        have hb2 : decide ((b : Int) ≤ 1) = false := by simp; omega
        clear h0
        go_enter Try.func63, Try.ntmps63
        go_wp2
        go_ret
        exact ⟨by rw [HX.out]; rfl, rfl⟩

theorem and128_all : ∀ k : Fin 256, (bits .and .u8 ((k.val : Nat) : Int) 128 != 0) = decide (128 ≤ k.val) := by decide +kernel
theorem andNot128_all : ∀ k : Fin 256, bits .andNot .u8 ((k.val : Nat) : Int) 128 = ((k.val % 128 : Nat) : Int) := by decide +kernel
theorem and128 (b : Nat) (h : b < 256) : (bits .and .u8 (b : Int) 128 != 0) = decide (128 ≤ b) := and128_all ⟨b, h⟩
theorem andNot128 (b : Nat) (h : b < 256) : bits .andNot .u8 (b : Int) 128 = ((b % 128 : Nat) : Int) := andNot128_all ⟨b, h⟩
/-- One digit more. -/
theorem digit_in (v k b : Nat) (hb : b < 256) (hk : k ≤ 9) (hv : v < 128 ^ k) :
    ∃ v' : Nat, bits .or .u64 (v : Int) (IntKind.u64.wrap (IntKind.u64.wrap (bits .andNot .u8 (b : Int) 128) * 2 ^ (k * 7))) = (v' : Int) ∧ v' < 18446744073709551616 ∧ (k ≤ 8 ∨ b % 128 ≤ 1 → v' = v + b % 128 * 128 ^ k) := by
  rw [andNot128 b hb]
  have e7 : (2 : Nat) ^ (k * 7) = 128 ^ k := by rw [Nat.mul_comm, Nat.pow_mul]
  have hk9 : (128 : Nat) ^ k ≤ 128 ^ 9 := Nat.pow_le_pow_right (by omega) hk
  have e9 : (128 : Nat) ^ 9 = 9223372036854775808 := by decide
  have w1 : IntKind.u64.wrap ((b % 128 : Nat) : Int) = ((b % 128 : Nat) : Int) := by rw [IntKind.wrap_u64]; omega
  have w2 : IntKind.u64.wrap (((b % 128 : Nat) : Int) * 2 ^ (k * 7)) = ((b % 128 * 128 ^ k % 18446744073709551616 : Nat) : Int) := by
    rw [IntKind.wrap_u64, ← e7]
    simp only [Int.natCast_emod, Int.natCast_mul, Int.natCast_pow]
    rfl
  rw [w1, w2, bits_or_u64_nat _ _ (by omega) (by omega)]
  refine ⟨_, rfl, Nat.or_lt_two_pow (n := 64) (by omega) (by omega), fun h => ?_⟩
  have hlt : b % 128 * 128 ^ k < 18446744073709551616 := by
    rcases h with h | h
    · have h4 : (128 : Nat) ^ k ≤ 128 ^ 8 := Nat.pow_le_pow_right (by omega) h
      have e8 : (128 : Nat) ^ 8 = 72057594037927936 := by decide
      have : b % 128 * 128 ^ k ≤ 127 * 128 ^ k := Nat.mul_le_mul_right _ (by omega)
      omega
    · have : b % 128 * 128 ^ k ≤ 1 * 128 ^ k := Nat.mul_le_mul_right _ h
      omega
  rw [Nat.mod_eq_of_lt hlt, Nat.or_comm, ← e7, Nat.mul_comm, ← Nat.two_pow_add_eq_or_of_lt (by rw [e7]; exact hv), Nat.add_comm]
  
/-- What ReadUint answers. -/
def rduE (L : List UInt8) (p : Nat) : Ending := .returned (.tuple #[.int .u64 (rdu L 0 0).2.1, .int .i64 (if (rdu L 0 0).1 = 0 then ((p + (rdu L 0 0).2.2 : Nat) : Int) else 0), .int .i64 (rdu L 0 0).1])
theorem rduE_ok {L : List UInt8} {p v n : Nat} (h : rdu L 0 0 = (0, v, n)) : rduE L p = .returned (.tuple #[.int .u64 v, .int .i64 ((p + n : Nat) : Int), .int .i64 0]) := by
  unfold rduE; rw [h, if_pos rfl]
theorem rduE_no {L : List UInt8} {p : Nat} {c : Int} (h : rdu L 0 0 = (c, 0, 0)) (hc : c ≠ 0) : rduE L p = .returned (.tuple #[.int .u64 0, .int .i64 0, .int .i64 c]) := by
  unfold rduE; rw [h, if_neg hc]; rfl
/-- What holds at the head of each round. -/
def RdRel (l : List UInt8) (m : Nat) (v7 v23 : Value) : Prop :=
  ∃ k v : Nat, k ≤ m ∧ v23 = .int .i64 k ∧ v7 = .int .u64 v ∧ v < 128 ^ k ∧ rdu l 0 0 = rdu (l.drop k) k v

set_option maxRecDepth 100000 in
set_option maxHeartbeats 1000000 in
theorem rdu_any (s : ByteArray) (p : Nat) (w : World) (hs : s.size ≤ 9223372036854775807) (hp : p < s.size) :
    Calls Try.prog 59 #[.string s, .int .i64 p] w fun e w' => e = rduE (s.data.toList.drop p) p ∧ w = w' := by
  have e1 : decide ((p : Int) < 0) = false := by simp
  have e2 : decide ((s.size : Int) ≤ (p : Int)) = false := by simp; omega
  have e3 : decide (s.size ≤ p) = false := by simp; omega
  obtain ⟨m, hm⟩ : ∃ m : Nat, m = min (s.size - p) 10 := ⟨_, rfl⟩
  have hm1 : min ((s.size : Int) - (p : Int)) 10 = (m : Int) := by omega
  have hm2 : m ≤ 10 ∧ m ≤ s.size - p ∧ (m = 10 ∨ m = s.size - p) := by omega
  have HL : Hid (∃ L, L = s.data.toList.drop p) := ⟨_, rfl⟩
  obtain ⟨L, hL⟩ := HL.out
  rw [← hL]
  have HLx := Lib.hid hL
  clear hL hm HL
  go_enter Try.func59, Try.ntmps59
  go_wp2

  have HM := Lib.hid hm1
  clear hm1
  go_loop [7, 23] (fun v7 v23 => RdRel L m v7 v23) (fun _ v23 => m - (intOf v23).toNat)
  case atStart => exact ⟨0, 0, by omega, rfl, rfl, by simp, by simp⟩
  case round =>
    obtain ⟨k, v, hk, rfl, rfl, hv, hr⟩ := hrel
    by_cases hkm : k < m
    · have hps : p + k < s.size := by omega
      obtain ⟨v', hv1, hv2, hv3⟩ := digit_in v k (s[p + k]'hps).toNat (UInt8.toNat_lt _) (by omega) hv
      have hd : L.drop k = (s[p + k]'hps) :: L.drop (k + 1) := by
        rw [HLx.out, List.drop_drop, List.drop_drop, List.drop_eq_getElem_cons (by rw [← Lib.size_eq]; exact hps)]
        rfl
      have hb8 := (s[p + k]'hps).toNat_lt
      by_cases hb : 128 ≤ (s[p + k]'hps).toNat
      · have ha : (bits .and .u8 ((s[p + k]'hps).toNat : Int) 128 != 0) = true := by rw [and128 _ (by omega)]; simpa using hb
        have HR : Hid (v' < 128 ^ (k + 1) ∧ rdu L 0 0 = rdu (L.drop (k + 1)) (k + 1) v') := by
          by_cases h9 : k = 9
          · subst h9
            refine ⟨by simp; omega, ?_⟩
            rw [hr, hd, rdu_more _ _ (by omega) hb, rdu_10, rdu_10]
          · rw [hv3 (by omega)]
            refine ⟨?_, by rw [hr, hd, rdu_more _ _ (by omega) hb]⟩
            rw [Nat.pow_succ]
            have : (s[p + k]'hps).toNat % 128 * 128 ^ k ≤ 127 * 128 ^ k := Nat.mul_le_mul_right _ (by omega)
            omega
        clear hr hd hv3 hb hv
        go_wp2
        go_round
        case rel => exact ⟨k + 1, v', by omega, by go_num, rfl, HR.out⟩
        case measure => simp [intOf]; omega
      · have ha : (bits .and .u8 ((s[p + k]'hps).toNat : Int) 128 != 0) = false := by rw [and128 _ (by omega)]; simpa using hb
        have HLAST := Lib.hid (last_any (s[p + k]'hps).toNat k w (by omega) (by omega))
        have hrb : rdu L 0 0 = rdu ((s[p + k]'hps) :: L.drop (k + 1)) k v := by rw [hr, hd]
        by_cases hl : lastB (s[p + k]'hps).toNat k = true
        · rw [hl] at HLAST
          have hl2 := hl
          unfold lastB at hl2
          simp only [decide_eq_true_eq] at hl2
          have HF : Hid (rdu L 0 0 = (0, v', k + 1)) := by
            have h3 := hv3 (by
              by_cases h9 : k ≤ 8
              · exact Or.inl h9
              · right; omega)
            show _ = _
            rw [hrb, rdu_last _ _ (by omega) (by omega) hl2.1 hl2.2, h3, Nat.mod_eq_of_lt (by omega)]
          clear hr hd hv3 hb hv hrb hl hl2
          go_wp2_with (first | (go_at_call 63; refine HLAST.out.mono ?_; rintro e w' ⟨rfl, rfl⟩))
          go_ret3
          refine ⟨?_, rfl⟩
          rw [rduE_ok HF.out, show ((p + (k + 1) : Nat) : Int) = (p : Int) + (k : Int) + 1 from by omega]
          rfl
        · have hl3 : lastB (s[p + k]'hps).toNat k = false := by simpa using hl
          rw [hl3] at HLAST
          have hl2 := hl
          unfold lastB at hl2
          simp only [decide_eq_true_eq] at hl2
          have HF : Hid (rdu L 0 0 = (21, 0, 0)) := by
            show _ = _
            rw [hrb]
            by_cases h0 : (s[p + k]'hps).toNat = 0 ∧ k ≠ 0
            · exact rdu_zero _ _ (by omega) h0.1 h0.2
            · obtain rfl : k = 9 := by omega
              exact rdu_ten _ _ (by omega) (by omega)
          clear hr hd hv3 hb hv hrb hl hl2 hl3
          go_wp2_with (first | (go_at_call 63; refine HLAST.out.mono ?_; rintro e w' ⟨rfl, rfl⟩))
          go_ret3
          refine ⟨?_, rfl⟩
          rw [rduE_no HF.out (by decide)]
          rfl
    · obtain rfl : k = m := by omega
      by_cases h10 : k = 10
      · subst h10
        have HF : Hid (rdu L 0 0 = (21, 0, 0)) := by show _ = _; rw [hr, rdu_10]
        have e4 : decide ((s.size : Int) - (p : Int) < 10) = false := by simp; omega
        clear hr hv
        go_wp2
        go_ret3
        refine ⟨?_, rfl⟩
        rw [rduE_no HF.out (by decide)]
        rfl
      · have HF : Hid (rdu L 0 0 = (20, 0, 0)) := by
          show _ = _
          rw [hr, show L.drop k = [] from by rw [HLx.out, List.drop_drop]; exact List.drop_eq_nil_of_le (by rw [← Lib.size_eq]; omega), rdu_nil _ h10]
        have e4 : decide ((s.size : Int) - (p : Int) < 10) = true := by simp; omega
        clear hr hv
        go_wp2
        go_ret3
        refine ⟨?_, rfl⟩
        rw [rduE_no HF.out (by decide)]
        rfl
theorem rdu_low (s : ByteArray) (i : Int) (w : World) (h : i < 0 ∨ s.size ≤ i) :
    Calls Try.prog 59 #[.string s, .int .i64 i] w fun e w' => e = .returned (.tuple #[.int .u64 0, .int .i64 0, .int .i64 20]) ∧ w = w' := by
  by_cases h0 : i < 0
  · go_enter Try.func59, Try.ntmps59
    go_wp2
    go_ret3
    exact ⟨rfl, rfl⟩
  · have e1 : decide (i < 0) = false := by simpa using h0
    have e2 : (s.size : Int) ≤ i := by omega
    go_enter Try.func59, Try.ntmps59
    go_wp2
    go_ret3
    exact ⟨rfl, rfl⟩
theorem rdu_at (s : ByteArray) (p : Nat) (w : World) (hs : s.size ≤ 9223372036854775807) :
    Calls Try.prog 59 #[.string s, .int .i64 p] w fun e w' => e = rduE (s.data.toList.drop p) p ∧ w = w' := by
  by_cases hp : p < s.size
  · exact rdu_any s p w hs hp
  · refine (rdu_low s p w (Or.inr (by omega))).mono ?_
    rintro e w' ⟨rfl, rfl⟩
    refine ⟨?_, rfl⟩
    rw [rduE_no (c := 20) (by rw [List.drop_eq_nil_of_le (by rw [← Lib.size_eq]; omega), rdu_nil _ (by omega)]) (by omega)]
end Go.Proofs.Ytenohgogfddniaa
