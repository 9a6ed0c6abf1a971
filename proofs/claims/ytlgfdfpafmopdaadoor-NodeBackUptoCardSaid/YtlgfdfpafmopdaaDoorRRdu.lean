/-
  'ReadUint' of the document's package: the same answer as package pack's. Condition: the text is short.
-/
import Derived.Test.YtlgfdfpafmopdaaDoorRdu
import Derived.Test.YtlgfdfpafmopdaaDoorRUint
namespace Go.Proofs.YtlgfdfpafmopdaaDoor
open Go.RowKit
set_option linter.unusedVariables false

/-- The value of the first k digits. -/
def dg (L : List UInt8) : Nat → Nat
  | 0 => 0
  | k + 1 => dg L k + (L.getD k 0).toNat % 128 * 128 ^ k
theorem dg_lt (L : List UInt8) : ∀ k, dg L k < 128 ^ k
  | 0 => by simp [dg]
  | k + 1 => by
    have := dg_lt L k
    have h : (L.getD k 0).toNat % 128 * 128 ^ k ≤ 127 * 128 ^ k := Nat.mul_le_mul_right _ (by omega)
    rw [dg, Nat.pow_succ]
    omega
theorem drop_get {L : List UInt8} {k : Nat} (h : k < L.length) : L.drop k = L.getD k 0 :: L.drop (k + 1) := by
  rw [List.drop_eq_getElem_cons h, List.getD_eq_getElem?_getD, List.getElem?_eq_getElem h]; rfl
theorem rdu_scan (L : List UInt8) : ∀ k, k ≤ 9 → k ≤ L.length → (∀ i, i < k → 128 ≤ (L.getD i 0).toNat) → rdu L 0 0 = rdu (L.drop k) k (dg L k)
  | 0, _, _, _ => by simp [dg]
  | k + 1, h1, h2, h3 => by
    rw [rdu_scan L k (by omega) (by omega) (fun i hi => h3 i (by omega)), drop_get (by omega), rdu_more _ _ (by omega) (h3 k (by omega)), dg]
/-- The three ends of the scan. -/
theorem rdu_end (L : List UInt8) (k : Nat) (h1 : k ≤ 9) (h2 : k ≤ L.length) (h3 : ∀ i, i < k → 128 ≤ (L.getD i 0).toNat) :
    (k = L.length → rdu L 0 0 = (20, 0, 0)) ∧ (k < L.length → k = 9 → 1 < (L.getD k 0).toNat → rdu L 0 0 = (21, 0, 0)) ∧ (k < L.length → (L.getD k 0).toNat = 0 → k ≠ 0 → rdu L 0 0 = (21, 0, 0)) ∧
      (k < L.length → (L.getD k 0).toNat < 128 → ¬ ((L.getD k 0).toNat = 0 ∧ k ≠ 0) → ¬ (k = 9 ∧ 1 < (L.getD k 0).toNat) → rdu L 0 0 = (0, dg L (k + 1), k + 1)) := by
  have hs := rdu_scan L k h1 h2 h3
  refine ⟨fun h => ?_, fun h h9 hb => ?_, fun h h0 hk => ?_, fun h hb h0 h9 => ?_⟩
  · rw [hs, List.drop_eq_nil_of_le (by omega), rdu_nil _ (by omega)]
  · rw [hs, drop_get h, h9]
    by_cases hm : 128 ≤ (L.getD 9 0).toNat
    · rw [rdu_more _ _ (by omega) hm, rdu_10]
    · rw [rdu_ten _ _ (by omega) (by rw [← h9]; exact hb)]
  · rw [hs, drop_get h, rdu_zero _ _ (by omega) h0 hk]
  · rw [hs, drop_get h, rdu_last _ _ (by omega) hb h0 h9, dg, Nat.mod_eq_of_lt hb]

/-- What holds at the head of each round of the first loop. -/
def RsRel (L : List UInt8) (p n : Nat) (v7 : Value) : Prop :=
  ∃ k : Nat, k ≤ 9 ∧ p + k ≤ n ∧ v7 = .int .i64 ((p : Int) + (k : Int)) ∧ ∀ i, i < k → 128 ≤ (L.getD i 0).toNat
/-- .. of the second. -/
def RtRel (L : List UInt8) (p k : Nat) (v8 v9 : Value) : Prop :=
  ∃ j x : Nat, j ≤ k + 1 ∧ v9 = .int .i64 ((p : Int) + (j : Int) - 1) ∧ v8 = .int .u64 x ∧ x * 128 ^ j + dg L j = dg L (k + 1)

set_option maxRecDepth 100000 in
set_option maxHeartbeats 1000000000 in
theorem rrdu_any (s : ByteArray) (p : Nat) (w : World) (hs : s.size ≤ 1000000000) (hp : p < s.size) :
    Calls Tryd.prog 14 #[.string s, .int .i64 p] w fun e w' => e = rduE (s.data.toList.drop p) p ∧ w = w' := by
  have e1 : decide ((p : Int) < 0) = false := by simp
  have e2 : decide ((s.size : Int) ≤ (p : Int)) = false := by simp; omega
  have e3 : decide (s.size ≤ p) = false := by simp; omega
  obtain ⟨L, hL⟩ : ∃ L, L = s.data.toList.drop p := ⟨_, rfl⟩
  rw [← hL]
  have hlen : L.length + p = s.size := by rw [hL, List.length_drop, ← Lib.size_eq]; omega
  have HG : Hid (∀ k (h : p + k < s.size), L.getD k 0 = s[p + k]'h) := fun k h => by
    rw [hL, List.getD_eq_getElem?_getD, List.getElem?_drop, List.getElem?_eq_getElem (by rw [← Lib.size_eq]; exact h)]
    rfl
  have HLN := Lib.hid hlen
  clear hL hlen
  go_enter Tryd.func14, Tryd.ntmps14
  go_wp2
  clear e1 e2 e3
  go_loop [7] (fun v7 => RsRel L p s.size v7) (fun v7 => s.size - (intOf v7).toNat)
  case atStart => exact ⟨0, by omega, by omega, by simp, fun i hi => by omega⟩
  case round =>
    obtain ⟨k, hk9, hps, rfl, h128⟩ := hrel
    obtain ⟨r1, r2, r3, r4⟩ := rdu_end L k hk9 (by have := HLN.out; omega) h128
    by_cases hend : p + k = s.size
    · have HF := Lib.hid (r1 (by have := HLN.out; omega))
      have t1 : decide ((p : Int) + (k : Int) < (s.size : Int)) = false := by simp; omega
      have t2 : ((p : Int) + (k : Int) == (s.size : Int)) = true := by simp; omega
      have t3 : decide (p + k < s.size) = false := by simp; omega
      clear r1 r2 r3 r4 h128
      go_wp2
      go_ret3
      refine ⟨?_, rfl⟩
      rw [rduE_no HF.out (by decide)]
      rfl
    · have hlt : p + k < s.size := by omega
      have t1 : decide ((p : Int) + (k : Int) < (s.size : Int)) = true := by simp; omega
      have t2 : ((p : Int) + (k : Int) == (s.size : Int)) = false := by simp; omega
      have t3 : decide (p + k < s.size) = true := by simp; omega
      have hb8 := (s[p + k]'hlt).toNat_lt
      rw [HG.out k hlt] at r2 r3 r4
      have hkL : k < L.length := by have := HLN.out; omega
      by_cases hmore : k < 9 ∧ 127 < (s[p + k]'hlt).toNat
      · have HR : Hid (∀ i, i < k + 1 → 128 ≤ (L.getD i 0).toNat) := fun i hi => by
          by_cases h : i < k
          · exact h128 i h
          · obtain rfl : i = k := by omega
            rw [HG.out i hlt]; omega
        have t4 : decide ((k : Int) < 9) = true := by simp; omega
        have t5 : decide ((p : Int) + (k : Int) < (p : Int) + 9) = true := by simp; omega
        have t6 : decide (127 < (s[p + k]'hlt).toNat) = true := by simp; omega
        have t7 : (127 : Int) < (s[p + k]'hlt).toNat := by omega
        obtain ⟨hk, hbb⟩ := hmore
        clear r1 r2 r3 r4 h128
        go_wp2
        go_round
        case rel => exact ⟨k + 1, by omega, by omega, by go_num, HR.out⟩
        case measure => simp [intOf]; omega
      -- GEN
      · by_cases h9 : k = 9
        · subst h9
          clear hmore
          have t4 : ¬ ((9 : Int) < 9) := by omega
          have t5 : decide ((p : Int) + ((9 : Nat) : Int) < (p : Int) + 9) = false := by simp
          rw [show ((9 : Nat) : Int) = 9 from rfl] at *
          by_cases hb1 : 1 < (s[p + 9]'hlt).toNat
          · have HF := Lib.hid (r2 hkL rfl hb1)
            have t6 : decide ((1 : Int) < ((s[p + 9]'hlt).toNat : Int)) = true := by simp; omega
            have t7 : decide (1 < (s[p + 9]'hlt).toNat) = true := by simp; omega
            clear r1 r2 r3 r4 h128
            go_wp2
            go_ret3
            refine ⟨?_, rfl⟩
            rw [rduE_no HF.out (by decide)]
            rfl
          · have t6 : decide ((1 : Int) < ((s[p + 9]'hlt).toNat : Int)) = false := by simp; omega
            have t7 : decide (1 < (s[p + 9]'hlt).toNat) = false := by simp; omega
            have t8 : (p : Int) < (p : Int) + 9 := by omega
            by_cases hb0 : (s[p + 9]'hlt).toNat = 0
            · have HF := Lib.hid (r3 hkL hb0 (by omega))
              have u1 : (((s[p + 9]'hlt).toNat : Int) == 0) = true := by simp; omega
              clear r1 r2 r3 r4 h128
              go_wp2
              go_ret3
              refine ⟨?_, rfl⟩
              rw [rduE_no HF.out (by decide)]
              rfl
            · have HF := Lib.hid (r4 hkL (by omega) (by omega) (by omega))
              have u1 : (((s[p + 9]'hlt).toNat : Int) == 0) = false := by simp; omega
              have HB := Lib.hid (rdu_bound L 0 0 0 _ _ HF.out (by simp) (by omega) rfl).1
              clear r1 r2 r3 r4 h128
              go_wp2
              go_loop [8, 9] (fun v8 v9 => RtRel L p 9 v8 v9) (fun _ v9 => (intOf v9 + 1 - p).toNat)
              case atStart => exact ⟨9 + 1, 0, by omega, by go_num, rfl, by simp⟩
              case round =>
                obtain ⟨j, x, hj, rfl, rfl, hx⟩ := hrel
                have HX := Lib.hid hx
                have hB := HB.out
                by_cases hj0 : j = 0
                · subst hj0
                  have t8 : decide ((p : Int) ≤ (p : Int) + ((0 : Nat) : Int) - 1) = false := by simp; omega
                  have t9 : decide ((p : Int) ≤ (p : Int) - 1) = false := by simp; omega
                  clear hx
                  go_wp2
                  go_ret3
                  refine ⟨?_, rfl⟩
                  have hx2 : x = dg L (9 + 1) := by
                    have h := HX.out
                    rw [Nat.pow_zero, Nat.mul_one, show dg L 0 = 0 from rfl, Nat.add_zero] at h
                    exact h
                  rw [rduE_ok HF.out, ← hx2, show ((p + (9 + 1) : Nat) : Int) = (p : Int) + (9 : Int) + 1 from by omega]
                  rfl
                · obtain ⟨q, rfl⟩ : ∃ q, j = q + 1 := ⟨j - 1, by omega⟩
                  rw [show (p : Int) + ((q + 1 : Nat) : Int) - 1 = (p : Int) + (q : Int) from by omega]
                  have hqs : p + q < s.size := by omega
                  have hgq := HG.out q hqs
                  have hq8 := (s[p + q]'hqs).toNat_lt
                  have HX2 : Hid ((x * 128 + (s[p + q]'hqs).toNat % 128) * 128 ^ q + dg L q = dg L (9 + 1)) := by
                    show _ = _
                    rw [← hx, dg, hgq, Nat.pow_succ, Nat.add_mul, Nat.mul_assoc, Nat.mul_comm 128 (128 ^ q)]
                    omega
                  have hbx : x * 128 + (s[p + q]'hqs).toNat % 128 < 18446744073709551616 := by
                    have h1 := HX2.out
                    have h2 : (x * 128 + (s[p + q]'hqs).toNat % 128) * 1 ≤ (x * 128 + (s[p + q]'hqs).toNat % 128) * 128 ^ q := Nat.mul_le_mul_left _ (Nat.pos_of_ne_zero (by simp))
                    omega
                  clear hx hgq hj0
                  go_wp2
                  go_round
                  case rel => exact ⟨q, x * 128 + (s[p + q]'hqs).toNat % 128, by omega, by go_num, by go_num, HX2.out⟩
                  case measure => simp [intOf]; omega
        · have hk : k < 9 := by omega
          have hb : (s[p + k]'hlt).toNat < 128 := by omega
          have t4 : decide ((k : Int) < 9) = true := by simp; omega
          have t5 : decide ((p : Int) + (k : Int) < (p : Int) + 9) = true := by simp; omega
          have t6 : decide ((127 : Int) < ((s[p + k]'hlt).toNat : Int)) = false := by simp; omega
          have t7 : decide (127 < (s[p + k]'hlt).toNat) = false := by simp; omega
          have t8 : ((p : Int) + (k : Int) == (p : Int) + 9) = false := by simp; omega
          have t9 : ((k : Int) == 9) = false := by simp; omega
          clear hmore h9
          by_cases hk0 : ¬ 0 < k
          · have HF := Lib.hid (r4 hkL (by omega) (by omega) (by omega))
            have u1 : decide ((p : Int) < (p : Int) + (k : Int)) = false := by simp; omega
            have u2 : decide ((0 : Int) < (k : Int)) = false := by simp; omega
            have u3 : decide (0 < k) = false := by simp; omega
            have HB := Lib.hid (rdu_bound L 0 0 0 _ _ HF.out (by simp) (by omega) rfl).1
            clear r1 r2 r3 r4 h128
            go_wp2
            go_loop [8, 9] (fun v8 v9 => RtRel L p k v8 v9) (fun _ v9 => (intOf v9 + 1 - p).toNat)
            case atStart => exact ⟨k + 1, 0, by omega, by go_num, rfl, by simp⟩
            case round =>
              obtain ⟨j, x, hj, rfl, rfl, hx⟩ := hrel
              have HX := Lib.hid hx
              have hB := HB.out
              by_cases hj0 : j = 0
              · subst hj0
                have t8 : decide ((p : Int) ≤ (p : Int) + ((0 : Nat) : Int) - 1) = false := by simp; omega
                have t9 : decide ((p : Int) ≤ (p : Int) - 1) = false := by simp; omega
                clear hx
                go_wp2
                go_ret3
                refine ⟨?_, rfl⟩
                have hx2 : x = dg L (k + 1) := by
                  have h := HX.out
                  rw [Nat.pow_zero, Nat.mul_one, show dg L 0 = 0 from rfl, Nat.add_zero] at h
                  exact h
                rw [rduE_ok HF.out, ← hx2, show ((p + (k + 1) : Nat) : Int) = (p : Int) + (k : Int) + 1 from by omega]
                rfl
              · obtain ⟨q, rfl⟩ : ∃ q, j = q + 1 := ⟨j - 1, by omega⟩
                rw [show (p : Int) + ((q + 1 : Nat) : Int) - 1 = (p : Int) + (q : Int) from by omega]
                have hqs : p + q < s.size := by omega
                have hgq := HG.out q hqs
                have hq8 := (s[p + q]'hqs).toNat_lt
                have HX2 : Hid ((x * 128 + (s[p + q]'hqs).toNat % 128) * 128 ^ q + dg L q = dg L (k + 1)) := by
                  show _ = _
                  rw [← hx, dg, hgq, Nat.pow_succ, Nat.add_mul, Nat.mul_assoc, Nat.mul_comm 128 (128 ^ q)]
                  omega
                have hbx : x * 128 + (s[p + q]'hqs).toNat % 128 < 18446744073709551616 := by
                  have h1 := HX2.out
                  have h2 : (x * 128 + (s[p + q]'hqs).toNat % 128) * 1 ≤ (x * 128 + (s[p + q]'hqs).toNat % 128) * 128 ^ q := Nat.mul_le_mul_left _ (Nat.pos_of_ne_zero (by simp))
                  omega
                clear hx hgq hj0
                go_wp2
                go_round
                case rel => exact ⟨q, x * 128 + (s[p + q]'hqs).toNat % 128, by omega, by go_num, by go_num, HX2.out⟩
                case measure => simp [intOf]; omega
          · have u1 : decide ((p : Int) < (p : Int) + (k : Int)) = true := by simp; omega
            have u2 : decide ((0 : Int) < (k : Int)) = true := by simp; omega
            have u3 : decide (0 < k) = true := by simp; omega
            by_cases hb0 : (s[p + k]'hlt).toNat = 0
            · have HF := Lib.hid (r3 hkL hb0 (by omega))
              have u4 : (((s[p + k]'hlt).toNat : Int) == 0) = true := by simp; omega
              clear r1 r2 r3 r4 h128
              go_wp2
              go_ret3
              refine ⟨?_, rfl⟩
              rw [rduE_no HF.out (by decide)]
              rfl
            · have HF := Lib.hid (r4 hkL (by omega) (by omega) (by omega))
              have u4 : (((s[p + k]'hlt).toNat : Int) == 0) = false := by simp; omega
              have HB := Lib.hid (rdu_bound L 0 0 0 _ _ HF.out (by simp) (by omega) rfl).1
              clear r1 r2 r3 r4 h128
              go_wp2
              go_loop [8, 9] (fun v8 v9 => RtRel L p k v8 v9) (fun _ v9 => (intOf v9 + 1 - p).toNat)
              case atStart => exact ⟨k + 1, 0, by omega, by go_num, rfl, by simp⟩
              case round =>
                obtain ⟨j, x, hj, rfl, rfl, hx⟩ := hrel
                have HX := Lib.hid hx
                have hB := HB.out
                by_cases hj0 : j = 0
                · subst hj0
                  have t8 : decide ((p : Int) ≤ (p : Int) + ((0 : Nat) : Int) - 1) = false := by simp; omega
                  have t9 : decide ((p : Int) ≤ (p : Int) - 1) = false := by simp; omega
                  clear hx
                  go_wp2
                  go_ret3
                  refine ⟨?_, rfl⟩
                  have hx2 : x = dg L (k + 1) := by
                    have h := HX.out
                    rw [Nat.pow_zero, Nat.mul_one, show dg L 0 = 0 from rfl, Nat.add_zero] at h
                    exact h
                  rw [rduE_ok HF.out, ← hx2, show ((p + (k + 1) : Nat) : Int) = (p : Int) + (k : Int) + 1 from by omega]
                  rfl
                · obtain ⟨q, rfl⟩ : ∃ q, j = q + 1 := ⟨j - 1, by omega⟩
                  rw [show (p : Int) + ((q + 1 : Nat) : Int) - 1 = (p : Int) + (q : Int) from by omega]
                  have hqs : p + q < s.size := by omega
                  have hgq := HG.out q hqs
                  have hq8 := (s[p + q]'hqs).toNat_lt
                  have HX2 : Hid ((x * 128 + (s[p + q]'hqs).toNat % 128) * 128 ^ q + dg L q = dg L (k + 1)) := by
                    show _ = _
                    rw [← hx, dg, hgq, Nat.pow_succ, Nat.add_mul, Nat.mul_assoc, Nat.mul_comm 128 (128 ^ q)]
                    omega
                  have hbx : x * 128 + (s[p + q]'hqs).toNat % 128 < 18446744073709551616 := by
                    have h1 := HX2.out
                    have h2 : (x * 128 + (s[p + q]'hqs).toNat % 128) * 1 ≤ (x * 128 + (s[p + q]'hqs).toNat % 128) * 128 ^ q := Nat.mul_le_mul_left _ (Nat.pos_of_ne_zero (by simp))
                    omega
                  clear hx hgq hj0
                  go_wp2
                  go_round
                  case rel => exact ⟨q, x * 128 + (s[p + q]'hqs).toNat % 128, by omega, by go_num, by go_num, HX2.out⟩
                  case measure => simp [intOf]; omega
theorem rrdu_at (s : ByteArray) (p : Nat) (w : World) (hs : s.size ≤ 1000000000) :
    Calls Tryd.prog 14 #[.string s, .int .i64 p] w fun e w' => e = rduE (s.data.toList.drop p) p ∧ w = w' := by
  by_cases hp : p < s.size
  · exact rrdu_any s p w hs hp
  · have HF : Hid (rdu (s.data.toList.drop p) 0 0 = (20, 0, 0)) := by
      show _ = _
      rw [List.drop_eq_nil_of_le (by rw [← Lib.size_eq]; omega), rdu_nil _ (by omega)]
    have e1 : decide ((p : Int) < 0) = false := by simp
    have e2 : (s.size : Int) ≤ (p : Int) := by omega
    clear hp
    go_enter Tryd.func14, Tryd.ntmps14
    go_wp2
    go_ret3
    refine ⟨?_, rfl⟩
    rw [rduE_no HF.out (by decide)]
    rfl
theorem nil0_step (s : ByteArray) (q : Nat) (h : q < s.size) : nil0 (s.data.toList.drop q) = ((s[q]'h == 0) && nil0 (s.data.toList.drop (q + 1))) := by
  rw [List.drop_eq_getElem_cons (by rw [← Lib.size_eq]; exact h)]
  rfl
end Go.Proofs.YtlgfdfpafmopdaaDoor
