/-
  RowsOrder, its own function.
-/
import Derived.Test.YtenohgogfddniaaRwk
import Derived.BigQuiet
namespace Go.Proofs.Ytenohgogfddniaa
open Go.RowKit
set_option linter.unusedVariables false

def tK : Tb := ⟨107, [0, 1], 2, -1⟩
def oR (a : Int) (s : ByteArray) : List Vl := [⟨a, ⟨#[]⟩⟩, ⟨0, s⟩]
def encK (r : Option (List UInt8 × List UInt8 × List UInt8)) : ByteArray := match r with | none => ⟨#[]⟩ | some (k, _, _) => ⟨k.toArray⟩
def encV (r : Option (List UInt8 × List UInt8 × List UInt8)) : ByteArray := match r with | none => ⟨#[]⟩ | some (_, v, _) => ⟨v.toArray⟩
def encC (r : Option (List UInt8 × List UInt8 × List UInt8)) : Int := match r with | none => 60 | some _ => 0
theorem encrE_eq (r : Option (List UInt8 × List UInt8 × List UInt8)) : encrE r = .returned (.tuple #[.agg #[.string (encK r), .string (encV r)], .int .i64 (encC r)]) := by
  rcases r with _ | ⟨k, v, x⟩ <;> rfl
theorem zero_not {s : ByteArray} (h : hasZ s = false) : (0 : UInt8) ∉ s.data.toList := by
  intro hm
  unfold hasZ at h
  rw [decide_eq_false_iff_not] at h
  have := Lib.indexByte_ge s.data.toList 0
  obtain ⟨k, hk⟩ := List.getElem?_of_mem hm
  exact Lib.indexByte_none (by omega) k hk
theorem oR_pairs {a : Int} {s : ByteArray} (h : encC (pairsF tK (oR a s)) = 0) : (encK (pairsF tK (oR a s))).toList = [107, 0] ++ (ord a ++ (s.data.toList ++ 0 :: [])) ∧ (0 : UInt8) ∉ s.data.toList := by
  have hz : hasV tK (oR a s) = true → hasZ s = false := fun hv => by
    have e0 : (⟨#[]⟩ : ByteArray).toList = [] := by rw [ByteArray.toList_eq]
    simp only [hasV, okUp, okAt, tK, oR, List.length_cons, List.length_nil, List.getElem?_cons_zero, List.getElem?_cons_succ, okV, inK, Bool.and_eq_true] at hv
    have := hv.2.2.1
    simpa using this
  have hk : keysOf tK (oR a s) = ord a ++ (s.data.toList ++ 0 :: []) := by
    show ord a ++ ((s.data.toList ++ [0]) ++ []) = _
    rw [List.append_nil]
  unfold pairsF at h ⊢
  split at h
  · rename_i hc
    rw [if_pos hc]
    simp only [Bool.and_eq_true] at hc
    refine ⟨?_, zero_not (hz hc.1.1.1.2)⟩
    show ByteArray.toList ⟨(tbegin tK 0 ++ keysOf tK (oR a s)).toArray⟩ = _
    rw [ByteArray.toList_eq, List.toList_toArray, hk]
    rfl
  · simp [encC] at h
theorem oR_ok {a : Int} {s : ByteArray} (h1 : -9223372036854775808 ≤ a) (h2 : a < 9223372036854775808) (hs : s.size ≤ 1000000000) : ∀ x ∈ oR a s, x.Ok := by
  intro x hx
  simp only [oR, List.mem_cons, List.not_mem_nil, or_false] at hx
  rcases hx with rfl | rfl
  · exact ⟨h1, h2, by show (0 : Nat) ≤ _; omega⟩
  · exact ⟨by simp only; omega, by simp only; omega, hs⟩
theorem bl_nil : Go.Op.bytesLess [] [] = false := rfl
theorem app_zero {x y : List UInt8} (h : x ++ 0 :: [] = y ++ 0 :: []) : x = y := (List.append_inj' h rfl).1
/-- The order, and the sameness, of two rows' keys. -/
theorem oR_order {a b : Int} {s u : ByteArray} (ha1 : -9223372036854775808 ≤ a) (ha2 : a < 9223372036854775808) (hb1 : -9223372036854775808 ≤ b) (hb2 : b < 9223372036854775808) (h1 : encC (pairsF tK (oR a s)) = 0) (h2 : encC (pairsF tK (oR b u)) = 0) :
    Go.Op.bytesLess (encK (pairsF tK (oR a s))).toList (encK (pairsF tK (oR b u))).toList = (decide (a < b) || (decide (a = b) && Go.Op.bytesLess s.toList u.toList)) ∧
    ((encK (pairsF tK (oR a s))).toList == (encK (pairsF tK (oR b u))).toList) = (decide (a = b) && (s.toList == u.toList)) := by
  obtain ⟨e1, z1⟩ := oR_pairs h1
  obtain ⟨e2, z2⟩ := oR_pairs h2
  rw [e1, e2]
  constructor
  · rw [bl_same, ord_bl _ _ ha1 ha2 hb1 hb2, bl_ends _ _ _ _ z1 z2, bl_nil, Bool.and_false, Bool.or_false, ByteArray.toList_eq, ByteArray.toList_eq]
  · rw [ByteArray.toList_eq, ByteArray.toList_eq, Bool.eq_iff_iff]
    simp only [beq_iff_eq, Bool.and_eq_true, decide_eq_true_eq]
    constructor
    · intro h
      have h3 := List.append_cancel_left h
      have h4 := List.append_inj h3 (by rw [ord_len, ord_len])
      exact ⟨ord_inj ha1 ha2 hb1 hb2 h4.1, app_zero h4.2⟩
    · rintro ⟨rfl, h⟩
      rw [h]

set_option maxRecDepth 100000 in
set_option maxHeartbeats 4000000 in
theorem order6_walk (a b : Int) (s u : ByteArray) (w : World) (ha1 : -9223372036854775808 ≤ a) (ha2 : a < 9223372036854775808) (hb1 : -9223372036854775808 ≤ b) (hb2 : b < 9223372036854775808) (hs : s.size ≤ 1000000000) (hu : u.size ≤ 1000000000) (hm : MaxL w) :
    Calls Try.prog 6 #[.agg #[.int .i64 a, .int .i64 b], .string s, .string u] w fun e w' => e = .returned (.bool true) ∧ Tch [] w w' := by
  have HO := Lib.hid (oR_order (s := s) (u := u) ha1 ha2 hb1 hb2)
  have HE : Hid (∀ W g (a : Int) (s : ByteArray), -9223372036854775808 ≤ a → a < 9223372036854775808 → s.size ≤ 1000000000 → IsKs W (some ⟨g, 0, none⟩) 2 g 0 [0, 1] → Calls Try.prog 7 #[.agg #[.int .u8 107, .slice (some ⟨g, 0, none⟩) 2 2, .int .i64 2, .int .i64 (-1)], .slice (some ⟨W.heap.size, 0, none⟩) 2 2] (W.alloc (.cells #[.int .i64 a, .string ⟨#[]⟩, .int .i64 0, .string s] 58)) fun e w' => e = .returned (.tuple #[.agg #[.string (encK (pairsF tK (oR a s))), .string (encV (pairsF tK (oR a s)))], .int .i64 (encC (pairsF tK (oR a s)))]) ∧ Tch [] W w') := fun W g a s h1 h2 h3 hk => by
    have t3 : Tch [] W (W.alloc (.cells #[.int .i64 a, .string ⟨#[]⟩, .int .i64 0, .string s] 58)) := (Tch.refl [] W).alloc _
    have h := encodeR_any tK (some ⟨g, 0, none⟩) 2 g 0 (oR a s) (some ⟨W.heap.size, 0, none⟩) 2 W.heap.size 0 _ (hk.keep0 t3) (isr_lit (f := fVl) (oR a s) (fun _ => rfl) (blk_new W _)) (by decide) (show (oR a s).length ≤ 2 from Nat.le_refl 2) (by decide) (by decide) (oR_ok h1 h2 h3)
    rw [encrE_eq] at h
    exact h.mono fun e w' ⟨h1, h2⟩ => ⟨h1, t3.trans h2⟩
  have HE1 := Lib.hid (fun W g => HE.out W g a s ha1 ha2 hs)
  have HE2 := Lib.hid (fun W g => HE.out W g b u hb1 hb2 hu)
  have HW : Hid (∀ W, Tch [] w W → Calls Try.prog 11 #[] W fun e w' => e = .returned (.bool true) ∧ Tch [] W w') := fun W t => wakes6_any W (hm.keep t)
  generalize encK (pairsF tK (oR a s)) = P1 at *
  generalize encK (pairsF tK (oR b u)) = P2 at *
  generalize encV (pairsF tK (oR a s)) = V1 at *
  generalize encV (pairsF tK (oR b u)) = V2 at *
  generalize encC (pairsF tK (oR a s)) = C1 at *
  generalize encC (pairsF tK (oR b u)) = C2 at *
  clear HE hm ha1 ha2 hb1 hb2 hs hu
  go_enter Try.func6, Try.ntmps6
  go_upto_region 1 with fail
  obtain ⟨W0, hW0⟩ : ∃ W0, W0 = w.alloc (.cells #[.int .i64 a, .int .i64 b] 55) := ⟨_, rfl⟩
  have hb0 : W0.heap[w.heap.size]? = some (.cells #[.int .i64 a, .int .i64 b] 55 (0, 0)) := by rw [hW0]; exact blk_new _ _
  have T0 : Tch [] w W0 := by rw [hW0]; exact (Tch.refl [] w).alloc _
  rw [← hW0]
  clear hW0
  have q0 : ∀ n, (W0.drewN n).cell? ⟨w.heap.size, 0, none⟩ = some (.int .i64 a) := fun n => by rw [blk_cell ((tdrewN (Tch.refl [] W0) n).keep hb0 (by simp))]; rfl
  have q1 : ∀ n, (W0.drewN n).cell? ⟨w.heap.size, 1, none⟩ = some (.int .i64 b) := fun n => by rw [blk_cell ((tdrewN (Tch.refl [] W0) n).keep hb0 (by simp))]; rfl
  have HT0 := Lib.hid T0
  clear T0 hb0
  go_quiet (fail)
  clear q0 q1
  go_upto_region 3 with fail
  obtain ⟨W1, hW1⟩ : ∃ W1, W1 = ((W0.drewN nq).alloc (.cells #[.int .i64 0, .int .i64 1] 56)).alloc (.cells #[.int .u8 107, .slice (some ⟨W0.heap.size, 0, none⟩) 2 2, .int .i64 2, .int .i64 (-1)] 24) := ⟨_, rfl⟩
  have hk1 : W1.heap[W0.heap.size]? = some (.cells #[.int .i64 0, .int .i64 1] 56 (0, 0)) := by rw [hW1]; exact blk_alloc (blk_new (W0.drewN nq) _) _
  have ht1 : W1.heap[W0.heap.size + 1]? = some (.cells #[.int .u8 107, .slice (some ⟨W0.heap.size, 0, none⟩) 2 2, .int .i64 2, .int .i64 (-1)] 24 (0, 0)) := by
    have h := blk_new ((W0.drewN nq).alloc (.cells #[.int .i64 0, .int .i64 1] 56)) (.cells #[.int .u8 107, .slice (some ⟨W0.heap.size, 0, none⟩) 2 2, .int .i64 2, .int .i64 (-1)] 24)
    rw [show ((W0.drewN nq).alloc (.cells #[.int .i64 0, .int .i64 1] 56)).heap.size = W0.heap.size + 1 from Array.size_push _] at h
    rw [hW1]; exact h
  have HT1 : Hid (Tch [] w W1) := by
    have : Tch [] w W1 := by rw [hW1]; exact ((tdrewN HT0.out nq).alloc _).alloc _
    exact this
  rw [← hW1]
  clear hW1 HT0
  have HX : Hid (∀ W, Tch [] W1 W → W.cell? ⟨W0.heap.size + 1, 0, none⟩ = some (.int .u8 107) ∧ W.cell? ⟨W0.heap.size + 1, 1, none⟩ = some (.slice (some ⟨W0.heap.size, 0, none⟩) 2 2) ∧ W.cell? ⟨W0.heap.size + 1, 2, none⟩ = some (.int .i64 2) ∧ W.cell? ⟨W0.heap.size + 1, 3, none⟩ = some (.int .i64 (-1))) := fun W t3 => by
    have h1 := t3.keep ht1 (by simp)
    exact ⟨by rw [blk_cell h1]; rfl, by rw [blk_cell h1]; rfl, by rw [blk_cell h1]; rfl, by rw [blk_cell h1]; rfl⟩
  have HK : Hid (∀ W, Tch [] W1 W → IsKs W (some ⟨W0.heap.size, 0, none⟩) 2 W0.heap.size 0 [0, 1]) := fun W t3 => isr_lit (f := fInt) [0, 1] (fun _ => rfl) (t3.keep hk1 (by simp))
  clear hk1 ht1
  generalize W0.heap.size = G at *
  have HC := Lib.hid (HE1.out W1 G (HK.out W1 (Tch.refl _ _)))
  obtain ⟨x0, x1, x2, x3⟩ := HX.out W1 (Tch.refl _ _)
  clear HE1
  go_wp2_with fail
  refine HC.out.mono ?_
  rintro e w3 ⟨rfl, t3⟩
  clear x0 x1 x2 x3 HC
  go_upto_region 4 with fail
  obtain ⟨W4, hW4⟩ : ∃ W4, W4 = w3.alloc (.cells #[.string P1, .string V1] 28) := ⟨_, rfl⟩
  have hp4 : W4.heap[w3.heap.size]? = some (.cells #[.string P1, .string V1] 28 (0, 0)) := by rw [hW4]; exact blk_new _ _
  have T4 : Tch [] W1 W4 := by rw [hW4]; exact t3.alloc _
  rw [← hW4]
  clear hW4 t3
  have HC := Lib.hid (HE2.out W4 G (HK.out W4 T4))
  obtain ⟨x0, x1, x2, x3⟩ := HX.out W4 T4
  have HP4 := Lib.hid hp4
  have HT4 := Lib.hid (HT1.out.trans T4)
  clear HE2 HX HK T4 hp4
  go_wp2_with fail
  refine HC.out.mono ?_
  rintro e w5 ⟨rfl, t5⟩
  clear x0 x1 x2 x3 HC
  go_upto_region 5 with fail
  obtain ⟨W6, hW6⟩ : ∃ W6, W6 = w5.alloc (.cells #[.string P2, .string V2] 28) := ⟨_, rfl⟩
  have hp6 : W6.heap[w5.heap.size]? = some (.cells #[.string P2, .string V2] 28 (0, 0)) := by rw [hW6]; exact blk_new _ _
  have T6 : Tch [] W4 W6 := by rw [hW6]; exact t5.alloc _
  have HP6 := Lib.hid hp6
  have HP46 := Lib.hid (T6.keep HP4.out (by simp))
  have HT6 := Lib.hid (HT4.out.trans T6)
  rw [← hW6]
  have HC := Lib.hid (HW.out W6 HT6.out)
  clear hW6 t5 T6 hp6 HP4 HT4 HT1
  generalize w3.heap.size = G1 at *
  generalize w5.heap.size = G2 at *
  by_cases hc1 : C1 = 0
  · subst hc1
    by_cases hc2 : C2 = 0
    · subst hc2
      obtain ⟨ho, hy⟩ := HO.out rfl rfl
      clear HO
      go_wp2_with fail
      refine HC.out.mono ?_
      rintro e w7 ⟨rfl, t7⟩
      have HQ := Lib.hid (HT6.out.trans t7)
      have h1 := t7.keep HP46.out (by simp)
      have h2 := t7.keep HP6.out (by simp)
      have y0 : w7.cell? ⟨G1, 0, none⟩ = some (.string P1) := by rw [blk_cell h1]; rfl
      have y1 : w7.cell? ⟨G2, 0, none⟩ = some (.string P2) := by rw [blk_cell h2]; rfl
      clear HC HW HP46 HP6 HT6 t7 h1 h2
      by_cases hab : a < b
      · have hne : a ≠ b := by omega
        have e1 : decide (a < b) = true := decide_eq_true hab
        have e2 : (a == b) = false := beq_false_of_ne hne
        have e3 : decide (a = b) = false := decide_eq_false hne
        rw [e1, Bool.true_or] at ho
        rw [e3, Bool.false_and] at hy
        clear e3 hab hne
        go_wp2_with fail
        first | exact ⟨rfl, HQ.out⟩ | (go_ret; exact ⟨rfl, HQ.out⟩)
      · have e1 : decide (a < b) = false := decide_eq_false hab
        by_cases heq : a = b
        · have e2 : (a == b) = true := by rw [heq]; simp
          have e3 : decide (a = b) = true := decide_eq_true heq
          rw [e1, e3, Bool.false_or, Bool.true_and] at ho
          rw [e3, Bool.true_and] at hy
          clear e3 hab heq
          rcases hs1 : Go.Op.bytesLess s.toList u.toList with _ | _
          · rw [hs1] at ho
            rcases hs2 : (s.toList == u.toList) with _ | _
            · rw [hs2] at hy
              go_wp2_with fail
              first | exact ⟨rfl, HQ.out⟩ | (go_ret; exact ⟨rfl, HQ.out⟩)
            · rw [hs2] at hy
              go_wp2_with fail
              first | exact ⟨rfl, HQ.out⟩ | (go_ret; exact ⟨rfl, HQ.out⟩)
          · rw [hs1] at ho
            rcases hs2 : (s.toList == u.toList) with _ | _
            · rw [hs2] at hy
              go_wp2_with fail
              first | exact ⟨rfl, HQ.out⟩ | (go_ret; exact ⟨rfl, HQ.out⟩)
            · rw [hs2] at hy
              go_wp2_with fail
              first | exact ⟨rfl, HQ.out⟩ | (go_ret; exact ⟨rfl, HQ.out⟩)
        · have e2 : (a == b) = false := beq_false_of_ne heq
          have e3 : decide (a = b) = false := decide_eq_false heq
          rw [e1, e3, Bool.false_or, Bool.false_and] at ho
          rw [e3, Bool.false_and] at hy
          clear e3 hab heq
          go_wp2_with fail
          first | exact ⟨rfl, HQ.out⟩ | (go_ret; exact ⟨rfl, HQ.out⟩)
    · have hb : (C2 != 0) = true := by simpa using hc2
      clear HO hc2
      go_wp2_with fail
      refine HC.out.mono ?_
      rintro e w7 ⟨rfl, t7⟩
      have HC2 := Lib.hid (HW.out w7 (HT6.out.trans t7))
      have HQ := Lib.hid (HT6.out.trans t7)
      clear HC HW HP46 HP6 HT6 t7
      go_wp2_with fail
      refine HC2.out.mono ?_
      rintro e w8 ⟨rfl, t8⟩
      have HQ2 := Lib.hid (HQ.out.trans t8)
      clear HC2 HQ t8
      go_wp2_with fail
      first | exact ⟨rfl, HQ2.out⟩ | (go_ret; exact ⟨rfl, HQ2.out⟩)
  · have hb : (C1 != 0) = true := by simpa using hc1
    clear HO hc1
    go_wp2_with fail
    refine HC.out.mono ?_
    rintro e w7 ⟨rfl, t7⟩
    have HC2 := Lib.hid (HW.out w7 (HT6.out.trans t7))
    have HQ := Lib.hid (HT6.out.trans t7)
    clear HC HW HP46 HP6 HT6 t7
    go_wp2_with fail
    refine HC2.out.mono ?_
    rintro e w8 ⟨rfl, t8⟩
    have HQ2 := Lib.hid (HQ.out.trans t8)
    clear HC2 HQ t8
    go_wp2_with fail
    first | exact ⟨rfl, HQ2.out⟩ | (go_ret; exact ⟨rfl, HQ2.out⟩)
end Go.Proofs.Ytenohgogfddniaa
