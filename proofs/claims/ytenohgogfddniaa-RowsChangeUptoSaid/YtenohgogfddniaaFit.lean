/-
  Layer 6: 'isFit'.
-/
import Derived.Test.YtenohgogfddniaaKf
import Derived.Test.YtenohgogfddniaaRow
namespace Go.Proofs.Ytenohgogfddniaa
open Go.RowKit
set_option linter.unusedVariables false

def kindB (k : Int) : Bool := k == 0 || k == 1
def tfit (t : Tb) : Bool := t.cols.all kindB && decide (97 ≤ t.name) && decide (t.name ≤ 122) && decide (1 ≤ t.keys) && decide (t.keys ≤ t.cols.length) && decide (-1 ≤ t.idx) && decide (t.idx < t.cols.length)
/-- A table's kinds in memory. -/
abbrev IsKs (w : World) (a : Option Addr) (n b o : Nat) (ks : List Int) : Prop := IsR fInt 1 w a n b o ks

def FitRel (cols : List Int) (v8 : Value) : Prop := ∃ k : Nat, k ≤ cols.length ∧ v8 = .int .i64 k ∧ (cols.take k).all kindB = true
set_option maxRecDepth 100000 in
set_option maxHeartbeats 1000000 in
theorem isFit_any (t : Tb) (a : Option Addr) (c b o : Nat) (w : World) (hk : IsKs w a t.cols.length b o t.cols) (hl : t.cols.length ≤ 1000000000) :
    Calls Try.prog 28 #[t.agg a c] w fun e w' => e = .returned (.bool (tfit t)) ∧ Tch [] w w' := by
  have HF := Lib.hid (show tfit t = (t.cols.all kindB && (decide (97 ≤ (t.name : Int)) && decide ((t.name : Int) ≤ 122) && decide (1 ≤ t.keys) && decide (t.keys ≤ (t.cols.length : Int)) && decide (-1 ≤ t.idx) && decide (t.idx < (t.cols.length : Int)))) from by
    unfold tfit
    have e1 : decide (97 ≤ (t.name : Int)) = decide (97 ≤ t.name) := by apply decide_eq_decide.2; omega
    have e2 : decide ((t.name : Int) ≤ 122) = decide (t.name ≤ 122) := by apply decide_eq_decide.2; omega
    rw [e1, e2]
    simp only [Bool.and_assoc])
  rw [HF.out]
  obtain ⟨nm, cols, tk, ti⟩ := t
  unfold Tb.agg
  clear HF
  simp only at hk hl ⊢
  have HK := Lib.hid hk
  generalize hnm : (nm : Int) = nmi
  have HB := Lib.hid (show ∀ k : Nat, k < cols.length → a = some ⟨b, o, none⟩ ∧ b < w.heap.size from fun k h => ⟨hk.some_ (by omega), hk.lt (by omega)⟩)
  have HC := Lib.hid (show ∀ (W : World), Tch [] w W → ∀ (k : Nat) x, cols[k]? = some x → W.cell? ⟨b, o + k, none⟩ = some (.int .i64 x) from fun W T k x hx => (hk.keep0 T).one hx rfl)
  clear hk HK
  have T1 := Lib.hid ((Tch.refl [] w).alloc (.cells #[.int .u8 nmi, .slice a cols.length c, .int .i64 tk, .int .i64 ti] 24))
  generalize hcn : cols.length = cn at *
  have HN := Lib.hid hcn
  clear hcn
  go_enter Try.func28, Try.ntmps28
  go_wp2
  go_loop [8] (fun v8 => FitRel cols v8) (fun v8 => cn - (intOf v8).toNat)
  case atStart => exact ⟨0, by omega, rfl, by simp⟩
  case round =>
    obtain ⟨k, hk, rfl, hall⟩ := hrel
    rw [HN.out] at hk
    by_cases hkn : k < cn
    · obtain ⟨rfl, hbw⟩ := HB.out k hkn
      obtain ⟨x, hx⟩ : ∃ x, cols[k]? = some x := ⟨_, List.getElem?_eq_getElem (by rw [HN.out]; exact hkn)⟩
      have hcell := HC.out _ T1.out k x hx
      have hki : (k : Int) < (cn : Int) := by omega
      have HS := Lib.hid (show (cols.take (k + 1)).all kindB = kindB x from by rw [List.take_add_one, hx, List.all_append, hall]; simp)
      have HX := Lib.hid hx
      clear hx hall
      by_cases h0 : x = 0
      · subst h0
        go_wp2
        go_round
        case rel => exact ⟨k + 1, by rw [HN.out]; omega, by go_num, HS.out⟩
        case measure => simp [intOf]; omega
      · have hb0 : (x == 0) = false := by simp; exact h0
        by_cases h1 : x = 1
        · subst h1
          clear h0
          go_wp2
          go_round
          case rel => exact ⟨k + 1, by rw [HN.out]; omega, by go_num, HS.out⟩
          case measure => simp [intOf]; omega
        · have hb1 : (x == 1) = false := by simp; exact h1
          have HZ := Lib.hid (show cols.all kindB = false from by
            rw [List.all_eq_false]
            exact ⟨x, List.mem_of_getElem? HX.out, by unfold kindB; rw [hb0, hb1]; simp⟩)
          have hn0 : (x != 0) = true := by simp; exact h0
          have hn1 : (x != 1) = true := by simp; exact h1
          clear h0 h1 hb0 hb1
          go_wp2
          go_ret
          exact ⟨by first | rfl | (rw [HZ.out]; rfl), T1.out⟩
    · obtain rfl : k = cn := by omega
      have HA := Lib.hid (show cols.all kindB = true from by rw [← HN.out, List.take_length] at hall; exact hall)
      clear hall hkn hk HB HC
      by_cases g1 : 97 ≤ nmi
      · by_cases g2 : nmi ≤ 122
        · by_cases g3 : 1 ≤ tk
          · by_cases g4 : tk ≤ (k : Int)
            · by_cases g5 : -1 ≤ ti
              · by_cases g6 : ti < (k : Int)
                · have HE := Lib.hid (show (decide (97 ≤ nmi) && decide (nmi ≤ 122) && decide (1 ≤ tk) && decide (tk ≤ (k : Int)) && decide (-1 ≤ ti) && decide (ti < (k : Int))) = true from by simp [*])
                  go_wp2
                  go_ret
                  exact ⟨by first | rfl | (rw [HA.out, HE.out]; rfl) | (rw [HA.out]; rfl) | (rw [HE.out]; rfl), T1.out⟩
                · have g6 := decide_eq_false g6
                  have HE := Lib.hid (show (decide (97 ≤ nmi) && decide (nmi ≤ 122) && decide (1 ≤ tk) && decide (tk ≤ (k : Int)) && decide (-1 ≤ ti) && decide (ti < (k : Int))) = false from by rw [g6]; simp)
                  go_wp2
                  go_ret
                  exact ⟨by first | rfl | (rw [HA.out, HE.out]; rfl) | (rw [HA.out]; rfl) | (rw [HE.out]; rfl), T1.out⟩
              · have g5 := decide_eq_false g5
                have HE := Lib.hid (show (decide (97 ≤ nmi) && decide (nmi ≤ 122) && decide (1 ≤ tk) && decide (tk ≤ (k : Int)) && decide (-1 ≤ ti) && decide (ti < (k : Int))) = false from by rw [g5]; simp)
                go_wp2
                go_ret
                exact ⟨by first | rfl | (rw [HA.out, HE.out]; rfl) | (rw [HA.out]; rfl) | (rw [HE.out]; rfl), T1.out⟩
            · have g4 := decide_eq_false g4
              have HE := Lib.hid (show (decide (97 ≤ nmi) && decide (nmi ≤ 122) && decide (1 ≤ tk) && decide (tk ≤ (k : Int)) && decide (-1 ≤ ti) && decide (ti < (k : Int))) = false from by rw [g4]; simp)
              go_wp2
              go_ret
              exact ⟨by first | rfl | (rw [HA.out, HE.out]; rfl) | (rw [HA.out]; rfl) | (rw [HE.out]; rfl), T1.out⟩
          · have g3 := decide_eq_false g3
            have HE := Lib.hid (show (decide (97 ≤ nmi) && decide (nmi ≤ 122) && decide (1 ≤ tk) && decide (tk ≤ (k : Int)) && decide (-1 ≤ ti) && decide (ti < (k : Int))) = false from by rw [g3]; simp)
            go_wp2
            go_ret
            exact ⟨by first | rfl | (rw [HA.out, HE.out]; rfl) | (rw [HA.out]; rfl) | (rw [HE.out]; rfl), T1.out⟩
        · have g2 := decide_eq_false g2
          have HE := Lib.hid (show (decide (97 ≤ nmi) && decide (nmi ≤ 122) && decide (1 ≤ tk) && decide (tk ≤ (k : Int)) && decide (-1 ≤ ti) && decide (ti < (k : Int))) = false from by rw [g2]; simp)
          go_wp2
          go_ret
          exact ⟨by first | rfl | (rw [HA.out, HE.out]; rfl) | (rw [HA.out]; rfl) | (rw [HE.out]; rfl), T1.out⟩
      · have g1 := decide_eq_false g1
        have HE := Lib.hid (show (decide (97 ≤ nmi) && decide (nmi ≤ 122) && decide (1 ≤ tk) && decide (tk ≤ (k : Int)) && decide (-1 ≤ ti) && decide (ti < (k : Int))) = false from by rw [g1]; simp)
        go_wp2
        go_ret
        exact ⟨by first | rfl | (rw [HA.out, HE.out]; rfl) | (rw [HA.out]; rfl) | (rw [HE.out]; rfl), T1.out⟩
end Go.Proofs.Ytenohgogfddniaa
