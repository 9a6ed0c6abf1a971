/-
  'Uint' of the document's package: the one form of a number. No condition; only new memory is written.
-/
import Derived.Test.YtenohgogfddniaaUint
namespace Go.Proofs.Ytenohgogfddniaa
open Go.RowKit
set_option linter.unusedVariables false

set_option maxRecDepth 100000 in
set_option maxHeartbeats 1000000 in
theorem ruint_any (V : Nat) (w : World) (hV : V < 18446744073709551616) :
    Calls Try.prog 36 #[.int .u64 V] w fun e w' => e = .returned (.string ⟨(ub V).toArray⟩) ∧ Tch [] w w' := by
  obtain ⟨i0, hi, hz0, hz1, hz2⟩ := info_parts Try.info_u8x
  have own0 : (w.alloc (.cells #[] 5)).ownsRow w.heap.size 5 1 (.slice (some ⟨w.heap.size, 0, none⟩) 0 0) 0 [] := ⟨rfl, Or.inr ⟨_, 0, #[], rfl, Nat.le_refl _, blk_new w _, by omega, by decide, rfl, rfl⟩⟩
  have OWN := Lib.hid own0
  clear own0
  go_enter Try.func36, Try.ntmps36
  go_wp2_with fail
  go_loopw [0, 3] (fun v0 v3 wr => UiRel w V v0 v3 wr) (fun v0 _ _ => (intOf v0).toNat)
  case atStart => exact ⟨V, [], rfl, hV, OWN.out, by simp, (Tch.refl [] w).alloc _⟩
  case round =>
    obtain ⟨u, l, rfl, hu, hown, hl, T⟩ := hrel
    have hlen : l.length ≤ 10 := by
      have h1 := ub_len 9 V (by simp; omega)
      rw [hl, List.length_append] at h1
      omega
    by_cases h : 128 ≤ u
    · have h2 : (127 : Int) < (u : Int) := by omega
      go_wp2_with (at_builtin; refine wpList_append_own _ rfl _ _ 70 rfl w.heap.size 5 i0 (.int .u8 0) 1 1 Try.underlying70 hi hz0 hz1 hz2 rfl (by decide) _ _ _ rfl (hown.alloc _) ⟨wr.heap.size, 0, none⟩ 1 1 [.int .u8 ((u : Int) % 128 + 128)] rfl rfl ?c1 ?c2 ?c3 ?c4 ?c5 ?_)
      case c1 => exact cells_one _ _ _
      case c2 => first | rfl | (intro x hx; simp only [List.mem_singleton] at hx; subst hx; rfl)
      case c3 => unfold maxLen; omega
      case c4 => omega
      case c5 => have := T.size; simp; omega
      intro v' w2 hown2 hgrow _
      have T2 := (T.alloc (.cells #[.int .u8 ((u : Int) % 128 + 128)] 5)).own (hown.alloc _) (Nat.le_refl _) hgrow
      rw [show ((u : Int) % 128 + 128) = ((u % 128 + 128 : Nat) : Int) from by omega] at hown2
      have HO : Hid (w2.ownsRow w.heap.size 5 1 v' (l ++ [UInt8.ofNat (u % 128 + 128)]).length ((l ++ [UInt8.ofNat (u % 128 + 128)]).map fun b => Value.int .u8 b.toNat)) := by
        rw [List.length_append, List.map_append]
        simp only [List.map_cons, List.map_nil, u8_of (u % 128 + 128) (by omega)]
        exact hown2
      have HL := Lib.hid hl
      clear hl hown hown2 hgrow hlen
      go_wp2
      go_roundw
      case rel => exact ⟨u / 128, l ++ [UInt8.ofNat (u % 128 + 128)], by go_num, by omega, HO.out, by rw [HL.out, ub_big (by omega)]; simp, T2⟩
      case measure => simp [intOf]; omega
    · have h2 : ¬ (127 : Int) < (u : Int) := by omega
      go_wp2_with (at_builtin; refine wpList_append_own _ rfl _ _ 70 rfl w.heap.size 5 i0 (.int .u8 0) 1 1 Try.underlying70 hi hz0 hz1 hz2 rfl (by decide) _ _ _ rfl (hown.alloc _) ⟨wr.heap.size, 0, none⟩ 1 1 [.int .u8 (u : Int)] rfl rfl ?c1 ?c2 ?c3 ?c4 ?c5 ?_)
      case c2 => first | rfl | (intro x hx; simp only [List.mem_singleton] at hx; subst hx; rfl)
      case c3 => unfold maxLen; omega
      case c4 => omega
      case c5 => have := T.size; simp; omega
      intro v' w2 hown2 hgrow _
      have T2 := (T.alloc (.cells #[.int .u8 (u : Int)] 5)).own (hown.alloc _) (Nat.le_refl _) hgrow
      have HO : Hid (w2.ownsRow w.heap.size 5 1 v' (ub V).length ((ub V).map fun b => Value.int .u8 b.toNat)) := by
        rw [hl, ub_small (by omega), List.length_append, List.map_append]
        simp only [List.map_cons, List.map_nil, u8_of u (by omega)]
        exact hown2
      obtain ⟨g, cap, rfl, hcv⟩ := conv_own HO.out (ub_ne V)
      rw [show l.length + 1 = (ub V).length from by rw [hl, ub_small (by omega), List.length_append]; rfl] at *
      clear hl hown hown2 hgrow hlen
      go_wp2
      go_ret
      exact ⟨rfl, T2⟩
end Go.Proofs.Ytenohgogfddniaa
