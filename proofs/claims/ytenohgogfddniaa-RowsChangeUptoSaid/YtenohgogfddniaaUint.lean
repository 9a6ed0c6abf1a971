/-
  'Uint' of package pack: the one form of a number. No condition; only new memory is written.
-/
import Derived.Test.YtenohgogfddniaaNum
import Derived.Test.YtenohgogfddniaaStr
import Derived.Test.YtenohgogfddniaaRowsIn
import Derived.Laws.AppendOwn
import Derived.Laws.Bits
import Derived.OwnWalk
import Derived.Outline
namespace Go.Proofs.Ytenohgogfddniaa
open Go.RowKit
set_option linter.unusedVariables false

theorem Try.info_u8x : (Try.prog.info? 5).map (fun i => (i.zero, i.size, i.bytes)) = some (some (.int .u8 0), 1, 1) := by kernel_rfl
theorem cells_one (w : World) (v : Value) (t : TypeId) (j : Nat) (u : Value) (h : [v][j]? = some u) : (w.alloc (.cells #[v] t)).cell? ((⟨w.heap.size, 0, none⟩ : Addr).add j) = some u := by
  match j, h with
  | 0, h => simp at h; subst h; rw [add_mk, blk_cell (blk_new w _)]; rfl
theorem or128_all : ∀ k : Fin 256, bits .or .u8 ((k.val : Nat) : Int) 128 = ((k.val % 128 + 128 : Nat) : Int) := by decide +kernel
theorem or128 (u : Nat) : bits .or .u8 ((u : Int) % 256) 128 = ((u % 128 + 128 : Nat) : Int) := by
  have h := or128_all ⟨u % 256, by omega⟩
  simp only at h
  rw [show ((u : Int) % 256) = ((u % 256 : Nat) : Int) from by omega, h]
  congr 1
  omega
/-- What an owned row of bytes reads as, as a text. -/
theorem conv_own {w : World} {base n : Nat} {v : Value} {l : List UInt8} (h : w.ownsRow base 5 1 v n (l.map fun b => Value.int .u8 b.toNat)) (hl : l ≠ []) :
    ∃ g cap, v = .slice (some ⟨g, 0, none⟩) n cap ∧ (convert 70 9 (.slice (some ⟨g, 0, none⟩) n cap)).run Try.prog w = .ok (.string ⟨l.toArray⟩) w := by
  have hn : l.length = n := by have := h.1; simpa using this
  rcases h.2 with ⟨_, h0⟩ | ⟨g, cap, cur, rfl, _, hb, _, _, _, htk⟩
  · exfalso; apply hl; exact List.length_eq_zero_iff.1 (by omega)
  · refine ⟨g, cap, rfl, ?_⟩
    rw [run_convert_bytes_string _ _ _ 5 _ _ _ Try.underlying70 Try.underlying5 Try.underlying9]
    have hld := run_loadCells_list (P := Try.prog) (w := w) ⟨g, 0, none⟩ ((l.map fun b => (b.toNat : Int)).map (Value.int .u8)) (by
      intro j v hj
      exact h.cells rfl j v (by simpa using hj))
    rw [List.length_map, List.length_map, hn] at hld
    rw [run_bytesToString _ _ n cap _ hld, foldl_push]
    simp

def UiRel (w : World) (V : Nat) (v0 v3 : Value) (wr : World) : Prop :=
  ∃ (u : Nat) (l : List UInt8), v0 = .int .u64 u ∧ u < 18446744073709551616 ∧ wr.ownsRow w.heap.size 5 1 v3 l.length (l.map fun b => Value.int .u8 b.toNat) ∧ ub V = l ++ ub u ∧ Tch [] w wr

set_option maxRecDepth 100000 in
set_option maxHeartbeats 1000000 in
theorem uint_any (V : Nat) (w : World) (hV : V < 18446744073709551616) :
    Calls Try.prog 56 #[.int .u64 V] w fun e w' => e = .returned (.string ⟨(ub V).toArray⟩) ∧ Tch [] w w' := by
  obtain ⟨i0, hi, hz0, hz1, hz2⟩ := info_parts Try.info_u8x
  go_enter Try.func56, Try.ntmps56
  go_wp2_with (at_make; refine wpList_make_own _ rfl _ _ 70 rfl w.heap.size 5 i0 (.int .u8 0) 1 Try.underlying70 hi hz0 hz1 _ _ _ 10 rfl rfl rfl (by omega) (by decide) (Nat.le_refl _) ?_; intro w1 hown1 hg1)
  go_loopw [0, 3] (fun v0 v3 wr => UiRel w V v0 v3 wr) (fun v0 _ _ => (intOf v0).toNat)
  case atStart => exact ⟨V, [], rfl, hV, hown1, by simp, (Tch.refl [] w).grown hg1 (by simp)⟩
  case round =>
    obtain ⟨u, l, rfl, hu, hown, hl, T⟩ := hrel
    have hlen : l.length ≤ 10 := by
      have h1 := ub_len 9 V (by simp; omega)
      rw [hl, List.length_append] at h1
      omega
    by_cases h : 128 ≤ u
    · go_wp2_with (at_builtin; refine wpList_append_own _ rfl _ _ 70 rfl w.heap.size 5 i0 (.int .u8 0) 1 1 Try.underlying70 hi hz0 hz1 hz2 rfl (by decide) _ _ _ rfl (hown.alloc _) ⟨wr.heap.size, 0, none⟩ 1 1 [.int .u8 (bits .or .u8 ((u : Int) % 256) 128)] rfl rfl ?c1 ?c2 ?c3 ?c4 ?c5 ?_)
      case c1 => exact cells_one _ _ _
      case c2 => intro x hx; simp only [List.mem_singleton] at hx; subst hx; rfl
      case c3 => unfold maxLen; omega
      case c4 => omega
      case c5 => have := T.size; simp; omega
      intro v' w2 hown2 hgrow _
      have T2 := (T.alloc (.cells #[.int .u8 (bits .or .u8 ((u : Int) % 256) 128)] 5)).own (hown.alloc _) (Nat.le_refl _) hgrow
      rw [or128] at hown2
      have HO : Hid (w2.ownsRow w.heap.size 5 1 v' (l ++ [UInt8.ofNat (u % 128 + 128)]).length ((l ++ [UInt8.ofNat (u % 128 + 128)]).map fun b => Value.int .u8 b.toNat)) := by
        rw [List.length_append, List.map_append]
        simp only [List.map_cons, List.map_nil, u8_of (u % 128 + 128) (by omega)]
        exact hown2
      have HL := Lib.hid hl
      clear hl hown hown2 hgrow hlen
      go_wp2
      go_roundw
      case rel => exact ⟨u / 128, l ++ [UInt8.ofNat (u % 128 + 128)], by go_num, by omega, HO.out, by rw [HL.out, ub_big (by omega)]; simp, T2⟩
      case measure => simp [intOf]; omega
    · go_wp2_with (at_builtin; refine wpList_append_own _ rfl _ _ 70 rfl w.heap.size 5 i0 (.int .u8 0) 1 1 Try.underlying70 hi hz0 hz1 hz2 rfl (by decide) _ _ _ rfl (hown.alloc _) ⟨wr.heap.size, 0, none⟩ 1 1 [.int .u8 (u : Int)] rfl rfl ?c1 ?c2 ?c3 ?c4 ?c5 ?_)
      case c1 => exact cells_one _ _ _
      case c2 => intro x hx; simp only [List.mem_singleton] at hx; subst hx; rfl
      case c3 => unfold maxLen; omega
      case c4 => omega
      case c5 => have := T.size; simp; omega
      intro v' w2 hown2 hgrow _
      have T2 := (T.alloc (.cells #[.int .u8 (u : Int)] 5)).own (hown.alloc _) (Nat.le_refl _) hgrow
      have HO : Hid (w2.ownsRow w.heap.size 5 1 v' (ub V).length ((ub V).map fun b => Value.int .u8 b.toNat)) := by
        rw [hl, ub_small (by omega), List.length_append, List.map_append]
        simp only [List.map_cons, List.map_nil, u8_of u (by omega)]
        exact hown2
      obtain ⟨g, cap, rfl, hcv⟩ := conv_own HO.out (ub_ne V)
      rw [show l.length + 1 = (ub V).length from by rw [hl, ub_small (by omega), List.length_append]; rfl] at *
      clear hl hown hown2 hgrow hlen
      go_wp2
      go_ret
      exact ⟨rfl, T2⟩
end Go.Proofs.Ytenohgogfddniaa
