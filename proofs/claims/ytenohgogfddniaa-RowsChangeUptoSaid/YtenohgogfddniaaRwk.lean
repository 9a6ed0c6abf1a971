/-
  'plain' and 'wakes' of the laws of layer 6.
-/
import Derived.Test.YtenohgogfddniaaEncr
import Derived.Test.YtenohgogfddniaaDcd
namespace Go.Proofs.Ytenohgogfddniaa
open Go.RowKit
set_option linter.unusedVariables false

def tP : Tb := ⟨97, [0, 1], 1, 1⟩
def wR : List Vl := [⟨5, ⟨#[]⟩⟩, ⟨0, ⟨#[120]⟩⟩]
theorem isr_lit {α : Type} {f : α → List Value} {sz : Nat} {W : World} {b : Nat} {T : TypeId} {z : Nat × Nat} (xs : List α) (hf : ∀ x, (f x).length = sz) (h : W.heap[b]? = some (.cells (xs.flatMap f).toArray T z)) : IsR f sz W (some ⟨b, 0, none⟩) xs.length b 0 xs := by
  refine ⟨rfl, Or.inr ⟨rfl, lt_of_block h⟩, fun k x hk j v hv => ?_⟩
  rw [Nat.zero_add, blk_cell h, List.getElem?_toArray]
  exact fm_at hf xs k x hk j v hv
theorem wk_keys : keysOf tP wR = [128, 0, 0, 0, 0, 0, 0, 5] := by
  show ord 5 ++ [] = _
  rw [List.append_nil]; rfl
theorem wk_fields : fieldsOf tP wR = [1, 120] := by
  show (ub 1 ++ [120]) ++ [] = _
  rw [ub_small (by omega)]; rfl
theorem wk_hasV : hasV tP wR = true := by
  have e0 : (⟨#[]⟩ : ByteArray).toList = [] := by rw [ByteArray.toList_eq]
  have e1 : (⟨#[120]⟩ : ByteArray).toList = [120] := by rw [ByteArray.toList_eq]
  simp only [hasV, okUp, okAt, tP, wR, List.length_cons, List.length_nil, List.getElem?_cons_zero, List.getElem?_cons_succ, okV, inK, hasZ, e0, e1]
  decide
theorem wk_pairs : pairsF tP wR = some ([97, 0, 128, 0, 0, 0, 0, 0, 0, 5], [1, 120], indexOf tP wR) := by
  unfold pairsF
  rw [wk_hasV, wk_keys, wk_fields]
  have : (indexOf tP wR).length = 12 := by
    unfold indexOf
    rw [wk_keys]; rfl
  rw [this]; rfl
theorem wk_read : rrowF tP [97, 0, 128, 0, 0, 0, 0, 0, 0, 5] [1, 120] = some wR := by
  have h1 : rdAcc rdKey [97, 0, 128, 0, 0, 0, 0, 0, 0, 5] [0] 2 [] = some [⟨5, ⟨#[]⟩⟩] := by kernel_rfl
  have h2 : rdAcc rdField [1, 120] [1] 0 [] = some [⟨0, ⟨#[120]⟩⟩] := by kernel_rfl
  have h3 : (tfit tP && Lib.hasPrefix [97, 0, 128, 0, 0, 0, 0, 0, 0, 5] (tbegin tP 0)) = true := by decide
  unfold rrowF
  rw [if_pos h3, show tP.cols.take tP.keys.toNat = [0] from rfl, show tP.cols.drop tP.keys.toNat = [1] from rfl, h1, h2]
  rfl
theorem wk_dec : decF tP [97, 0, 128, 0, 0, 0, 0, 0, 0, 5] [1, 120] = some wR := by
  unfold decF
  rw [wk_read]
  simp only [wk_pairs, and_self, if_true]
theorem wk_ok : ∀ x ∈ wR, x.Ok := by
  intro x hx
  simp only [wR, List.mem_cons, List.not_mem_nil, or_false] at hx
  rcases hx with rfl | rfl
  · exact ⟨by decide, by decide, by decide⟩
  · exact ⟨by decide, by decide, by decide⟩

set_option maxRecDepth 100000 in
set_option maxHeartbeats 1000000 in
theorem plain6_any (w : World) : Calls Try.prog 24 #[] w fun e w' => (∃ g, e = .returned (.agg #[.int .u8 97, .slice (some ⟨g, 0, none⟩) 2 2, .int .i64 1, .int .i64 1]) ∧ IsKs w' (some ⟨g, 0, none⟩) 2 g 0 [0, 1]) ∧ Tch [] w w' := by
  go_enter Try.func24, Try.ntmps24
  go_wp2_with fail
  obtain ⟨W1, hW1⟩ : ∃ W1, W1 = (w.alloc (.cells #[.int .u8 97, .slice (some ⟨w.heap.size + 1, 0, none⟩) 2 2, .int .i64 1, .int .i64 1] 24)).alloc (.cells #[.int .i64 0, .int .i64 1] 56) := ⟨_, rfl⟩
  have h1 : W1.heap[w.heap.size]? = some (.cells #[.int .u8 97, .slice (some ⟨w.heap.size + 1, 0, none⟩) 2 2, .int .i64 1, .int .i64 1] 24 (0, 0)) := by rw [hW1]; exact blk_alloc (blk_new w _) _
  have h2 : W1.heap[w.heap.size + 1]? = some (.cells #[.int .i64 0, .int .i64 1] 56 (0, 0)) := by
    have h := blk_new (w.alloc (.cells #[.int .u8 97, .slice (some ⟨w.heap.size + 1, 0, none⟩) 2 2, .int .i64 1, .int .i64 1] 24)) (.cells #[.int .i64 0, .int .i64 1] 56)
    rw [show (w.alloc (.cells #[.int .u8 97, .slice (some ⟨w.heap.size + 1, 0, none⟩) 2 2, .int .i64 1, .int .i64 1] 24)).heap.size = w.heap.size + 1 from Array.size_push _] at h
    rw [hW1]; exact h
  have T1 : Tch [] w W1 := by rw [hW1]; exact ((Tch.refl [] w).alloc _).alloc _
  rw [← hW1]
  have q0 : W1.cell? ⟨w.heap.size, 0, none⟩ = some (.int .u8 97) := by rw [blk_cell h1]; rfl
  have q1 : W1.cell? ⟨w.heap.size, 1, none⟩ = some (.slice (some ⟨w.heap.size + 1, 0, none⟩) 2 2) := by rw [blk_cell h1]; rfl
  have q2 : W1.cell? ⟨w.heap.size, 2, none⟩ = some (.int .i64 1) := by rw [blk_cell h1]; rfl
  have q3 : W1.cell? ⟨w.heap.size, 3, none⟩ = some (.int .i64 1) := by rw [blk_cell h1]; rfl
  exact bodyPost_ret (v := .agg #[.int .u8 97, .slice (some ⟨w.heap.size + 1, 0, none⟩) 2 2, .int .i64 1, .int .i64 1]) (by simp [results, Try.results24, go_sem, q0, q1, q2, q3]) rfl ⟨⟨_, rfl, isr_lit (f := fInt) [0, 1] (fun _ => rfl) h2⟩, T1⟩

set_option maxRecDepth 100000 in
set_option maxHeartbeats 4000000 in
theorem wakes6_any (w : World) (hm : MaxL w) : Calls Try.prog 11 #[] w fun e w' => e = .returned (.bool true) ∧ Tch [] w w' := by
  have HP := Lib.hid (fun (W : World) => plain6_any W)
  have HE : Hid (∀ W g, IsKs W (some ⟨g, 0, none⟩) 2 g 0 [0, 1] → Calls Try.prog 7 #[.agg #[.int .u8 97, .slice (some ⟨g, 0, none⟩) 2 2, .int .i64 1, .int .i64 1], .slice (some ⟨W.heap.size, 0, none⟩) 2 2] (W.alloc (.cells #[.int .i64 5, .string ⟨#[]⟩, .int .i64 0, .string ⟨#[120]⟩] 58)) fun e w' => e = .returned (.tuple #[.agg #[.string ⟨#[97, 0, 128, 0, 0, 0, 0, 0, 0, 5]⟩, .string ⟨#[1, 120]⟩], .int .i64 0]) ∧ Tch [] W w') := fun W g hk => by
    have t3 : Tch [] W (W.alloc (.cells #[.int .i64 5, .string ⟨#[]⟩, .int .i64 0, .string ⟨#[120]⟩] 58)) := (Tch.refl [] W).alloc _
    have h := encodeR_any tP (some ⟨g, 0, none⟩) 2 g 0 wR (some ⟨W.heap.size, 0, none⟩) 2 W.heap.size 0 _ (hk.keep0 t3) (isr_lit (f := fVl) wR (fun _ => rfl) (blk_new W _)) (by decide) (by decide) (by decide) (by decide) wk_ok
    rw [wk_pairs] at h
    exact h.mono fun e w' ⟨h1, h2⟩ => ⟨h1, t3.trans h2⟩
  have HD : Hid (∀ W g, Tch [] w W → IsKs W (some ⟨g, 0, none⟩) 2 g 0 [0, 1] → Calls Try.prog 12 #[.agg #[.int .u8 97, .slice (some ⟨g, 0, none⟩) 2 2, .int .i64 1, .int .i64 1], .agg #[.string ⟨#[97, 0, 128, 0, 0, 0, 0, 0, 0, 5]⟩, .string ⟨#[1, 120]⟩]] W fun e w' => (∃ b c, e = .returned (.tuple #[.slice (some ⟨b, 0, none⟩) 2 c, .int .i64 0]) ∧ w'.cell? ⟨b, 0, none⟩ = some (.int .i64 5)) ∧ Tch [] W w') := fun W g t hk => by
    have h := decodeR_any tP (some ⟨g, 0, none⟩) 2 g 0 ⟨#[97, 0, 128, 0, 0, 0, 0, 0, 0, 5]⟩ ⟨#[1, 120]⟩ W hk (by decide) (by decide) (by decide) (by decide) (by decide) (hm.keep t)
    rw [wk_dec] at h
    refine h.mono fun e w' h2 => ?_
    obtain ⟨x, c, rfl, ho, t2⟩ := h2
    obtain ⟨b, hr, _, _⟩ := IsR.own (f := fVl) (sz := 2) (fun _ => rfl) ho rfl
    have hx := hr.some_ (by decide)
    subst hx
    exact ⟨⟨b, c, rfl, by have := hr.c0 (k := 0) (x := ⟨5, ⟨#[]⟩⟩) rfl (v := .int .i64 5) rfl; simpa using this⟩, t2⟩
  clear hm
  go_enter Try.func11, Try.ntmps11
  go_wp2_with fail
  refine (HP.out _).mono ?_
  rintro e w1 ⟨⟨g, rfl, hk⟩, t1⟩
  have HC := Lib.hid (HE.out w1 g hk)
  clear hk HE
  go_wp2_with fail
  refine HC.out.mono ?_
  rintro e w2 ⟨rfl, t2⟩
  have T2 := Lib.hid (t1.trans t2)
  clear t1 t2 HC
  go_upto_region 2 with fail
  obtain ⟨W3, hW3⟩ : ∃ W3, W3 = w2.alloc (.cells #[.string ⟨#[97, 0, 128, 0, 0, 0, 0, 0, 0, 5]⟩, .string ⟨#[1, 120]⟩] 28) := ⟨_, rfl⟩
  have HB : Hid (W3.heap[w2.heap.size]? = some (.cells #[.string ⟨#[97, 0, 128, 0, 0, 0, 0, 0, 0, 5]⟩, .string ⟨#[1, 120]⟩] 28 (0, 0))) := by
    have : W3.heap[w2.heap.size]? = some (.cells #[.string ⟨#[97, 0, 128, 0, 0, 0, 0, 0, 0, 5]⟩, .string ⟨#[1, 120]⟩] 28 (0, 0)) := by rw [hW3]; exact blk_new _ _
    exact this
  have T3 : Hid (Tch [] w W3) := by
    have : Tch [] w W3 := by rw [hW3]; exact T2.out.alloc _
    exact this
  have HX : Hid (∀ W, Tch [] W3 W → W.cell? ⟨w2.heap.size, 0, none⟩ = some (.string ⟨#[97, 0, 128, 0, 0, 0, 0, 0, 0, 5]⟩) ∧ W.cell? ⟨w2.heap.size, 1, none⟩ = some (.string ⟨#[1, 120]⟩)) := fun W t => by
    have h := t.keep HB.out (by simp)
    exact ⟨by rw [blk_cell h]; rfl, by rw [blk_cell h]; rfl⟩
  rw [← hW3]
  clear hW3
  have td : Tch [] W3 W3.drew := (Tch.refl _ _).drew
  go_region_held3 (fun W => W.cell? ⟨w2.heap.size, 0, none⟩ = some (.string ⟨#[97, 0, 128, 0, 0, 0, 0, 0, 0, 5]⟩) ∧ W.cell? ⟨w2.heap.size, 1, none⟩ = some (.string ⟨#[1, 120]⟩))
    (first | exact HX.out _ td | exact HX.out _ (td.trans t5) | exact HX.out _ ((td.trans t5).trans t6))
    (first
      | (go_at_call 24; (with_reducible refine (HP.out _).mono ?_); rintro e w5 ⟨⟨g5, rfl, hk5⟩, t5⟩)
      | (go_at_call 12; (with_reducible refine (HD.out _ _ (T3.out.trans (td.trans t5)) hk5).mono ?_); rintro e w6 ⟨⟨b6, c6, rfl, p6⟩, t6⟩))
  obtain ⟨y0, y1⟩ := HX.out w6 ((td.trans t5).trans t6)
  have T6 := Lib.hid (T3.out.trans ((td.trans t5).trans t6))
  clear HP HD HX HB td t5 t6 hk5
  go_wp2_with fail
  first | exact ⟨rfl, T6.out⟩ | (go_ret; exact ⟨rfl, T6.out⟩)
end Go.Proofs.Ytenohgogfddniaa
