/-
  Layer 6: 'Encode'.
-/
import Derived.Test.YtenohgogfddniaaPof
namespace Go.Proofs.Ytenohgogfddniaa
open Go.RowKit
set_option linter.unusedVariables false

def encrE : Option (List UInt8 × List UInt8 × List UInt8) → Ending
  | none => .returned (.tuple #[.agg #[.string ⟨#[]⟩, .string ⟨#[]⟩], .int .i64 60])
  | some (k, v, _) => .returned (.tuple #[.agg #[.string ⟨k.toArray⟩, .string ⟨v.toArray⟩], .int .i64 0])
theorem pr2_put {W : World} {g : Nat} {y0 y1 : Value} {T : TypeId} (h : W.heap[g]? = some (.cells #[y0, y1] T (0, 0))) (x0 x1 : Value) (ob : Obj) :
    (((W.setCell ⟨g, 0, none⟩ x0).setCell ⟨g, 1, none⟩ x1).alloc ob).cell? ⟨g, 0, none⟩ = some x0 ∧ (((W.setCell ⟨g, 0, none⟩ x0).setCell ⟨g, 1, none⟩ x1).alloc ob).cell? ⟨g, 1, none⟩ = some x1 := by
  have h1 := blk_alloc (blk_set (blk_set h 0 x0) 1 x1) ob
  exact ⟨by rw [blk_cell h1]; rfl, by rw [blk_cell h1]; rfl⟩
set_option maxRecDepth 100000 in
set_option maxHeartbeats 4000000 in
theorem encodeR_any (t : Tb) (a : Option Addr) (c b o : Nat) (r : List Vl) (ra : Option Addr) (rc rb ro : Nat) (w : World) (hk : IsKs w a t.cols.length b o t.cols) (hr : IsVs w ra r.length rb ro r) (hc : t.cols.length ≤ c) (hrc : r.length ≤ rc) (hl : t.cols.length ≤ 1000000000) (hn : t.name < 256) (hok : ∀ x ∈ r, x.Ok) :
    Calls Try.prog 7 #[t.agg a c, .slice ra r.length rc] w fun e w' => e = encrE (pairsF t r) ∧ Tch [] w w' := by
  obtain ⟨W0, hW0⟩ : ∃ W0, W0 = (w.alloc (.cells #[.int .u8 t.name, .slice a t.cols.length c, .int .i64 t.keys, .int .i64 t.idx] 24)).alloc (.cells #[.string ⟨#[]⟩, .string ⟨#[]⟩] 28) := ⟨_, rfl⟩
  have T0 : Tch [] w W0 := by rw [hW0]; exact ((Tch.refl [] w).alloc _).alloc _
  have hb1 : W0.heap[w.heap.size]? = some (.cells #[.int .u8 t.name, .slice a t.cols.length c, .int .i64 t.keys, .int .i64 t.idx] 24 (0, 0)) := by rw [hW0]; exact blk_alloc (blk_new w _) _
  have hb2 : W0.heap[w.heap.size + 1]? = some (.cells #[.string ⟨#[]⟩, .string ⟨#[]⟩] 28 (0, 0)) := by
    have h := blk_new (w.alloc (.cells #[.int .u8 t.name, .slice a t.cols.length c, .int .i64 t.keys, .int .i64 t.idx] 24)) (.cells #[.string ⟨#[]⟩, .string ⟨#[]⟩] 28)
    rw [show (w.alloc (.cells #[.int .u8 t.name, .slice a t.cols.length c, .int .i64 t.keys, .int .i64 t.idx] 24)).heap.size = w.heap.size + 1 from Array.size_push _] at h
    rw [hW0]; exact h
  have x0 : W0.cell? ⟨w.heap.size, 0, none⟩ = some (.int .u8 t.name) := by rw [blk_cell hb1]; rfl
  have x1 : W0.cell? ⟨w.heap.size, 1, none⟩ = some (.slice a t.cols.length c) := by rw [blk_cell hb1]; rfl
  have x2 : W0.cell? ⟨w.heap.size, 2, none⟩ = some (.int .i64 t.keys) := by rw [blk_cell hb1]; rfl
  have x3 : W0.cell? ⟨w.heap.size, 3, none⟩ = some (.int .i64 t.idx) := by rw [blk_cell hb1]; rfl
  have HC := Lib.hid (pairsOf_any t a c b o r ra rc rb ro W0 (hk.keep0 T0) (hr.keep0 T0) hc hrc hl hn hok)
  have hg : w.heap.size + 1 < W0.heap.size := lt_of_block hb2
  have HB := Lib.hid hb2
  have HT := Lib.hid T0
  clear hb1 hb2 T0 hk hr hok
  unfold Tb.agg at *
  go_enter Try.func7, Try.ntmps7
  go_upto_region 1 with fail
  rw [← hW0]
  clear hW0
  go_wp2_with fail
  refine HC.out.mono ?_
  rintro e w1 ⟨rfl, t1⟩
  clear x0 x1 x2 x3 HC
  have hb3 := t1.keep HB.out (by simp)
  have p0 : w1.cell? ⟨w.heap.size + 1, 0, none⟩ = some (.string ⟨#[]⟩) := by rw [blk_cell hb3]; rfl
  have p1 : w1.cell? ⟨w.heap.size + 1, 1, none⟩ = some (.string ⟨#[]⟩) := by rw [blk_cell hb3]; rfl
  have f0 := blk_free hb3 0
  have f1 := blk_free hb3 1
  have hg1 : w.heap.size + 1 < w1.heap.size := Nat.lt_of_lt_of_le hg t1.size
  have HB3 := Lib.hid hb3
  have T1 := HT.out.trans t1
  have HT1 := Lib.hid T1
  clear hb3 t1 T1
  rcases hp : pairsF t r with _ | ⟨k, v, x⟩
  · simp only [pofE, vPrs]
    have HP := Lib.hid hp
    clear hp
    go_wp2_with fail
    obtain ⟨q0, q1⟩ := pr2_put HB3.out (.string ⟨#[]⟩) (.string ⟨#[]⟩) (.cells #[.string ⟨#[]⟩, .string ⟨#[]⟩, .string ⟨#[]⟩, .string ⟨#[]⟩] 61)
    exact bodyPost_ret (v := .tuple #[.agg #[.string ⟨#[]⟩, .string ⟨#[]⟩], .int .i64 60]) (by simp [results, Try.results7, go_sem, q0, q1]) rfl ⟨by rw [HP.out]; rfl, ((HT1.out.setNew (by simp) _).setNew (by simp) _).alloc _⟩
  · simp only [pofE, vPrs]
    have HP := Lib.hid hp
    clear hp
    go_wp2_with fail
    obtain ⟨q0, q1⟩ := pr2_put HB3.out (.string ⟨k.toArray⟩) (.string ⟨v.toArray⟩) (.cells #[.string ⟨k.toArray⟩, .string ⟨v.toArray⟩, .string ⟨x.toArray⟩, .string ⟨#[]⟩] 61)
    exact bodyPost_ret (v := .tuple #[.agg #[.string ⟨k.toArray⟩, .string ⟨v.toArray⟩], .int .i64 0]) (by simp [results, Try.results7, go_sem, q0, q1]) rfl ⟨by rw [HP.out]; rfl, ((HT1.out.setNew (by simp) _).setNew (by simp) _).alloc _⟩
end Go.Proofs.Ytenohgogfddniaa
