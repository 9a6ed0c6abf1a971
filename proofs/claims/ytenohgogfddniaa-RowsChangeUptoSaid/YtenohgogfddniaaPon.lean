/-
  Layer 6: 'pairsOrNone'.
-/
import Derived.Test.YtenohgogfddniaaPof
namespace Go.Proofs.Ytenohgogfddniaa
open Go.RowKit
set_option linter.unusedVariables false

/-- .. of a row, or of none. -/
def pairsN (t : Tb) (r : List Vl) : Option (List UInt8 × List UInt8 × List UInt8) := if r.length = 0 then some ([], [], []) else pairsF t r
set_option maxRecDepth 100000 in
set_option maxHeartbeats 4000000 in
theorem pairsOrNone_any (t : Tb) (a : Option Addr) (c b o : Nat) (r : List Vl) (ra : Option Addr) (rc rb ro : Nat) (w : World) (hk : IsKs w a t.cols.length b o t.cols) (hr : IsVs w ra r.length rb ro r) (hc : t.cols.length ≤ c) (hrc : r.length ≤ rc) (hl : t.cols.length ≤ 1000000000) (hn : t.name < 256) (hok : ∀ x ∈ r, x.Ok) :
    Calls Try.prog 26 #[t.agg a c, .slice ra r.length rc] w fun e w' => e = pofE (pairsN t r) ∧ Tch [] w w' := by
  obtain ⟨W0, hW0⟩ : ∃ W0, W0 = (w.alloc (.cells #[.int .u8 t.name, .slice a t.cols.length c, .int .i64 t.keys, .int .i64 t.idx] 24)).alloc (.cells #[.string ⟨#[]⟩, .string ⟨#[]⟩, .string ⟨#[]⟩, .string ⟨#[]⟩] 61) := ⟨_, rfl⟩
  have T0 : Tch [] w W0 := by rw [hW0]; exact ((Tch.refl [] w).alloc _).alloc _
  have hb1 : W0.heap[w.heap.size]? = some (.cells #[.int .u8 t.name, .slice a t.cols.length c, .int .i64 t.keys, .int .i64 t.idx] 24 (0, 0)) := by rw [hW0]; exact blk_alloc (blk_new w _) _
  have hb2 : W0.heap[w.heap.size + 1]? = some (.cells #[.string ⟨#[]⟩, .string ⟨#[]⟩, .string ⟨#[]⟩, .string ⟨#[]⟩] 61 (0, 0)) := by
    have h := blk_new (w.alloc (.cells #[.int .u8 t.name, .slice a t.cols.length c, .int .i64 t.keys, .int .i64 t.idx] 24)) (.cells #[.string ⟨#[]⟩, .string ⟨#[]⟩, .string ⟨#[]⟩, .string ⟨#[]⟩] 61)
    rw [show (w.alloc (.cells #[.int .u8 t.name, .slice a t.cols.length c, .int .i64 t.keys, .int .i64 t.idx] 24)).heap.size = w.heap.size + 1 from Array.size_push _] at h
    rw [hW0]; exact h
  have x0 : W0.cell? ⟨w.heap.size, 0, none⟩ = some (.int .u8 t.name) := by rw [blk_cell hb1]; rfl
  have x1 : W0.cell? ⟨w.heap.size, 1, none⟩ = some (.slice a t.cols.length c) := by rw [blk_cell hb1]; rfl
  have x2 : W0.cell? ⟨w.heap.size, 2, none⟩ = some (.int .i64 t.keys) := by rw [blk_cell hb1]; rfl
  have x3 : W0.cell? ⟨w.heap.size, 3, none⟩ = some (.int .i64 t.idx) := by rw [blk_cell hb1]; rfl
  have HC := Lib.hid (pairsOf_any t a c b o r ra rc rb ro W0 (hk.keep0 T0) (hr.keep0 T0) hc hrc hl hn hok)
  have hg : w.heap.size + 1 < W0.heap.size := lt_of_block hb2
  have HB := Lib.hid hb2
  have HT := Lib.hid T0
  have HPN : Hid (pairsN t r = if r.length = 0 then some ([], [], []) else pairsF t r) := rfl
  clear hb1 hk hr hok
  unfold Tb.agg at *
  by_cases hz : r.length = 0
  · have hzb : ((r.length : Int) == 0) = true := by rw [hz]; rfl
    have hpn : Hid (pairsN t r = some ([], [], [])) := by show _ = _; rw [HPN.out, if_pos hz]
    have p0 : W0.cell? ⟨w.heap.size + 1, 0, none⟩ = some (.string ⟨#[]⟩) := by rw [blk_cell hb2]; rfl
    have p1 : W0.cell? ⟨w.heap.size + 1, 1, none⟩ = some (.string ⟨#[]⟩) := by rw [blk_cell hb2]; rfl
    have p2 : W0.cell? ⟨w.heap.size + 1, 2, none⟩ = some (.string ⟨#[]⟩) := by rw [blk_cell hb2]; rfl
    have p3 : W0.cell? ⟨w.heap.size + 1, 3, none⟩ = some (.string ⟨#[]⟩) := by rw [blk_cell hb2]; rfl
    have f0 := blk_free hb2 0
    have f1 := blk_free hb2 1
    have f2 := blk_free hb2 2
    have f3 := blk_free hb2 3
    have hzn : (r.length == 0) = true := by rw [hz]; rfl
    clear hz hb2 T0 HC HPN
    go_enter Try.func26, Try.ntmps26
    go_upto_region 1 with fail
    rw [← hW0]
    clear hW0
    go_wp2_with fail
    obtain ⟨q0, q1, q2, q3, _⟩ := prs_put HB.out (.string ⟨#[]⟩) (.string ⟨#[]⟩) (.string ⟨#[]⟩) (.string ⟨#[]⟩)
    exact bodyPost_ret (v := .tuple #[vPrs [] [] [], .bool true]) (by simp [results, Try.results26, vPrs, go_sem, q0, q1, q2, q3]) rfl ⟨by rw [hpn.out]; rfl, (((HT.out.setNew (by simp) _).setNew (by simp) _).setNew (by simp) _).setNew (by simp) _⟩
  · have hzb : ((r.length : Int) == 0) = false := beq_eq_false_iff_ne.2 (by omega)
    have hzn : (r.length == 0) = false := beq_eq_false_iff_ne.2 hz
    have hpn : Hid (pairsN t r = pairsF t r) := by show _ = _; rw [HPN.out, if_neg hz]
    clear hz hb2 T0 HPN
    go_enter Try.func26, Try.ntmps26
    go_upto_region 1 with fail
    rw [← hW0]
    clear hW0
    go_wp2_with fail
    refine HC.out.mono ?_
    rintro e w1 ⟨rfl, t1⟩
    clear x0 x1 x2 x3 HC
    have hb3 := t1.keep HB.out (by simp)
    have p0 : w1.cell? ⟨w.heap.size + 1, 0, none⟩ = some (.string ⟨#[]⟩) := by rw [blk_cell hb3]; rfl
    have p1 : w1.cell? ⟨w.heap.size + 1, 1, none⟩ = some (.string ⟨#[]⟩) := by rw [blk_cell hb3]; rfl
    have p2 : w1.cell? ⟨w.heap.size + 1, 2, none⟩ = some (.string ⟨#[]⟩) := by rw [blk_cell hb3]; rfl
    have p3 : w1.cell? ⟨w.heap.size + 1, 3, none⟩ = some (.string ⟨#[]⟩) := by rw [blk_cell hb3]; rfl
    have f0 := blk_free hb3 0
    have f1 := blk_free hb3 1
    have f2 := blk_free hb3 2
    have f3 := blk_free hb3 3
    have HB3 := Lib.hid hb3
    have HT1 := Lib.hid (HT.out.trans t1)
    clear hb3 t1
    rcases hp : pairsF t r with _ | ⟨k, v, x⟩
    · simp only [pofE, vPrs]
      have HP := Lib.hid hp
      clear hp
      go_wp2_with fail
      obtain ⟨q0, q1, q2, q3, _⟩ := prs_put HB3.out (.string ⟨#[]⟩) (.string ⟨#[]⟩) (.string ⟨#[]⟩) (.string ⟨#[]⟩)
      exact bodyPost_ret (v := .tuple #[vPrs [] [] [], .bool false]) (by simp [results, Try.results26, vPrs, go_sem, q0, q1, q2, q3]) rfl ⟨by rw [hpn.out, HP.out]; rfl, (((HT1.out.setNew (by simp) _).setNew (by simp) _).setNew (by simp) _).setNew (by simp) _⟩
    · simp only [pofE, vPrs]
      have HP := Lib.hid hp
      clear hp
      go_wp2_with fail
      obtain ⟨q0, q1, q2, q3, _⟩ := prs_put HB3.out (.string ⟨k.toArray⟩) (.string ⟨v.toArray⟩) (.string ⟨x.toArray⟩) (.string ⟨#[]⟩)
      exact bodyPost_ret (v := .tuple #[vPrs k v x, .bool true]) (by simp [results, Try.results26, vPrs, go_sem, q0, q1, q2, q3]) rfl ⟨by rw [hpn.out, HP.out]; rfl, (((HT1.out.setNew (by simp) _).setNew (by simp) _).setNew (by simp) _).setNew (by simp) _⟩
end Go.Proofs.Ytenohgogfddniaa
