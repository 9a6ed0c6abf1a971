/-
  Layer 6: 'indexBegin'.
-/
import Derived.Test.YtenohgogfddniaaJoi
import Derived.BigQuiet
import Derived.Deep.CutRange
namespace Go.Proofs.Ytenohgogfddniaa
open Go.RowKit
set_option linter.unusedVariables false

theorem cat_l (a b : List UInt8) : (⟨a.toArray⟩ : ByteArray) ++ ⟨b.toArray⟩ = ⟨(a ++ b).toArray⟩ := by
  apply ba_ext; rw [Joins.data_append]
def ibegin (t : Tb) (k : Int) (x : Vl) : List UInt8 := tbegin t 1 ++ kform k x
set_option maxRecDepth 100000 in
set_option maxHeartbeats 1000000 in
theorem indexBegin_any (t : Tb) (a : Option Addr) (c b o i : Nat) (k : Int) (x : Vl) (w : World) (hk : IsKs w a t.cols.length b o t.cols) (hi : t.cols[i]? = some k) (hidx : t.idx = (i : Int)) (hl : t.cols.length ≤ 1000000000) (hn : t.name < 256) (hx : x.Ok) :
    Calls Try.prog 34 #[t.agg a c, x.agg] w fun e w' => e = .returned (.string ⟨(ibegin t k x).toArray⟩) ∧ Tch [] w w' := by
  have hin := (List.getElem?_eq_some_iff.1 hi).1
  obtain rfl : a = some ⟨b, o, none⟩ := hk.some_ (by omega)
  obtain ⟨W2, hW2⟩ : ∃ W2, W2 = (w.alloc (.cells #[.int .u8 t.name, .slice (some ⟨b, o, none⟩) t.cols.length c, .int .i64 t.keys, .int .i64 t.idx] 24)).alloc (.cells #[.int .i64 x.n, .string x.s] 58) := ⟨_, rfl⟩
  have T2 : Tch [] w W2 := by rw [hW2]; exact ((Tch.refl [] w).alloc _).alloc _
  have hb1 : W2.heap[w.heap.size]? = some (.cells #[.int .u8 t.name, .slice (some ⟨b, o, none⟩) t.cols.length c, .int .i64 t.keys, .int .i64 t.idx] 24 (0, 0)) := by rw [hW2]; exact blk_alloc (blk_new w _) _
  have hb2 : W2.heap[w.heap.size + 1]? = some (.cells #[.int .i64 x.n, .string x.s] 58 (0, 0)) := by
    have h := blk_new (w.alloc (.cells #[.int .u8 t.name, .slice (some ⟨b, o, none⟩) t.cols.length c, .int .i64 t.keys, .int .i64 t.idx] 24)) (.cells #[.int .i64 x.n, .string x.s] 58)
    rw [show (w.alloc (.cells #[.int .u8 t.name, .slice (some ⟨b, o, none⟩) t.cols.length c, .int .i64 t.keys, .int .i64 t.idx] 24)).heap.size = w.heap.size + 1 from Array.size_push _] at h
    rw [hW2]; exact h
  have HX : Hid (∀ W, Tch [] W2 W → W.cell? ⟨w.heap.size, 0, none⟩ = some (.int .u8 t.name) ∧ W.cell? ⟨w.heap.size, 1, none⟩ = some (.slice (some ⟨b, o, none⟩) t.cols.length c) ∧ W.cell? ⟨w.heap.size, 2, none⟩ = some (.int .i64 t.keys) ∧ W.cell? ⟨w.heap.size, 3, none⟩ = some (.int .i64 t.idx) ∧ W.cell? ⟨w.heap.size + 1, 0, none⟩ = some (.int .i64 x.n) ∧ W.cell? ⟨w.heap.size + 1, 1, none⟩ = some (.string x.s) ∧ W.cell? ⟨b, o + i, none⟩ = some (.int .i64 k)) := fun W t3 => by
    have h1 := t3.keep hb1 (by simp)
    have h2 := t3.keep hb2 (by simp)
    exact ⟨by rw [blk_cell h1]; rfl, by rw [blk_cell h1]; rfl, by rw [blk_cell h1]; rfl, by rw [blk_cell h1]; rfl, by rw [blk_cell h2]; rfl, by rw [blk_cell h2]; rfl, ((hk.keep0 T2).keep0 t3).one hi rfl⟩
  have HBE : Hid (∀ W, Tch [] W2 W → Calls Try.prog 33 #[t.agg (some ⟨b, o, none⟩) c, .string ⟨#[1]⟩] W fun e w' => e = .returned (.string ⟨(tbegin t 1).toArray⟩) ∧ Tch [] W w') := fun W _ => begin_any t 1 _ c W hn
  have HKF : Hid (∀ W, Tch [] W2 W → Calls Try.prog 31 #[.int .i64 k, x.agg] W fun e w' => e = .returned (.string ⟨(kform k x).toArray⟩) ∧ Tch [] W w') := fun W _ => keyForm_any k x W hx
  have HAD : ∀ W : World, (Op.stringOp .add ⟨(tbegin t 1).toArray⟩ ⟨(kform k x).toArray⟩).run Try.prog W = .ok (.string ⟨(ibegin t k x).toArray⟩) W := fun W => by
    have h1 : (kform k x).length ≤ 1000000100 := kform_len k x hx
    have h2 : (⟨(tbegin t 1).toArray⟩ : ByteArray).size = 2 := rfl
    have h3 : (⟨(kform k x).toArray⟩ : ByteArray).size = (kform k x).length := List.size_toArray
    refine (run_string_add_sum W _ _ (by omega)).trans ?_
    rw [cat_l]
    rfl
  have HT := Lib.hid T2
  clear hb1 hb2 T2 hk hi
  rw [hidx] at hW2 HX
  unfold Tb.agg Vl.agg at *
  rw [hidx] at *
  go_enter Try.func34, Try.ntmps34
  go_upto_region 1 with fail
  rw [← hW2]
  clear hW2
  refine wp_region_quiet (C := fun W => Tch [] W2 W) (by kernel_rfl) (by kernel_rfl) ((Tch.refl _ _).drew) ?_
  with_reducible refine wpQuiet_step (fun K hK => ?_)
  go_simp
  refine ⟨.agg #[.int .u8 t.name, .slice (some ⟨b, o, none⟩) t.cols.length c, .int .i64 t.keys, .int .i64 (i : Int)], fun w1 t1 => ?_, hK _ ?_⟩
  · obtain ⟨x0, x1, x2, x3, x4, x5, x6⟩ := HX.out w1 t1
    go_simp
  clear hK K
  with_reducible refine wpQuiet_step (fun K hK => ?_)
  go_simp
  refine ⟨_, fun w1 t1 => (HBE.out w1 t1).mono (fun e w5 ⟨he, t5⟩ => ⟨he, t1.trans t5⟩), hK _ ?_⟩
  clear hK K
  with_reducible refine wpQuiet_step (fun K hK => ?_)
  go_simp
  refine ⟨.pointer (some ⟨w.heap.size, 1, none⟩), fun w1 t1 => rfl, ?_⟩
  refine hK _ ?_
  clear hK K
  with_reducible refine wpQuiet_step (fun K hK => ?_)
  go_simp
  refine ⟨.slice (some ⟨b, o, none⟩) t.cols.length c, fun w1 t1 => ?_, hK _ ?_⟩
  · obtain ⟨x0, x1, x2, x3, x4, x5, x6⟩ := HX.out w1 t1
    go_simp
  clear hK K
  with_reducible refine wpQuiet_step (fun K hK => ?_)
  go_simp
  refine ⟨.pointer (some ⟨w.heap.size, 3, none⟩), fun w1 t1 => rfl, ?_⟩
  refine hK _ ?_
  clear hK K
  with_reducible refine wpQuiet_step (fun K hK => ?_)
  go_simp
  refine ⟨.int .i64 (i : Int), fun w1 t1 => ?_, hK _ ?_⟩
  · obtain ⟨x0, x1, x2, x3, x4, x5, x6⟩ := HX.out w1 t1
    go_simp
  clear hK K
  with_reducible refine wpQuiet_step (fun K hK => ?_)
  go_simp
  refine ⟨.pointer (some ⟨b, o + i, none⟩), fun w1 t1 => ?_, hK _ ?_⟩
  · have hI : (i : Int) < (t.cols.length : Int) := by omega
    go_simp
  clear hK K
  with_reducible refine wpQuiet_step (fun K hK => ?_)
  go_simp
  refine ⟨.int .i64 k, fun w1 t1 => ?_, hK _ ?_⟩
  · obtain ⟨x0, x1, x2, x3, x4, x5, x6⟩ := HX.out w1 t1
    go_simp
  clear hK K
  with_reducible refine wpQuiet_step (fun K hK => ?_)
  go_simp
  refine ⟨.agg #[.int .i64 x.n, .string x.s], fun w1 t1 => ?_, hK _ ?_⟩
  · obtain ⟨x0, x1, x2, x3, x4, x5, x6⟩ := HX.out w1 t1
    go_simp
  clear hK K
  with_reducible refine wpQuiet_step (fun K hK => ?_)
  go_simp
  refine ⟨_, fun w1 t1 => (HKF.out w1 t1).mono (fun e w5 ⟨he, t5⟩ => ⟨he, t1.trans t5⟩), hK _ ?_⟩
  clear hK K
  with_reducible refine wpQuiet_step (fun K hK => ?_)
  go_simp
  refine ⟨.string ⟨(ibegin t k x).toArray⟩, fun w1 t1 => rfl, ?_⟩
  refine hK _ ?_
  clear hK K
  with_reducible refine wpQuiet_step (fun K hK => ?_)
  go_simp
  refine ⟨.string ⟨(ibegin t k x).toArray⟩, fun w1 t1 => rfl, ?_⟩
  refine hK _ ?_
  clear hK K
  with_reducible refine wpQuiet_nil ?_
  intro w5 t5
  go_wp2_with fail
  go_ret
  exact ⟨rfl, HT.out.trans t5⟩
end Go.Proofs.Ytenohgogfddniaa
