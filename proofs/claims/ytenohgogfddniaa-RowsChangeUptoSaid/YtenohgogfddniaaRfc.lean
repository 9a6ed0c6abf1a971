/-
  The document's 'form' and 'Form'.
-/
import Derived.Test.YtenohgogfddniaaRfb
import Derived.Test.YtenohgogfddniaaJoi
import Derived.Deep.RegionHeld3
namespace Go.Proofs.Ytenohgogfddniaa
open Go.RowKit
set_option linter.unusedVariables false

set_option maxRecDepth 100000 in
set_option maxHeartbeats 400000 in
theorem rfform_any (k : Int) (x : Vl) (w : World) (hx : x.Ok) :
    Calls Try.prog 20 #[.int .i64 k, x.agg] w fun e w' => e = .returned (.string ⟨(kform k x).toArray⟩) ∧ Tch [] w w' := by
  have hc := Lib.hid (fun W : World => rord_any x.n W hx.1 hx.2.1)
  by_cases h : k = 0
  · subst h
    have HK := Lib.hid (show kform 0 x = ord x.n from rfl)
    rw [HK.out]
    unfold Vl.agg
    go_enter Try.func20, Try.ntmps20
    go_wp2_with fail
    refine (hc.out _).mono ?_
    rintro e w' ⟨rfl, T⟩
    go_wp2
    go_ret
    exact ⟨rfl, ((Tch.refl [] w).alloc _).trans T⟩
  · have hb : (k == 0) = false := by simp; exact h
    have HK := Lib.hid (show kform k x = x.s.data.toList ++ [0] from by unfold kform; rw [if_neg h])
    have HJ := Lib.hid (show x.s ++ (⟨#[0]⟩ : ByteArray) = ⟨(x.s.data.toList ++ [0]).toArray⟩ from by apply ba_ext; rw [Joins.data_append])
    have hsum : ¬ 9223372036854775807 < x.s.size + 1 := by have := hx.2.2; omega
    rw [HK.out]
    unfold Vl.agg
    clear h
    go_enter Try.func20, Try.ntmps20
    go_wp2
    go_ret
    exact ⟨by rw [HJ.out]; rfl, ((Tch.refl [] w).alloc _)⟩

theorem conv_two (w : World) (g n m : Nat) (t : TypeId) (f : Nat × Nat) (hb : w.heap[g]? = some (.cells #[.int .u8 n, .int .u8 m] t f)) (hn : n < 256) (hm : m < 256) :
    (convert 70 9 (.slice (some ⟨g, 0, none⟩) 2 2)).run Try.prog w = .ok (.string ⟨[UInt8.ofNat n, UInt8.ofNat m].toArray⟩) w := by
  rw [run_convert_bytes_string w _ _ 5 _ _ _ Try.underlying70 Try.underlying5 Try.underlying9]
  have hld := run_loadCells_list (P := Try.prog) (w := w) ⟨g, 0, none⟩ (([UInt8.ofNat n, UInt8.ofNat m].map fun b => (b.toNat : Int)).map (Value.int .u8)) (by
    intro j u hj
    rw [add_mk, blk_cell hb, Nat.zero_add]
    match j, hj with
    | 0, hj => simp at hj; subst hj; simp; omega
    | 1, hj => simp at hj; subst hj; simp; omega)
  rw [run_bytesToString w _ 2 2 _ hld, foldl_push]
  simp

def Tb.rc (t : Tb) (a : Option Addr) (c : Nat) : Array Value := #[.int .u8 t.name, .slice a t.cols.length c, .int .i64 t.keys, .int .i64 t.idx]
set_option maxRecDepth 100000 in
set_option maxHeartbeats 1000000 in
theorem rfForm_any (t : Tb) (a : Option Addr) (c b o i : Nat) (k : Int) (x : Vl) (w : World) (hk : IsKs w a t.cols.length b o t.cols) (hi : t.cols[i]? = some k) (hidx : t.idx = (i : Int)) (hl : t.cols.length ≤ 1000000000) (hn : t.name < 256) (hx : x.Ok) :
    Calls Try.prog 23 #[t.agg a c, x.agg] w fun e w' => e = .returned (.string ⟨(ibegin t k x).toArray⟩) ∧ Tch [] w w' := by
  have hin := (List.getElem?_eq_some_iff.1 hi).1
  obtain rfl : a = some ⟨b, o, none⟩ := hk.some_ (by omega)
  obtain ⟨W2, hW2⟩ : ∃ W2, W2 = (w.alloc (.cells #[.int .u8 t.name, .slice (some ⟨b, o, none⟩) t.cols.length c, .int .i64 t.keys, .int .i64 t.idx] 37)).alloc (.cells #[.int .i64 x.n, .string x.s] 65) := ⟨_, rfl⟩
  have T2 : Tch [] w W2 := by rw [hW2]; exact ((Tch.refl [] w).alloc _).alloc _
  have hb1 : W2.heap[w.heap.size]? = some (.cells #[.int .u8 t.name, .slice (some ⟨b, o, none⟩) t.cols.length c, .int .i64 t.keys, .int .i64 t.idx] 37 (0, 0)) := by rw [hW2]; exact blk_alloc (blk_new w _) _
  have hb2 : W2.heap[w.heap.size + 1]? = some (.cells #[.int .i64 x.n, .string x.s] 65 (0, 0)) := by
    have h := blk_new (w.alloc (.cells #[.int .u8 t.name, .slice (some ⟨b, o, none⟩) t.cols.length c, .int .i64 t.keys, .int .i64 t.idx] 37)) (.cells #[.int .i64 x.n, .string x.s] 65)
    rw [show (w.alloc (.cells #[.int .u8 t.name, .slice (some ⟨b, o, none⟩) t.cols.length c, .int .i64 t.keys, .int .i64 t.idx] 37)).heap.size = w.heap.size + 1 from Array.size_push _] at h
    rw [hW2]; exact h
  have HX : Hid (∀ W, Tch [] W2 W → W.cell? ⟨w.heap.size, 0, none⟩ = some (.int .u8 t.name) ∧ W.cell? ⟨w.heap.size, 1, none⟩ = some (.slice (some ⟨b, o, none⟩) t.cols.length c) ∧ W.cell? ⟨w.heap.size, 2, none⟩ = some (.int .i64 t.keys) ∧ W.cell? ⟨w.heap.size, 3, none⟩ = some (.int .i64 t.idx) ∧ W.cell? ⟨w.heap.size + 1, 0, none⟩ = some (.int .i64 x.n) ∧ W.cell? ⟨w.heap.size + 1, 1, none⟩ = some (.string x.s) ∧ W.cell? ⟨b, o + i, none⟩ = some (.int .i64 k)) := fun W t3 => by
    have h1 := t3.keep hb1 (by simp)
    have h2 := t3.keep hb2 (by simp)
    exact ⟨by rw [blk_cell h1]; rfl, by rw [blk_cell h1]; rfl, by rw [blk_cell h1]; rfl, by rw [blk_cell h1]; rfl, by rw [blk_cell h2]; rfl, by rw [blk_cell h2]; rfl, ((hk.keep0 T2).keep0 t3).one hi rfl⟩
  have HKF : Hid (∀ W, Calls Try.prog 20 #[.int .i64 k, x.agg] W fun e w' => e = .returned (.string ⟨(kform k x).toArray⟩) ∧ Tch [] W w') := fun W => rfform_any k x W hx
  have HAD : ∀ W : World, (Op.stringOp .add ⟨#[UInt8.ofNat t.name, 1]⟩ ⟨(kform k x).toArray⟩).run Try.prog W = .ok (.string ⟨(ibegin t k x).toArray⟩) W := fun W => by
    have h1 : (kform k x).length ≤ 1000000100 := kform_len k x hx
    have h2 : (⟨#[UInt8.ofNat t.name, 1]⟩ : ByteArray).size = 2 := rfl
    have h3 : (⟨(kform k x).toArray⟩ : ByteArray).size = (kform k x).length := List.size_toArray
    refine (run_string_add_sum W _ _ (by omega)).trans ?_
    rw [show (⟨#[UInt8.ofNat t.name, 1]⟩ : ByteArray) = ⟨(tbegin t 1).toArray⟩ from rfl, cat_l]
    rfl
  have HT := Lib.hid T2
  clear hb1 hb2 T2 hk hi
  rw [hidx] at hW2 HX
  have HNM := Lib.hid hn
  unfold Tb.agg Vl.agg at *
  rw [hidx] at *
  clear hn hidx hx
  generalize kform k x = KF at *
  generalize ibegin t k x = IB at *
  generalize t.name = tn at *
  generalize t.cols.length = cn at *
  generalize t.keys = tk at *
  obtain ⟨xn, xs⟩ := x
  simp only at *
  have td : Tch [] W2 W2.drew := (Tch.refl _ _).drew
  have hic : (i : Int) < (cn : Int) := by omega
  go_enter Try.func23, Try.ntmps23
  go_upto_region 1 with fail
  rw [← hW2]
  clear hW2
  go_region_held3 (fun W => W.cell? ⟨w.heap.size, 0, none⟩ = some (.int .u8 tn) ∧ W.cell? ⟨w.heap.size, 1, none⟩ = some (.slice (some ⟨b, o, none⟩) cn c) ∧ W.cell? ⟨w.heap.size, 2, none⟩ = some (.int .i64 tk) ∧ W.cell? ⟨w.heap.size, 3, none⟩ = some (.int .i64 (i : Int)) ∧ W.cell? ⟨w.heap.size + 1, 0, none⟩ = some (.int .i64 xn) ∧ W.cell? ⟨w.heap.size + 1, 1, none⟩ = some (.string xs) ∧ W.cell? ⟨b, o + i, none⟩ = some (.int .i64 k))
    (first | exact HX.out _ td | exact HX.out _ (td.trans t5))
    (first | (go_at_call 20; (with_reducible refine (HKF.out _).mono ?_); rintro e w5 ⟨rfl, t5⟩))
  have T5 := Lib.hid (HT.out.trans (td.trans t5))
  obtain ⟨x0, x1, x2, x3, x4, x5, x6⟩ := HX.out w5 (td.trans t5)
  have hcv : (convert 70 9 (.slice (some ⟨w5.heap.size, 0, none⟩) 2 2)).run Try.prog (w5.alloc (.cells #[.int .u8 tn, .int .u8 1] 5)) = .ok (.string ⟨#[UInt8.ofNat tn, 1]⟩) (w5.alloc (.cells #[.int .u8 tn, .int .u8 1] 5)) := conv_two (w5.alloc (.cells #[.int .u8 tn, .int .u8 1] 5)) w5.heap.size tn 1 _ _ (blk_new _ _) HNM.out (by decide)
  clear HX HKF HT td t5 HNM
  go_wp2_with fail
  go_ret
  exact ⟨rfl, T5.out.alloc _⟩
end Go.Proofs.Ytenohgogfddniaa
