/-
  Layer 6: a value, its bytes in a key ('keyForm') and elsewhere ('field'); what keys begin with ('begin').
-/
import Derived.Test.YtenohgogfddniaaPor
import Derived.Test.YtenohgogfddniaaTxt
namespace Go.Proofs.Ytenohgogfddniaa
open Go.RowKit
set_option linter.unusedVariables false

/-- What stands in a column. -/
structure Vl where
  n : Int
  s : ByteArray
def Vl.Ok (x : Vl) : Prop := -9223372036854775808 ≤ x.n ∧ x.n < 9223372036854775808 ∧ x.s.size ≤ 1000000000
def Vl.agg (x : Vl) : Value := .agg #[.int .i64 x.n, .string x.s]
def fVl (x : Vl) : List Value := [.int .i64 x.n, .string x.s]
/-- A value's bytes in a key, and elsewhere. -/
def kform (k : Int) (x : Vl) : List UInt8 := if k = 0 then ord x.n else x.s.data.toList ++ [0]
def fform (k : Int) (x : Vl) : List UInt8 := if k = 0 then ub (zz x.n) else tx x.s
/-- A table; its kinds stand elsewhere. -/
structure Tb where
  name : Nat
  cols : List Int
  keys : Int
  idx : Int

set_option maxRecDepth 100000 in
set_option maxHeartbeats 400000 in
theorem keyForm_any (k : Int) (x : Vl) (w : World) (hx : x.Ok) :
    Calls Try.prog 31 #[.int .i64 k, x.agg] w fun e w' => e = .returned (.string ⟨(kform k x).toArray⟩) ∧ Tch [] w w' := by
  have hc := Lib.hid (fun W : World => pord_any x.n W hx.1 hx.2.1)
  by_cases h : k = 0
  · subst h
    have HK := Lib.hid (show kform 0 x = ord x.n from rfl)
    rw [HK.out]
    unfold Vl.agg
    go_enter Try.func31, Try.ntmps31
    go_wp2_with fail
    refine (hc.out _).mono ?_
    rintro e w' ⟨rfl, T⟩
    go_wp2
    go_ret
    exact ⟨rfl, ((Tch.refl [] w).alloc _).trans T⟩
  · have hb : (k == 0) = false := by simp; exact h
    have HK := Lib.hid (show kform k x = x.s.data.toList ++ [0] from by unfold kform; rw [if_neg h])
    have HJ := Lib.hid (show x.s ++ (⟨#[0]⟩ : ByteArray) = ⟨(x.s.data.toList ++ [0]).toArray⟩ from by apply ba_ext; rw [Joins.data_append])
    have hsum : ¬ 9223372036854775807 < x.s.size + 1 := by have := hx.2.2; omega
    rw [HK.out]
    unfold Vl.agg
    clear h
    go_enter Try.func31, Try.ntmps31
    go_wp2
    go_ret
    exact ⟨by rw [HJ.out]; rfl, ((Tch.refl [] w).alloc _)⟩
set_option maxRecDepth 100000 in
set_option maxHeartbeats 400000 in
theorem field_any (k : Int) (x : Vl) (w : World) (hx : x.Ok) :
    Calls Try.prog 32 #[.int .i64 k, x.agg] w fun e w' => e = .returned (.string ⟨(fform k x).toArray⟩) ∧ Tch [] w w' := by
  have hc := Lib.hid (fun W : World => pint_any x.n W hx.1 hx.2.1)
  have ht := Lib.hid (fun W : World => text_any x.s W hx.2.2)
  by_cases h : k = 0
  · subst h
    have HK := Lib.hid (show fform 0 x = ub (zz x.n) from rfl)
    rw [HK.out]
    unfold Vl.agg
    go_enter Try.func32, Try.ntmps32
    go_wp2_with fail
    refine (hc.out _).mono ?_
    rintro e w' ⟨rfl, T⟩
    go_wp2
    go_ret
    exact ⟨rfl, ((Tch.refl [] w).alloc _).trans T⟩
  · have hb : (k == 0) = false := by simp; exact h
    have HK := Lib.hid (show fform k x = tx x.s from by unfold fform; rw [if_neg h])
    rw [HK.out]
    unfold Vl.agg
    clear h
    go_enter Try.func32, Try.ntmps32
    go_wp2_with fail
    refine (ht.out _).mono ?_
    rintro e w' ⟨rfl, T⟩
    go_wp2
    go_ret
    exact ⟨rfl, ((Tch.refl [] w).alloc _).trans T⟩
theorem conv_one (w : World) (g n : Nat) (t : TypeId) (f : Nat × Nat) (hb : w.heap[g]? = some (.cells #[.int .u8 n] t f)) (hn : n < 256) :
    (convert 70 9 (.slice (some ⟨g, 0, none⟩) 1 1)).run Try.prog w = .ok (.string ⟨#[UInt8.ofNat n]⟩) w := by
  rw [run_convert_bytes_string w _ _ 5 _ _ _ Try.underlying70 Try.underlying5 Try.underlying9]
  have hld := run_loadCells_list (P := Try.prog) (w := w) ⟨g, 0, none⟩ (([UInt8.ofNat n].map fun b => (b.toNat : Int)).map (Value.int .u8)) (by
    intro j u hj
    rw [add_mk, blk_cell hb, Nat.zero_add]
    match j, hj with
    | 0, hj => simp at hj; subst hj; simp; omega)
  rw [run_bytesToString w _ 1 1 _ hld, foldl_push]
  simp
/-- What keys begin with. -/
def tbegin (t : Tb) (mark : UInt8) : List UInt8 := [UInt8.ofNat t.name, mark]
def Tb.agg (t : Tb) (a : Option Addr) (c : Nat) : Value := .agg #[.int .u8 t.name, .slice a t.cols.length c, .int .i64 t.keys, .int .i64 t.idx]
set_option maxRecDepth 100000 in
set_option maxHeartbeats 400000 in
theorem begin_any (t : Tb) (mark : UInt8) (a : Option Addr) (c : Nat) (w : World) (hn : t.name < 256) :
    Calls Try.prog 33 #[t.agg a c, .string ⟨#[mark]⟩] w fun e w' => e = .returned (.string ⟨(tbegin t mark).toArray⟩) ∧ Tch [] w w' := by
  have HT := Lib.hid (show tbegin t mark = [UInt8.ofNat t.name, mark] from rfl)
  rw [HT.out]
  unfold Tb.agg
  generalize t.cols.length = cn
  generalize t.keys = tk
  generalize t.idx = ti
  have hcv := conv_one ((w.alloc (.cells #[.int .u8 t.name, .slice a cn c, .int .i64 tk, .int .i64 ti] 24)).alloc (.cells #[.int .u8 t.name] 5)) (w.heap.size + 1) t.name _ _ (by have h := blk_new (w.alloc (.cells #[.int .u8 t.name, .slice a cn c, .int .i64 tk, .int .i64 ti] 24)) (.cells #[.int .u8 t.name] 5); rw [show (w.alloc (.cells #[.int .u8 t.name, .slice a cn c, .int .i64 tk, .int .i64 ti] 24)).heap.size = w.heap.size + 1 from Array.size_push _] at h; exact h) hn
  go_enter Try.func33, Try.ntmps33
  go_wp2
  go_ret
  exact ⟨rfl, ((Tch.refl [] w).alloc _).alloc _⟩
end Go.Proofs.Ytenohgogfddniaa
