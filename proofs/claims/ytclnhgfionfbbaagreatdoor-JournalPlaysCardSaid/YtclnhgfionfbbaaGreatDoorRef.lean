/-
  The document's own disk (package chandlerref01), each call as a contract on what it holds ('Rk'). No condition beyond that its disk is one that its New makes.
-/
import Derived.Test.YtclnhgfionfbbaaGreatDoorRows
import Derived.Test.YtclnhgfionfbbaaGreatDoorState
import Derived.Test.YtclnhgfionfbbaaGreatDoorRowsIn
import Derived.Deep.RegionWith
import Derived.Deep.QuietTactic
import Derived.BigQuiet
namespace Go.Proofs.YtclnhgfionfbbaaGreatDoor
open Go.RowKit
set_option linter.unusedVariables false

structure Rk where
  secs : List ByteArray
  done : Int
  high : Int
  set : Bool
  left : Int
  off : Bool
def Rk.cells (R : Rk) (bs : Nat) : Array Value := #[.slice (some ⟨bs, 0, none⟩) R.secs.length R.secs.length, .int .i64 R.done, .int .i64 R.high, .bool R.set, .int .i64 R.left, .bool R.off]
structure IsRk (w : World) (b bs : Nat) (R : Rk) : Prop where
  blk : w.heap[b]? = some (.cells (R.cells bs) 58 (0, 0))
  arr : w.heap[bs]? = some (.cells (R.secs.map Value.string).toArray 9 (0, 0))
  ne : b ≠ bs
  len : R.secs.length ≤ 16384
theorem IsRk.keep {L : List Nat} {w w' : World} {b bs : Nat} {R : Rk} (h : IsRk w b bs R) (t : Tch L w w') (h1 : b ∉ L) (h2 : bs ∉ L) : IsRk w' b bs R :=
  ⟨t.keep h.blk h1, t.keep h.arr h2, h.ne, h.len⟩
theorem IsRk.drew {w : World} {b bs : Nat} {R : Rk} (h : IsRk w b bs R) : IsRk w.drew b bs R := ⟨h.blk, h.arr, h.ne, h.len⟩
theorem IsRk.z {w : World} {b bs : Nat} {R : Rk} (h : IsRk w b bs R) (o : Nat) : w.frozen? ⟨b, o, none⟩ = false := blk_free h.blk o
theorem IsRk.c0 {w : World} {b bs : Nat} {R : Rk} (h : IsRk w b bs R) : w.cell? ⟨b, 0, none⟩ = some (.slice (some ⟨bs, 0, none⟩) R.secs.length R.secs.length) := blk_cell h.blk 0
theorem IsRk.c1 {w : World} {b bs : Nat} {R : Rk} (h : IsRk w b bs R) : w.cell? ⟨b, 1, none⟩ = some (.int .i64 R.done) := blk_cell h.blk 1
theorem IsRk.c2 {w : World} {b bs : Nat} {R : Rk} (h : IsRk w b bs R) : w.cell? ⟨b, 2, none⟩ = some (.int .i64 R.high) := blk_cell h.blk 2
theorem IsRk.c3 {w : World} {b bs : Nat} {R : Rk} (h : IsRk w b bs R) : w.cell? ⟨b, 3, none⟩ = some (.bool R.set) := blk_cell h.blk 3
theorem IsRk.c4 {w : World} {b bs : Nat} {R : Rk} (h : IsRk w b bs R) : w.cell? ⟨b, 4, none⟩ = some (.int .i64 R.left) := blk_cell h.blk 4
theorem IsRk.c5 {w : World} {b bs : Nat} {R : Rk} (h : IsRk w b bs R) : w.cell? ⟨b, 5, none⟩ = some (.bool R.off) := blk_cell h.blk 5
theorem IsRk.put {w : World} {b bs : Nat} {R R' : Rk} (h : IsRk w b bs R) (o : Nat) (u : Value) (he : (R.cells bs).setIfInBounds o u = R'.cells bs) (hs : R'.secs = R.secs) : IsRk (w.setCell ⟨b, o, none⟩ u) b bs R' :=
  ⟨by rw [← he]; exact blk_set h.blk o u, by rw [hs]; exact blk_other h.arr (Ne.symm h.ne) o u, h.ne, by rw [hs]; exact h.len⟩
theorem IsRk.set1 {w : World} {b bs : Nat} {R : Rk} (h : IsRk w b bs R) (x : Int) : IsRk (w.setCell ⟨b, 1, none⟩ (.int .i64 x)) b bs { R with done := x } := h.put 1 _ rfl rfl
theorem IsRk.set2 {w : World} {b bs : Nat} {R : Rk} (h : IsRk w b bs R) (x : Int) : IsRk (w.setCell ⟨b, 2, none⟩ (.int .i64 x)) b bs { R with high := x } := h.put 2 _ rfl rfl
theorem IsRk.set3 {w : World} {b bs : Nat} {R : Rk} (h : IsRk w b bs R) (x : Bool) : IsRk (w.setCell ⟨b, 3, none⟩ (.bool x)) b bs { R with set := x } := h.put 3 _ rfl rfl
theorem IsRk.set4 {w : World} {b bs : Nat} {R : Rk} (h : IsRk w b bs R) (x : Int) : IsRk (w.setCell ⟨b, 4, none⟩ (.int .i64 x)) b bs { R with left := x } := h.put 4 _ rfl rfl
theorem IsRk.set5 {w : World} {b bs : Nat} {R : Rk} (h : IsRk w b bs R) (x : Bool) : IsRk (w.setCell ⟨b, 5, none⟩ (.bool x)) b bs { R with off := x } := h.put 5 _ rfl rfl
theorem IsRk.sec {w : World} {b bs : Nat} {R : Rk} (h : IsRk w b bs R) (i : Nat) (s : ByteArray) : IsRk (w.setCell ⟨bs, i, none⟩ (.string s)) b bs { R with secs := R.secs.set i s } :=
  ⟨by rw [show Rk.cells { R with secs := R.secs.set i s } bs = R.cells bs from by simp [Rk.cells]]; exact blk_other h.blk h.ne i _,
   by
    have := blk_set h.arr i (.string s)
    rw [this]
    congr 2
    simp [List.map_set], h.ne, by simp; exact h.len⟩
theorem IsRk.sc {w : World} {b bs : Nat} {R : Rk} (h : IsRk w b bs R) (i : Nat) (s : ByteArray) (hi : R.secs[i]? = some s) : w.cell? ⟨bs, i, none⟩ = some (.string s) := by
  rw [blk_cell h.arr i]; simp [hi]
theorem IsRk.sz {w : World} {b bs : Nat} {R : Rk} (h : IsRk w b bs R) (i : Nat) : w.frozen? ⟨bs, i, none⟩ = false := blk_free h.arr i

theorem rcut_any (b bs : Nat) (R : Rk) (n : Int) (w : World) (hd : IsRk w b bs R) :
    Calls Tryz.prog 22 #[.pointer (some ⟨b, 0, none⟩), .int .i64 n] w fun e w' => e = .returned (.tuple #[]) ∧ (IsRk w' b bs { R with set := true, left := max n 0 } ∧ Tch [b] w w') := by
  have hd3 := hd.set3 true
  have hd4 := hd3.set4 n
  have hd5 := hd4.set4 0
  have T4 := ((Tch.refl [b] w).setCell (p := ⟨b, 3, none⟩) (by simp) (.bool true)).setCell (p := ⟨b, 4, none⟩) (by simp) (.int .i64 n)
  have T5 := T4.setCell (p := ⟨b, 4, none⟩) (by simp) (.int .i64 0)
  have c3 := hd.c3
  have z3 := hd.z 3
  have c4 := hd3.c4
  have z4 := hd3.z 4
  have e4 := hd4.c4
  have f4 := hd4.z 4
  by_cases h : n < 0
  · have HF := Lib.hid (And.intro hd5 T5)
    clear hd5 T5 hd4 T4 hd3
    go_enter Tryz.func22, Tryz.ntmps22
    go_wp2
    go_end0
    refine ⟨rfl, ?_⟩
    rw [show max n 0 = 0 from by omega]
    exact HF.out
  · have HF := Lib.hid (And.intro hd4 T4)
    clear hd5 T5 hd4 T4 hd3
    go_enter Tryz.func22, Tryz.ntmps22
    go_wp2
    go_end0
    refine ⟨rfl, ?_⟩
    rw [show max n 0 = n from by omega]
    exact HF.out
theorem rstart_any (b bs : Nat) (R : Rk) (w : World) (hd : IsRk w b bs R) :
    Calls Tryz.prog 23 #[.pointer (some ⟨b, 0, none⟩)] w fun e w' => e = .returned (.tuple #[]) ∧ (IsRk w' b bs { R with set := false, off := false } ∧ Tch [b] w w') := by
  have hd5 := hd.set5 false
  have hd3 := hd5.set3 false
  have T5 := ((Tch.refl [b] w).setCell (p := ⟨b, 5, none⟩) (by simp) (.bool false)).setCell (p := ⟨b, 3, none⟩) (by simp) (.bool false)
  have c5 := hd.c5
  have z5 := hd.z 5
  have c3 := hd5.c3
  have z3 := hd5.z 3
  have HF := Lib.hid (And.intro hd3 T5)
  clear hd3 T5 hd5
  go_enter Tryz.func23, Tryz.ntmps23
  go_wp2
  go_end0
  exact ⟨rfl, HF.out⟩
theorem rnew_any (n : Int) (w : World) (h0 : -9223372036854775808 ≤ n) (h1 : n ≤ 9223372036854775807) :
    Calls Tryz.prog 5 #[.int .i64 n] w fun e w' => e = .returned (.pointer (some ⟨w.heap.size + 1, 0, none⟩)) ∧ (IsRk w' (w.heap.size + 1) w.heap.size { secs := List.replicate (many n) ⟨#[]⟩, done := 0, high := -1, set := false, left := 0, off := false } ∧ Tch [] w w') := by
  obtain ⟨i0, hi, hz0, hz1, hz2⟩ := info_parts Tryz.info_str
  have hmk : ∀ m : Int, 0 ≤ m → m ≤ 16384 → m = (many n : Int) → (Instr.makeSlice 39 (.int .i64 m) (.int .i64 m)).run Tryz.prog w = .ok (.slice (some ⟨w.heap.size, 0, none⟩) (many n) (many n)) (w.alloc (.cells (madeCells #[.string ⟨#[]⟩] (many n)) 9)) := by
    intro m h2 h3 h4
    have := run_make (P := Tryz.prog) w 39 9 i0 (.string ⟨#[]⟩) Tryz.underlying39 hi hz0 .i64 .i64 m m (by omega) (by omega) (by rw [hz2]; omega) (by omega)
    rw [hz1, Nat.mul_one, show m.toNat = many n from by omega] at this
    exact this
  have HF : Hid (IsRk ((w.alloc (.cells (madeCells #[.string ⟨#[]⟩] (many n)) 9)).alloc (.cells #[.slice (some ⟨w.heap.size, 0, none⟩) (many n) (many n), .int .i64 0, .int .i64 (-1), .bool false, .int .i64 0, .bool false] 58)) (w.heap.size + 1) w.heap.size { secs := List.replicate (many n) ⟨#[]⟩, done := 0, high := -1, set := false, left := 0, off := false } ∧
      Tch [] w ((w.alloc (.cells (madeCells #[.string ⟨#[]⟩] (many n)) 9)).alloc (.cells #[.slice (some ⟨w.heap.size, 0, none⟩) (many n) (many n), .int .i64 0, .int .i64 (-1), .bool false, .int .i64 0, .bool false] 58))) := by
    refine ⟨⟨?_, ?_, by omega, by simp [many]; omega⟩, ((Tch.refl [] w).alloc _).alloc _⟩
    · have h := blk_new (w.alloc (.cells (madeCells #[.string ⟨#[]⟩] (many n)) 9)) (.cells #[.slice (some ⟨w.heap.size, 0, none⟩) (many n) (many n), .int .i64 0, .int .i64 (-1), .bool false, .int .i64 0, .bool false] 58)
      rw [World.size_alloc] at h
      rw [h]
      simp [Rk.cells]
    · refine blk_alloc ?_ _
      rw [made_strs]
      exact blk_new w _
  by_cases hn : n < 0
  · have hm := hmk 0 (by omega) (by omega) (by unfold many; omega)
    clear hmk hi hz0 hz1 hz2
    go_enter Tryz.func5, Tryz.ntmps5
    go_wp2
    go_ret
    exact ⟨rfl, HF.out⟩
  · by_cases hb : 16384 < n
    · have hm := hmk 16384 (by omega) (by omega) (by unfold many; omega)
      clear hmk hi hz0 hz1 hz2
      go_enter Tryz.func5, Tryz.ntmps5
      go_wp2
      go_ret
      exact ⟨rfl, HF.out⟩
    · have hm := hmk n (by omega) (by omega) (by unfold many; omega)
      clear hmk hi hz0 hz1 hz2
      go_enter Tryz.func5, Tryz.ntmps5
      go_wp2
      go_ret
      exact ⟨rfl, HF.out⟩
end Go.Proofs.YtclnhgfionfbbaaGreatDoor
