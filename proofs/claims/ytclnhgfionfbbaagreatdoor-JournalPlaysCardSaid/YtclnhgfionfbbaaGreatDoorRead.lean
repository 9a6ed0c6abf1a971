/-
  '(*Disk).Read' and 'New'. Conditions: the disk is one that New makes, or nil.
-/
import Derived.Test.YtclnhgfionfbbaaGreatDoorDisk
namespace Go.Proofs.YtclnhgfionfbbaaGreatDoor
open Go.RowKit
set_option linter.unusedVariables false

theorem read_nil (i : Int) (w : World) :
    Calls Tryz.prog 27 #[.pointer none, .int .i64 i] w fun e w' => e = .returned (.tuple #[.string ⟨#[]⟩, .int .i64 1]) ∧ w = w' := by
  go_enter Tryz.func27, Tryz.ntmps27
  go_wp2_with (first | (go_at_call 40; refine (ref_nil i w).mono ?_; rintro e w' ⟨rfl, rfl⟩))
  go_ret2
  exact ⟨rfl, rfl⟩
theorem read_ref (b : Nat) (i : Int) (w : World) (k : Int) (hk : (k != 0) = true)
    (hr : Calls Tryz.prog 40 #[.pointer (some ⟨b, 0, none⟩), .int .i64 i] w fun e w' => e = .returned (.int .i64 k) ∧ w = w') :
    Calls Tryz.prog 27 #[.pointer (some ⟨b, 0, none⟩), .int .i64 i] w fun e w' => e = .returned (.tuple #[.string ⟨#[]⟩, .int .i64 k]) ∧ w = w' := by
  have HR := Lib.hid hr
  clear hr
  go_enter Tryz.func27, Tryz.ntmps27
  go_wp2_with (first | (go_at_call 40; refine HR.out.mono ?_; rintro e w' ⟨rfl, rfl⟩))
  go_ret2
  exact ⟨rfl, rfl⟩
theorem read_off (b bs : Nat) (S : Dk) (i : Int) (w : World) (hd : IsDk w b bs S) (hp : (S.power == 1) = false) :
    Calls Tryz.prog 27 #[.pointer (some ⟨b, 0, none⟩), .int .i64 i] w fun e w' => e = .returned (.tuple #[.string ⟨#[]⟩, .int .i64 12]) ∧ w = w' :=
  read_ref b i w 12 (by decide) (ref_off b bs S i w hd hp)
theorem read_at (b bs : Nat) (S : Dk) (i : Int) (w : World) (hd : IsDk w b bs S) (hp : (S.power == 1) = true) (hi : i < 0 ∨ S.secs.length ≤ i) :
    Calls Tryz.prog 27 #[.pointer (some ⟨b, 0, none⟩), .int .i64 i] w fun e w' => e = .returned (.tuple #[.string ⟨#[]⟩, .int .i64 10]) ∧ w = w' :=
  read_ref b i w 10 (by decide) (by
    by_cases h : i < 0
    · exact ref_low b bs S i w hd hp h
    · exact ref_high b bs S i w hd hp h (by omega))
theorem read_full (b bs : Nat) (S : Dk) (i : Nat) (s : ByteArray) (w : World) (hd : IsDk w b bs S) (hp : (S.power == 1) = true) (hs : S.secs[i]? = some s) (hne : s.toList.isEmpty = false) :
    Calls Tryz.prog 27 #[.pointer (some ⟨b, 0, none⟩), .int .i64 i] w fun e w' => e = .returned (.tuple #[.string s, .int .i64 0]) ∧ w = w' := by
  have hi : i < S.secs.length := (List.getElem?_eq_some_iff.1 hs).1
  have HR := Lib.hid (ref_in b bs S i w hd hp (by omega) (by omega))
  have c0 := hd.c0
  have ci := hd.sc i s hs
  have hi2 : (i : Int) < (S.secs.length : Int) := by omega
  clear hs
  go_enter Tryz.func27, Tryz.ntmps27
  go_wp2_with (first | (go_at_call 40; refine HR.out.mono ?_; rintro e w' ⟨rfl, rfl⟩))
  go_ret2
  exact ⟨rfl, rfl⟩
theorem read_zero (b bs : Nat) (S : Dk) (i : Nat) (s : ByteArray) (w : World) (hd : IsDk w b bs S) (hp : (S.power == 1) = true) (hs : S.secs[i]? = some s) (hne : s.toList.isEmpty = true) (ho : S.once = 0 ∨ S.once = 1 ∧ S.zeros = zer) (hm : S.mu = 0) :
    Calls Tryz.prog 27 #[.pointer (some ⟨b, 0, none⟩), .int .i64 i] w fun e w' => e = .returned (.tuple #[.string zer, .int .i64 0]) ∧ (IsDk w' b bs { S with zeros := zer, once := 1 } ∧ Tch [b] w w') := by
  have hi : i < S.secs.length := (List.getElem?_eq_some_iff.1 hs).1
  have HR := Lib.hid (ref_in b bs S i w hd hp (by omega) (by omega))
  have HZ := Lib.hid (zsec b bs S w hd ho hm)
  have c0 := hd.c0
  have ci := hd.sc i s hs
  have hi2 : (i : Int) < (S.secs.length : Int) := by omega
  clear hs ho hm
  go_enter Tryz.func27, Tryz.ntmps27
  go_wp2_with (first | (go_at_call 40; refine HR.out.mono ?_; rintro e w' ⟨rfl, rfl⟩) | (go_at_call 45; refine HZ.out.mono ?_; rintro e w1 ⟨rfl, hd1, t1⟩))
  go_ret2
  exact ⟨rfl, hd1, t1⟩

/-- A new disk of n sectors. -/
def fresh (n : Nat) : Dk := { secs := List.replicate n ⟨#[]⟩, done := 0, reach := 0, left := -1, power := 1, once := 0, mu := 0, zeros := ⟨#[]⟩ }

theorem Tryz.info_str : (Tryz.prog.info? 9).map (fun i => (i.zero, i.size, i.bytes)) = some (some (.string ⟨#[]⟩), 1, 16) := by kernel_rfl

theorem made_strs (n : Nat) : madeCells #[Value.string ⟨#[]⟩] n = ((List.replicate n (⟨#[]⟩ : ByteArray)).map Value.string).toArray := by
  apply Array.ext
  · simp [madeCells]
  · intro i h1 h2
    simp [madeCells, Nat.mod_one]

/-- How many sectors a new disk has. -/
def many (n : Int) : Nat := (min (max n 0) 16384).toNat

set_option maxHeartbeats 400000 in
theorem new_any (n : Int) (w : World) (h0 : -9223372036854775808 ≤ n) (h1 : n ≤ 9223372036854775807) :
    Calls Tryz.prog 4 #[.int .i64 n] w fun e w' => e = .returned (.pointer (some ⟨w.heap.size + 1, 0, none⟩)) ∧ (IsDk w' (w.heap.size + 1) w.heap.size (fresh (many n)) ∧ Tch [] w w') := by
  obtain ⟨i0, hi, hz0, hz1, hz2⟩ := info_parts Tryz.info_str
  have hmk := run_make (P := Tryz.prog) w 39 9 i0 (.string ⟨#[]⟩) Tryz.underlying39 hi hz0 .i64 .i64 (min (max n 0) 16384) (min (max n 0) 16384) (by omega) (by omega) (by rw [hz2]; omega) (by omega)
  rw [hz1, Nat.mul_one] at hmk
  have hm : (min (max n 0) 16384).toNat = many n := rfl
  rw [hm] at hmk
  have hx : Value.cells (.string ⟨#[]⟩) = #[.string ⟨#[]⟩] := rfl
  rw [hx] at hmk
  have HD := Lib.hid (start_any (w.heap.size + 1) w.heap.size { fresh (many n) with left := 0, power := 0 } ((w.alloc (.cells (madeCells #[.string ⟨#[]⟩] (many n)) 9)).alloc (.cells #[.slice (some ⟨w.heap.size, 0, none⟩) (many n) (many n), .int .i64 0, .int .i64 0, .int .i64 0, .int .i64 0, .int .u32 0, .int .i32 0, .int .u32 0, .string ⟨#[]⟩] 56)) ⟨by
      have h := blk_new (w.alloc (.cells (madeCells #[.string ⟨#[]⟩] (many n)) 9)) (.cells #[.slice (some ⟨w.heap.size, 0, none⟩) (many n) (many n), .int .i64 0, .int .i64 0, .int .i64 0, .int .i64 0, .int .u32 0, .int .i32 0, .int .u32 0, .string ⟨#[]⟩] 56)
      rw [World.size_alloc] at h
      rw [h]
      simp [Dk.cells, fresh], by
      refine blk_alloc ?_ _
      rw [made_strs]
      exact blk_new w _, by omega, by simp [fresh, many]; omega⟩)
  have T0 := Lib.hid (((Tch.refl [] w).alloc (.cells (madeCells #[.string ⟨#[]⟩] (many n)) 9)).alloc (.cells #[.slice (some ⟨w.heap.size, 0, none⟩) (many n) (many n), .int .i64 0, .int .i64 0, .int .i64 0, .int .i64 0, .int .u32 0, .int .i32 0, .int .u32 0, .string ⟨#[]⟩] 56))
  clear hm hi hz0 hz1 hz2 hx
  go_enter Tryz.func4, Tryz.ntmps4
  go_wp2_with fail
  refine HD.out.mono ?_
  rintro e w1 ⟨rfl, hd1, t1⟩
  go_wp2
  go_ret
  exact ⟨rfl, hd1, T0.out.transNew t1 (by simp)⟩
end Go.Proofs.YtclnhgfionfbbaaGreatDoor
