/-
  What a journal and a list of numbers are in memory; the journal's small methods. Conditions: the journal is one that Open makes, of room at most 500, over a disk.
-/
import Derived.Test.YtclnhgfionfbbaaGreatDoorJm
import Derived.Test.YtclnhgfionfbbaaGreatDoorMet
import Derived.Test.YtclnhgfionfbbaaGreatDoorRdu
import Derived.Test.YtclnhgfionfbbaaGreatDoorBld
import Derived.Deep.QuietTactic
import Derived.Deep.RegionWith
import Derived.BigQuiet
import Derived.BigGuardPart
namespace Go.Proofs.YtclnhgfionfbbaaGreatDoor
open Go.RowKit
set_option linter.unusedVariables false

/-- Block jb is a journal of this room over the disk in block b. -/
def IsJn (w : World) (jb b room : Nat) : Prop := w.heap[jb]? = some (.cells #[.pointer (some ⟨b, 0, none⟩), .int .i64 room] 84 (0, 0))
theorem IsJn.c0 {w : World} {jb b room : Nat} (h : IsJn w jb b room) : w.cell? ⟨jb, 0, none⟩ = some (.pointer (some ⟨b, 0, none⟩)) := blk_cell h 0
theorem IsJn.c1 {w : World} {jb b room : Nat} (h : IsJn w jb b room) : w.cell? ⟨jb, 1, none⟩ = some (.int .i64 room) := blk_cell h 1
theorem IsJn.keep {L : List Nat} {w w' : World} {jb b room : Nat} (h : IsJn w jb b room) (t : Tch L w w') (hn : jb ∉ L) : IsJn w' jb b room := t.keep h hn
theorem IsJn.lt {w : World} {jb b room : Nat} (h : IsJn w jb b room) : jb < w.heap.size := lt_of_block h

/-- The value is a list of numbers of a call's own. -/
def IsNums (w : World) (v : Value) (l : List Nat) : Prop := w.ownsRow 0 3 1 v l.length (l.map fun a : Nat => Value.int .i64 (a : Int))
theorem own_keep {w w' : World} {base size n : Nat} {e : TypeId} {v : Value} {xs : List Value} {L : List Nat} (h : w.ownsRow base e size v n xs) (t : Tch L w w') (hn : ∀ k, v.ownBlock = some k → k ∉ L) : w'.ownsRow base e size v n xs := by
  refine ⟨h.1, ?_⟩
  rcases h.2 with h2 | ⟨g, cap, cur, rfl, h3, h4, h5⟩
  · exact Or.inl h2
  · exact Or.inr ⟨g, cap, cur, rfl, h3, t.keep h4 (hn g rfl), h5⟩
theorem own_base {w : World} {base base' size n : Nat} {e : TypeId} {v : Value} {xs : List Value} (h : w.ownsRow base e size v n xs) (hb : base' ≤ base) : w.ownsRow base' e size v n xs := by
  refine ⟨h.1, ?_⟩
  rcases h.2 with h2 | ⟨g, cap, cur, rfl, h3, h4⟩
  · exact Or.inl h2
  · exact Or.inr ⟨g, cap, cur, rfl, Nat.le_trans hb h3, h4⟩
theorem IsNums.keep {w w' : World} {v : Value} {l : List Nat} {L : List Nat} (h : IsNums w v l) (t : Tch L w w') (hn : ∀ k, v.ownBlock = some k → k ∉ L) : IsNums w' v l := own_keep h t hn
theorem IsNums.nil (w : World) : IsNums w (.slice none 0 0) [] := World.ownsRow_nil _ _ _ _
/-- The value written out. -/
theorem IsNums.cases {w : World} {v : Value} {l : List Nat} (h : IsNums w v l) : v = .slice none 0 0 ∧ l = [] ∨
    ∃ g cap, v = .slice (some ⟨g, 0, none⟩) l.length cap ∧ g < w.heap.size ∧ ∀ k, k < l.length → w.cell? ⟨g, k, none⟩ = some (.int .i64 ((l.getD k 0 : Nat) : Int)) := by
  rcases h.2 with ⟨h1, h2⟩ | ⟨g, cap, cur, h1, _, hb, _⟩
  · exact Or.inl ⟨h1, List.length_eq_zero_iff.1 h2⟩
  · refine Or.inr ⟨g, cap, h1, lt_of_block hb, fun k hk => ?_⟩
    subst h1
    have := World.ownsRow.cells h rfl k (.int .i64 ((l.getD k 0 : Nat) : Int)) (by
      rw [List.getElem?_map, List.getD_eq_getElem?_getD, List.getElem?_eq_getElem hk]; rfl)
    rw [add_mk, Nat.zero_add] at this
    exact this
theorem Tch.belowNew {w a b : World} (t : Tch [] w a) (h : Below w.heap.size a b) : Tch [] w b :=
  ⟨h.os.trans t.os, h.tape.trans t.tape, h.output.trans t.output, Nat.le_trans t.size h.size, fun k hk hn => (h.block k hk).trans (t.block k hk hn)⟩
theorem tdrewN {L : List Nat} {a w : World} (h : Tch L a w) (n : Nat) : Tch L a (w.drewN n) := ⟨h.os, h.tape, h.output, h.size, h.block⟩
/-- A call that leaves the world alone, in a region that only reads. -/
theorem quietSame' {P : Program} {f : FuncId} {args : Array Value} {w : World} {n : Nat} {v : Value}
    (h : Calls P f args (w.drewN n) fun e w' => e = .returned v ∧ w.drewN n = w') : Calls P f args (w.drewN n) fun e w'' => e = .returned v ∧ ∃ m, w'' = w.drewN m :=
  h.mono fun _ _ ⟨he, hm⟩ => ⟨he, n, hm.symm⟩

theorem onDisk_any (jb b room : Nat) (i : Int) (w : World) (h : IsJn w jb b room) (hr : room ≤ 500) (h0 : -1000000 ≤ i) (h1 : i ≤ 1000000) :
    Calls Tryz.prog 33 #[.pointer (some ⟨jb, 0, none⟩), .int .i64 i] w fun e w' => e = .returned (.int .i64 (1 + room + i)) ∧ w = w' := by
  have c1 := h.c1
  go_enter Tryz.func33, Tryz.ntmps33
  go_wp2
  go_ret
  exact ⟨rfl, rfl⟩

theorem jlen_any (jb b bs room : Nat) (D : Ds) (w : World) (h : IsJn w jb b room) (hd : IsDs w b bs D) (hr : room ≤ 500) :
    Calls Tryz.prog 12 #[.pointer (some ⟨jb, 0, none⟩)] w fun e w' => e = .returned (.int .i64 (jlen D room : Nat)) ∧ w = w' := by
  have c0 := h.c0
  have hl := hd.len
  have HL := Lib.hid (dlen b bs D w hd)
  have HO := Lib.hid (onDisk_any jb b room 0 w h hr (by omega) (by omega))
  have HM : Hid (max ((D.texts.length : Int) - (1 + (room : Int) + 0)) 0 = ((jlen D room : Nat) : Int)) := by show _ = _; unfold jlen; omega
  go_enter Tryz.func12, Tryz.ntmps12
  go_wp2_with (first | (go_at_call 32; refine HL.out.mono ?_; rintro e w1 ⟨rfl, rfl⟩) | (go_at_call 33; refine HO.out.mono ?_; rintro e w1 ⟨rfl, rfl⟩))
  go_ret
  refine ⟨?_, rfl⟩
  rw [← HM.out]
  simp
theorem jlen_nil (w : World) :
    Calls Tryz.prog 12 #[.pointer none] w fun e w' => e = .returned (.int .i64 0) ∧ w = w' := by
  go_enter Tryz.func12, Tryz.ntmps12
  go_wp2
  go_ret
  exact ⟨rfl, rfl⟩
theorem has_yes (jb b bs room : Nat) (D : Ds) (i : Int) (w : World) (h : IsJn w jb b room) (hd : IsDs w b bs D) (hr : room ≤ 500) (h0 : 0 ≤ i) (h1 : i < jlen D room) :
    Calls Tryz.prog 36 #[.pointer (some ⟨jb, 0, none⟩), .int .i64 i] w fun e w' => e = .returned (.bool true) ∧ w = w' := by
  have HL := Lib.hid (jlen_any jb b bs room D w h hd hr)
  go_enter Tryz.func36, Tryz.ntmps36
  go_wp2_with (first | (go_at_call 12; refine HL.out.mono ?_; rintro e w1 ⟨rfl, rfl⟩))
  go_ret
  exact ⟨rfl, rfl⟩
theorem has_no (jb b bs room : Nat) (D : Ds) (i : Int) (w : World) (h : IsJn w jb b room) (hd : IsDs w b bs D) (hr : room ≤ 500) (h0 : i < 0 ∨ jlen D room ≤ i) :
    Calls Tryz.prog 36 #[.pointer (some ⟨jb, 0, none⟩), .int .i64 i] w fun e w' => e = .returned (.bool false) ∧ w = w' := by
  have HL := Lib.hid (jlen_any jb b bs room D w h hd hr)
  by_cases hi : i < 0
  · have e1 : decide (0 ≤ i) = false := by simp; omega
    clear h0
    go_enter Tryz.func36, Tryz.ntmps36
    go_wp2
    go_ret
    exact ⟨rfl, rfl⟩
  · have e1 : 0 ≤ i := by omega
    have e2 : decide (i < ((jlen D room : Nat) : Int)) = false := by simp; omega
    clear h0 hi
    go_enter Tryz.func36, Tryz.ntmps36
    go_wp2_with (first | (go_at_call 12; refine HL.out.mono ?_; rintro e w1 ⟨rfl, rfl⟩))
    go_ret
    exact ⟨rfl, rfl⟩

set_option maxRecDepth 100000 in
theorem jread_any (jb b bs room : Nat) (D : Ds) (i : Int) (w : World) (h : IsJn w jb b room) (hd : IsDs w b bs D) (hr : room ≤ 500) :
    Calls Tryz.prog 14 #[.pointer (some ⟨jb, 0, none⟩), .int .i64 i] w fun e w' => e = .returned (.tuple #[.string (jrtext room D i), .int .i64 (jrcode room D i)]) ∧ (IsDs w' b bs D ∧ Tch [b] w w') := by
  by_cases hi : i < 0 ∨ jlen D room ≤ i
  · have HN := Lib.hid (has_no jb b bs room D i w h hd hr hi)
    have HF : Hid (jrtext room D i = ⟨#[]⟩ ∧ jrcode room D i = 10 ∧ IsDs w b bs D) := ⟨by unfold jrtext; rw [if_pos hi], by unfold jrcode; rw [if_pos hi], hd⟩
    clear hi hd
    go_enter Tryz.func14, Tryz.ntmps14
    go_wp2_with (first | (go_at_call 36; refine HN.out.mono ?_; rintro e w1 ⟨rfl, rfl⟩))
    go_ret2
    refine ⟨?_, HF.out.2.2, Tch.refl _ _⟩
    rw [HF.out.1, HF.out.2.1]
    rfl
  · have hlen := hd.len
    have hjl : jlen D room ≤ 16384 := by unfold jlen; omega
    have HN := Lib.hid (has_yes jb b bs room D i w h hd hr (by omega) (by omega))
    have HF : Hid (jrtext room D i = D.rtext (1 + room + i) ∧ jrcode room D i = D.rcode (1 + room + i)) := ⟨by unfold jrtext; rw [if_neg hi]; congr 1; omega, by unfold jrcode; rw [if_neg hi]; congr 1; omega⟩
    have hd1 := hd.keep (Tch.refl [] w).drew (by simp) (by simp)
    have h1 : IsJn w.drew jb b room := h.keep (Tch.refl [] w).drew (by simp)
    have c0 := h.c0
    have HO := Lib.hid (onDisk_any jb b room i w.drew h1 hr (by omega) (by omega))
    have HR := Lib.hid (dread b bs D (1 + room + i) w.drew hd1)
    rw [← HF.out.1, ← HF.out.2] at HR
    clear hi hd hd1 h1 HF
    generalize jrtext room D i = t at HR ⊢
    generalize jrcode room D i = c at HR ⊢
    go_enter Tryz.func14, Tryz.ntmps14
    go_wp2_with (first | (go_at_call 36; refine HN.out.mono ?_; rintro e w1 ⟨rfl, rfl⟩))
    go_region_with (first | (go_at_call 33; refine HO.out.mono ?_; rintro e w1 ⟨rfl, rfl⟩) | (go_at_call 27; refine HR.out.mono ?_; rintro e w1 ⟨rfl, hd2, t2⟩))
    all_goals
      go_wp2
      go_ret2

      refine ⟨?_, hd2, ?_⟩
      · rfl
      · exact (Tch.refl [b] w).drew.trans t2
theorem jread_nil (i : Int) (w : World) :
    Calls Tryz.prog 14 #[.pointer none, .int .i64 i] w fun e w' => e = .returned (.tuple #[.string ⟨#[]⟩, .int .i64 1]) ∧ w = w' := by
  go_enter Tryz.func14, Tryz.ntmps14
  go_wp2
  go_ret2
  exact ⟨rfl, rfl⟩
end Go.Proofs.YtclnhgfionfbbaaGreatDoor
