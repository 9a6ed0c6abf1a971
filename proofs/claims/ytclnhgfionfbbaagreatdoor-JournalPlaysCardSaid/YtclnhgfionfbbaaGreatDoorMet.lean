/-
  'metBefore' of package journal: a map that counts numbers, each met at most once so far. Condition: the map is the call's own.
-/
import Derived.Test.YtclnhgfionfbbaaGreatDoorUint
import Derived.Maps.OwnOps
import Derived.Maps.Views
namespace Go.Proofs.YtclnhgfionfbbaaGreatDoor
open Go.RowKit Go.Maps
set_option linter.unusedVariables false

theorem Tryz.keyInt : Keyed Tryz.prog 3 := int_keyed Tryz.underlying3
theorem Tryz.zeroInt (w : World) : (zeroValue 3).run Tryz.prog w = .ok (.int .i64 0) w := by kernel_rfl

/-- Block mb is a map of at most n entries that holds 1 for each number of S, and nothing for others. -/
def MapOf (w : World) (mb n : Nat) (S : List Int) : Prop :=
  ∃ D : DataW Unit, w.ownsMap Tryz.prog 3 (plainElem Tryz.prog 3) mb n D ∧ ∀ x : Int, D.atKey (.int .i64 x) (.lit (.int .i64 0)) = .lit (.int .i64 (if x ∈ S then 1 else 0))

theorem MapOf.kept {w w' : World} {mb n : Nat} {S : List Int} {L : List Nat} (h : MapOf w mb n S) (t : Tch L w w') (hn : mb ∉ L) : MapOf w' mb n S := by
  obtain ⟨D, ho, ha⟩ := h
  have hlt := ho.lt
  obtain ⟨es, clock, hb, F, hs, hD⟩ := ho
  exact ⟨D, ⟨es, clock, (t.block mb hlt hn).trans hb, F, hs, hD⟩, ha⟩
theorem MapOf.lt {w : World} {mb n : Nat} {S : List Int} (h : MapOf w mb n S) : mb < w.heap.size := by
  obtain ⟨D, ho, ha⟩ := h
  exact ho.lt
theorem MapOf.made (w : World) : MapOf (w.alloc (.map #[] 0)) w.heap.size 0 [] :=
  ⟨_, World.ownsMap_made _ _ _ _, fun x => by simp [DataW.atKey]⟩
theorem Tch.mapped {w a b : World} {row : Nat} {L : List Nat} (t : Tch L w a) (hg : a.grownBy b (some row)) (h : row ∈ L) : Tch L w b :=
  ⟨hg.os.trans t.os, hg.tape.trans t.tape, hg.output.trans t.output, Nat.le_trans t.size hg.size, fun k hk hn => (hg.block k (Nat.lt_of_lt_of_le hk t.size) (fun e => hn (by cases e; exact h))).trans (t.block k hk hn)⟩

theorem met_num {d : DataW Unit} {a b : Int} (h1 : d = .lit (.int .i64 a)) (h2 : d = .lit (.int .i64 b)) : a = b := by
  have h := h1.symm.trans h2
  simpa using h

/-- What metBefore leaves. -/
def MetPost (w : World) (mb n : Nat) (S : List Int) (x : Int) (w' : World) : Prop := Tch [mb] w w' ∧ (x ∉ S → MapOf w' mb (n + 1) (S ++ [x]))

set_option maxRecDepth 100000 in
theorem met_yes (mb n : Nat) (S : List Int) (x : Int) (w : World) (h : MapOf w mb n S) (hx : (Lit.int .i64 x).wf = true) (hn : n ≤ 10000) (hin : x ∈ S) :
    Calls Tryz.prog 48 #[.map (some mb), .int .i64 x] w fun e w' => e = .returned (.bool true) ∧ Tch [mb] w w' := by
  obtain ⟨D, ho, ha⟩ := h
  have hx1 := ha x
  rw [if_pos hin] at hx1
  have hkey := keyOf_int_mk Tryz.underlying3 hx
  have HA := Lib.hid ha
  have HX := Lib.hid hx1
  have HM : Hid (IsMap D) := by obtain ⟨es, clock, _, _, _, hD⟩ := ho; exact ⟨_, hD⟩
  clear ha hx1 hin
  have tok : True := trivial
  go_enter Tryz.func48, Tryz.ntmps48
  go_wp2_with (first
    | (at_lookup; have _t := tok; refine wpList_lookup_own_int _ rfl _ _ 111 rfl 3 3 .i64 Tryz.keyInt Tryz.underlying111 Tryz.underlying3 (Tryz.zeroInt _) mb n D rfl ho _ _ rfl hkey ?_; intro c hat hwc; obtain rfl : c = 1 := met_num hat HX.out; clear tok)
    | (at_mapUpdate; refine wpList_mapUpdate_own _ rfl _ _ _ 111 rfl 3 3 Tryz.keyInt Tryz.underlying111 _ mb n D rfl ho (by unfold maxLen; omega) _ _ _ rfl rfl hkey _ [] (plainElem_int Tryz.underlying3 (a := 2) (by decide)) ?_; intro w1 hown1 hgrow1)
    | (at_lookup; refine wpList_lookup_own_int _ rfl _ _ 111 rfl 3 3 .i64 Tryz.keyInt Tryz.underlying111 Tryz.underlying3 (Tryz.zeroInt _) mb (n + 1) _ rfl hown1 _ _ rfl hkey ?_; intro c2 hat2 hwc2; obtain rfl : c2 = 2 := met_num hat2 (atKey_put_same HM.out (by simp [WideAt.IsKeyLit]) _ _)))
  go_ret
  exact ⟨rfl, (Tch.refl [mb] w).mapped hgrow1 (by simp)⟩

set_option maxRecDepth 100000 in
theorem met_no (mb n : Nat) (S : List Int) (x : Int) (w : World) (h : MapOf w mb n S) (hx : (Lit.int .i64 x).wf = true) (hn : n ≤ 10000) (hin : x ∉ S) :
    Calls Tryz.prog 48 #[.map (some mb), .int .i64 x] w fun e w' => e = .returned (.bool false) ∧ (MapOf w' mb (n + 1) (S ++ [x]) ∧ Tch [mb] w w') := by
  obtain ⟨D, ho, ha⟩ := h
  have hx1 := ha x
  rw [if_neg hin] at hx1
  have hkey := keyOf_int_mk Tryz.underlying3 hx
  have HA := Lib.hid ha
  have HX := Lib.hid hx1
  have HM : Hid (IsMap D) := by obtain ⟨es, clock, _, _, _, hD⟩ := ho; exact ⟨_, hD⟩
  clear ha hx1 hin
  have tok : True := trivial
  go_enter Tryz.func48, Tryz.ntmps48
  go_wp2_with (first
    | (at_lookup; have _t := tok; refine wpList_lookup_own_int _ rfl _ _ 111 rfl 3 3 .i64 Tryz.keyInt Tryz.underlying111 Tryz.underlying3 (Tryz.zeroInt _) mb n D rfl ho _ _ rfl hkey ?_; intro c hat hwc; obtain rfl : c = 0 := met_num hat HX.out; clear tok)
    | (at_mapUpdate; refine wpList_mapUpdate_own _ rfl _ _ _ 111 rfl 3 3 Tryz.keyInt Tryz.underlying111 _ mb n D rfl ho (by unfold maxLen; omega) _ _ _ rfl rfl hkey _ [] (plainElem_int Tryz.underlying3 (a := 1) (by decide)) ?_; intro w1 hown1 hgrow1)
    | (at_lookup; refine wpList_lookup_own_int _ rfl _ _ 111 rfl 3 3 .i64 Tryz.keyInt Tryz.underlying111 Tryz.underlying3 (Tryz.zeroInt _) mb (n + 1) _ rfl hown1 _ _ rfl hkey ?_; intro c2 hat2 hwc2; obtain rfl : c2 = 1 := met_num hat2 (atKey_put_same HM.out (by simp [WideAt.IsKeyLit]) _ _)))
  go_ret
  refine ⟨rfl, ⟨_, hown1, fun y => ?_⟩, (Tch.refl [mb] w).mapped hgrow1 (by simp)⟩
  by_cases hyx : y = x
  · subst hyx
    rw [atKey_put_same HM.out (by simp [WideAt.IsKeyLit]), if_pos (by simp)]
  · rw [atKey_put_other (by simpa using hyx), HA.out y]
    by_cases hy : y ∈ S
    · rw [if_pos hy, if_pos (by simp [hy])]
    · rw [if_neg hy, if_neg (by simp [hy, hyx])]
end Go.Proofs.YtclnhgfionfbbaaGreatDoor
