/-
  'headOf' of package journal: the bytes of a head. Conditions: at most 500 numbers, each below 2^63.
-/
import Derived.Test.YtclnhgfionfbbaaGreatDoorJn
namespace Go.Proofs.YtclnhgfionfbbaaGreatDoor
open Go.RowKit
set_option linter.unusedVariables false

/-- A head's bytes as far as the first k numbers. -/
def hk (l : List Nat) (k : Nat) : List UInt8 := ub l.length ++ (l.take k).flatMap ub
theorem hk_all (l : List Nat) : hdb l = ⟨(hk l l.length).toArray⟩ := by unfold hdb hk; rw [List.take_length]
theorem hk_step (l : List Nat) (k : Nat) (h : k < l.length) : hk l (k + 1) = hk l k ++ ub (l.getD k 0) := by
  unfold hk
  rw [List.take_succ_eq_append_getElem h, List.flatMap_append, List.getD_eq_getElem?_getD, List.getElem?_eq_getElem h]
  simp
theorem ub_le (v : Nat) (h : v < 9223372036854775808) : (ub v).length ≤ 10 := ub_len 9 v (by simp; omega)
theorem hk_len (l : List Nat) (hb : ∀ a ∈ l, a < 9223372036854775808) (hl : l.length ≤ 500) : ∀ k, k ≤ l.length → (hk l k).length ≤ 10 + 10 * k := by
  intro k
  induction k with
  | zero => intro _; unfold hk; simp; have := ub_le l.length (by omega); omega
  | succ k ih =>
    intro h
    rw [hk_step l k (by omega), List.length_append]
    have h1 := ih (by omega)
    have h2 := ub_le (l.getD k 0) (hb _ (by rw [List.getD_eq_getElem?_getD, List.getElem?_eq_getElem (by omega)]; exact List.getElem_mem _))
    omega
theorem cells_app (a b : List UInt8) : Lib.byteCells a ++ Lib.strCells ⟨b.toArray⟩ = Lib.byteCells (a ++ b) := by
  simp [Lib.byteCells, Lib.strCells]

def HeRel (w : World) (l : List Nat) (v13 : Value) (wr : World) : Prop :=
  ∃ k : Nat, k ≤ l.length ∧ v13 = .int .i64 k ∧ Lib.IsBuilder 116 5 w.heap.size w.heap.size (Lib.byteCells (hk l k)) wr ∧ Tch [] w wr

theorem bld_keep {w w' : World} {B b : Nat} {bs : List Value} {L : List Nat} {T e : TypeId} (h : Lib.IsBuilder T e B b bs w) (t : Tch L w w') (hn : ∀ k ∈ L, k < B) : Lib.IsBuilder T e B b bs w' := by
  have key : ∀ p, Lib.BuilderAt T e B b p bs w → Lib.BuilderAt T e B b p bs w' := fun p h => by
    obtain ⟨h1, v, h2, h3, h4⟩ := h
    exact ⟨h1, v, t.keep h2 (fun hm => by have := hn b hm; omega), own_keep h3 t (fun k hk hm => by have := hn k hm; have := (h3.lt k hk).1; omega), h4⟩
  rcases h with h | h
  · exact Or.inl (key _ h)
  · exact Or.inr (key _ h)
theorem hd_nil : hdb [] = ⟨(ub 0).toArray⟩ := by simp [hdb]

set_option maxRecDepth 100000 in
theorem headOf_nil (w : World) : Calls Tryz.prog 35 #[.slice none 0 0] w fun e w' => e = .returned (.string (hdb [])) ∧ Tch [] w w' := by
  have hB := Lib.fresh_isBuilder 116 5 w
  have HU := Lib.hid (fun w1 => uint_any 0 w1 (by omega))
  go_enter Tryz.func35, Tryz.ntmps35
  go_wp2_with fail
  refine (HU.out _).mono ?_
  rintro e w1 ⟨rfl, t1⟩
  have T1 := ((Tch.refl [] w).alloc (.cells #[.pointer none, .slice none 0 0] 116)).trans t1
  have hB1 := bld_keep hB t1 (by simp)
  clear hB t1
  go_wp2_with fail
  refine (bwrite_any w.heap.size w.heap.size [] ⟨(ub 0).toArray⟩ _ hB1 (by rw [ub_small (by omega)]; simp [ByteArray.size]) T1.size).mono ?_
  rintro e w2 ⟨rfl, hB2, b2⟩
  have T2 := T1.belowNew b2
  rw [show ([] : List Value) = Lib.byteCells [] from rfl, cells_app] at hB2
  clear hB1 T1 b2
  go_wp2_with fail
  refine wp_loop_rounds 1 ?_
  rw [rounds_succ]
  go_wp2_with fail
  refine (Tryz.Builder_String_any w.heap.size w.heap.size _ w2 hB2 T2.size).mono ?_
  rintro e w3 ⟨rfl, b3⟩
  go_wp2_with fail
  go_ret
  refine ⟨?_, T2.belowNew b3⟩
  rw [hd_nil]
  rfl

set_option maxRecDepth 100000 in
set_option maxHeartbeats 1000000 in
theorem headOf_any (v : Value) (l : List Nat) (w : World) (hv : IsNums w v l) (hl : l.length ≤ 500) (hb : ∀ a ∈ l, a < 9223372036854775808) :
    Calls Tryz.prog 35 #[v] w fun e w' => e = .returned (.string (hdb l)) ∧ Tch [] w w' := by
  rcases hv.cases with ⟨rfl, rfl⟩ | ⟨g, cap, rfl, hg, hc⟩
  · exact headOf_nil w
  have hB := Lib.fresh_isBuilder 116 5 w
  have HU : Hid (∀ n : Nat, n < 9223372036854775808 → ∀ w1, _) := fun n hn w1 => uint_any n w1 (by omega)
  have HL := Lib.hid (hk_len l hb hl)
  have HC := Lib.hid hc
  have HB := Lib.hid hb
  clear hc hb hv
  go_enter Tryz.func35, Tryz.ntmps35
  go_wp2_with fail
  refine (HU.out _ (by omega) _).mono ?_
  rintro e w1 ⟨rfl, t1⟩
  have T1 := ((Tch.refl [] w).alloc (.cells #[.pointer none, .slice none 0 0] 116)).trans t1
  have hB1 := bld_keep hB t1 (by simp)
  clear hB t1
  go_wp2_with fail
  refine (bwrite_any w.heap.size w.heap.size [] ⟨(ub l.length).toArray⟩ _ hB1 (by have := ub_le l.length (by omega); simp [ByteArray.size]; omega) T1.size).mono ?_
  rintro e w2 ⟨rfl, hB2, b2⟩
  have T2 := T1.belowNew b2
  rw [show ([] : List Value) = Lib.byteCells [] from rfl, cells_app] at hB2
  clear hB1 T1 b2
  go_wp2_with fail
  go_loopw [13] (fun v13 wr => HeRel w l v13 wr) (fun v13 _ => l.length - (intOf v13).toNat)
  case atStart => exact ⟨0, by omega, rfl, by simpa [hk] using hB2, T2⟩
  case round =>
    obtain ⟨k, hk, rfl, hbk, T⟩ := hrel
    by_cases hkl : k < l.length
    · have hck := HC.out k hkl
      rw [← T.cell hg (by simp)] at hck
      have hx : l.getD k 0 < 9223372036854775808 := HB.out _ (by rw [List.getD_eq_getElem?_getD, List.getElem?_eq_getElem hkl]; exact List.getElem_mem _)
      have HS := Lib.hid (hk_step l k hkl)
      have HUK := HL.out k hk
      generalize l.getD k 0 = x at hck hx HS
      have hux := ub_le x hx
      have hxw : IntKind.u64.wrap (x : Int) = (x : Int) := by rw [IntKind.wrap_u64]; omega
      go_wp2_with fail
      refine (HU.out x hx _).mono ?_
      rintro e w5 ⟨rfl, t5⟩
      have hb5 := bld_keep hbk t5 (by simp)
      have T5 := T.trans t5
      go_wp2_with fail
      refine (bwrite_any w.heap.size w.heap.size _ ⟨(ub x).toArray⟩ _ hb5 (by rw [Lib.byteCells_length]; simp [ByteArray.size]; omega) T5.size).mono ?_
      rintro e w6 ⟨rfl, hb6, b6⟩
      rw [cells_app] at hb6
      go_wp2_with fail
      go_roundw
      case rel => exact ⟨k + 1, by omega, by go_num, by rw [HS.out]; exact hb6, T5.belowNew b6⟩
      case measure => simp [intOf]; omega
    · obtain rfl : k = l.length := by omega
      go_wp2_with fail
      refine (Tryz.Builder_String_any w.heap.size w.heap.size _ wr hbk T.size).mono ?_
      rintro e w3 ⟨rfl, b3⟩
      go_wp2_with fail
      go_ret
      refine ⟨?_, T.belowNew b3⟩
      rw [hk_all]
      rfl
end Go.Proofs.YtclnhgfionfbbaaGreatDoor
