/-
  The document's own journal (package chandlerref03): what it is in memory, Len, Read, head. Conditions: the journal is one that its Open makes, of room at most 500, over a disk.
-/
import Derived.Test.YtclnhgfionfbbaaGreatDoorRefR
import Derived.Test.YtclnhgfionfbbaaGreatDoorRRdu
import Derived.Test.YtclnhgfionfbbaaGreatDoorRhd
import Derived.Test.YtclnhgfionfbbaaGreatDoorSec
namespace Go.Proofs.YtclnhgfionfbbaaGreatDoor
open Go.RowKit
set_option linter.unusedVariables false

/-- Block kb is the document's journal of this room over its disk in block b. -/
def IsRj (w : World) (kb b room : Nat) : Prop := w.heap[kb]? = some (.cells #[.pointer (some ⟨b, 0, none⟩), .int .i64 room] 95 (0, 0))
theorem IsRj.c0 {w : World} {kb b room : Nat} (h : IsRj w kb b room) : w.cell? ⟨kb, 0, none⟩ = some (.pointer (some ⟨b, 0, none⟩)) := blk_cell h 0
theorem IsRj.c1 {w : World} {kb b room : Nat} (h : IsRj w kb b room) : w.cell? ⟨kb, 1, none⟩ = some (.int .i64 room) := blk_cell h 1
theorem IsRj.keep {L : List Nat} {w w' : World} {kb b room : Nat} (h : IsRj w kb b room) (t : Tch L w w') (hn : kb ∉ L) : IsRj w' kb b room := t.keep h hn
theorem IsRj.lt {w : World} {kb b room : Nat} (h : IsRj w kb b room) : kb < w.heap.size := lt_of_block h
theorem IsRf.c0 {w : World} {b bs : Nat} {D : Ds} (h : IsRf w b bs D) : w.cell? ⟨b, 0, none⟩ = some (.slice (some ⟨bs, 0, none⟩) D.texts.length D.texts.length) := by
  obtain ⟨R, hk, hl, _⟩ := h
  rw [hk.c0, hl]
theorem IsRf.len {w : World} {b bs : Nat} {D : Ds} (h : IsRf w b bs D) : D.texts.length ≤ 16384 := by
  obtain ⟨R, hk, hl, _⟩ := h
  have := hk.len
  omega

set_option maxRecDepth 100000 in
theorem rjlen_any (kb b bs room : Nat) (D : Ds) (w : World) (h : IsRj w kb b room) (hd : IsRf w b bs D) (hr : room ≤ 500) :
    Calls Tryz.prog 20 #[.pointer (some ⟨kb, 0, none⟩)] w fun e w' => e = .returned (.int .i64 (jlen D room : Nat)) ∧ ∃ m, w' = w.drewN m := by
  have c0 := h.c0
  have c1 := h.c1
  have d0 := hd.c0
  have hl := hd.len
  by_cases hlt : D.texts.length < room + 1
  · have HM : Hid (((jlen D room : Nat) : Int) = 0) := by show _ = _; unfold jlen; omega
    have e1 : (D.texts.length : Int) - (room : Int) - 1 < 0 := by omega
    clear hd hlt
    generalize jlen D room = q at HM ⊢
    generalize D.texts.length = m at d0 hl e1
    go_enter Tryz.func20, Tryz.ntmps20
    go_wp2_with fail
    go_quiet (fail)
    go_wp2
    go_ret
    exact ⟨by rw [HM.out]; rfl, _, rfl⟩
  · have HM : Hid (((jlen D room : Nat) : Int) = (D.texts.length : Int) - (room : Int) - 1) := by show _ = _; unfold jlen; omega
    have e1 : decide ((D.texts.length : Int) - (room : Int) - 1 < 0) = false := by simp; omega
    clear hd hlt
    generalize jlen D room = q at HM ⊢
    generalize D.texts.length = m at d0 hl e1 HM
    go_enter Tryz.func20, Tryz.ntmps20
    go_wp2_with fail
    go_quiet (fail)
    go_wp2
    go_ret
    exact ⟨by rw [HM.out]; rfl, _, rfl⟩

theorem jjoin (a b : List UInt8) : (⟨a.toArray⟩ : ByteArray) ++ ⟨b.toArray⟩ = ⟨(a ++ b).toArray⟩ := by
  apply ba_ext
  rw [Joins.data_append]
theorem ats_get (cs : List (Int × ByteArray)) (k : Nat) (c : Int × ByteArray) (h : cs[k]? = some c) : (ats cs).getD k 0 = c.1.toNat := by
  unfold ats
  rw [List.getD_eq_getElem?_getD, List.getElem?_map, h]
  rfl
theorem ats_len (cs : List (Int × ByteArray)) : (ats cs).length = cs.length := by unfold ats; simp

/-- What holds at the head of each round. -/
def RhdRel (w : World) (l : List Nat) (v3 v4 : Value) (wr : World) : Prop :=
  ∃ k : Nat, k ≤ l.length ∧ v4 = .int .i64 k ∧ v3 = .string ⟨(hk l k).toArray⟩ ∧ Tch [] w wr

set_option maxRecDepth 100000 in
set_option maxHeartbeats 1000000 in
theorem rjhead_any (a : Option Addr) (len cap cb o : Nat) (cs : List (Int × ByteArray)) (w : World) (h : IsChs w a len cb o cs) (hl : cs.length ≤ 500) (hb : ∀ c ∈ cs, 0 ≤ c.1) :
    Calls Tryz.prog 39 #[.slice a len cap] w fun e w' => e = .returned (.string (hdb (ats cs))) ∧ Tch [] w w' := by
  obtain rfl := h.hlen
  have HC : Hid (∀ wr, Tch [] w wr → IsChs wr a cs.length cb o cs) := fun wr t => h.keep t (by simp)
  have HU : Hid (∀ n : Nat, n < 9223372036854775808 → ∀ w1, _) := fun n hn w1 => ruint_any n w1 (by omega)
  have hbb : ∀ x ∈ ats cs, x < 9223372036854775808 := fun x hx => by
    unfold ats at hx
    obtain ⟨c, hc, rfl⟩ := List.mem_map.1 hx
    have := h.fit c hc
    have := hb c hc
    omega
  have HKL := Lib.hid (hk_len (ats cs) hbb (by rw [ats_len]; exact hl))
  have HB := Lib.hid (And.intro hb (And.intro (ats_len cs) h.fit))
  have hcw : IntKind.u64.wrap (cs.length : Int) = (cs.length : Int) := by rw [IntKind.wrap_u64]; omega
  clear hbb hb h
  go_enter Tryz.func39, Tryz.ntmps39
  go_wp2_with fail
  refine (HU.out _ (by omega) _).mono ?_
  rintro e w1 ⟨rfl, t1⟩
  go_wp2_with fail
  go_loopw [3, 4] (fun v3 v4 wr => RhdRel w (ats cs) v3 v4 wr) (fun _ v4 _ => cs.length - (intOf v4).toNat)
  case atStart => exact ⟨0, by omega, rfl, by rw [hk, List.take_zero, HB.out.2.1]; simp, t1⟩
  case round =>
    obtain ⟨k, hk0, rfl, rfl, T⟩ := hrel
    by_cases hkl : k < cs.length
    · have hget := List.getElem?_eq_getElem hkl
      have hcw2 := HC.out wr T
      obtain ⟨x0, x1⟩ := hcw2.row k _ hget
      have ha : a = some ⟨cb, o, none⟩ := by
        rcases hcw2.at_ with h1 | ⟨h1, _⟩
        · omega
        · exact h1
      subst ha
      have hg := ats_get cs k _ hget
      have h0 := HB.out.1 _ (List.getElem_mem hkl)
      have h1 := (HB.out.2.2 _ (List.getElem_mem hkl)).2.1
      have HS := Lib.hid (hk_step (ats cs) k (by rw [ats_len]; exact hkl))
      have HKK := HKL.out k (by rw [ats_len]; omega)
      generalize cs[k] = c at x0 x1 hg h0 h1
      obtain ⟨i, x⟩ := c
      obtain ⟨n, rfl⟩ := Int.eq_ofNat_of_zero_le h0
      simp only at x0 x1 hg h1
      rw [hg, Int.toNat_natCast] at HS
      have hux := ub_le n (by omega)
      have hnw : IntKind.u64.wrap (n : Int) = (n : Int) := by rw [IntKind.wrap_u64]; omega
      have hsum : ¬ 9223372036854775807 < (⟨(hk (ats cs) k).toArray⟩ : ByteArray).size + (⟨(ub n).toArray⟩ : ByteArray).size := by
        simp [ByteArray.size]; omega
      have HJ := Lib.hid (jjoin (hk (ats cs) k) (ub n))
      clear hg hcw2 x1 h0 hget
      go_wp2_with fail
      refine (HU.out n (by omega) _).mono ?_
      rintro e w5 ⟨rfl, t5⟩
      have T5 := T.trans t5
      go_wp2_with fail
      go_roundw
      case rel => exact ⟨k + 1, by rw [ats_len]; omega, by go_num, by rw [HS.out, ← HJ.out], T5⟩
      case measure => simp [intOf]; omega
    · obtain rfl : k = cs.length := by rw [ats_len] at hk0; omega
      have HF : Hid (hdb (ats cs) = ⟨(hk (ats cs) cs.length).toArray⟩) := by
        show _ = _
        rw [hk_all, ats_len]
      go_wp2_with fail
      go_ret
      refine ⟨?_, T⟩
      rw [HF.out]
      rfl
end Go.Proofs.YtclnhgfionfbbaaGreatDoor
