/-
  'wakes' of chandlerlaw03: a journal that keeps what is committed.
-/
import Derived.Test.YtclnhgfionfbbaaGreatDoorJw
namespace Go.Proofs.YtclnhgfionfbbaaGreatDoor
open Go.RowKit
set_option linter.unusedVariables false

theorem wk_cut : (pad ⟨#[98]⟩).extract 0 2 = ⟨#[98, 0]⟩ := by
  apply ba_ext
  rw [Lib.extract_data]
  rfl

set_option maxRecDepth 100000 in
set_option maxHeartbeats 1000000 in
theorem jwakes_any (w : World) : Calls Tryz.prog 6 #[] w fun e w' => e = .returned (.bool true) ∧ Tch [] w w' := by
  have HN := Lib.hid (dnew 10 w (by omega) (by omega))
  rw [show many 10 = 10 from rfl] at HN
  go_enter Tryz.func6, Tryz.ntmps6
  go_wp2_with fail
  refine HN.out.mono ?_
  rintro e w1 ⟨rfl, hd1, t1⟩
  have hlt := hd1.lt
  clear HN
  generalize hB : w.heap.size = B at hd1 hlt ⊢
  have HB := Lib.hid hB
  clear hB
  go_wp2_with fail
  refine (open_same (B + 1) B 4 (freshD 10) w1 hd1 (by simp [freshD]) (jopen_clean rfl (by simp [freshD]) (by simp [freshD]) (fresh_clean 10) (by omega) (by omega))).mono ?_
  rintro e w2 ⟨jb, rfl, hjb, hJ2, hd2, t2⟩
  have T2 := t1.transNew t2 (by rw [HB.out]; simp)
  have hs : Seen (freshD 10) 4 [] (List.replicate 5 ⟨#[]⟩) := fresh_seen 10 4 (by omega) (by omega) (by omega)
  have HL := Lib.hid (jlen_any jb (B + 1) B 4 (freshD 10) w2 hJ2 hd2 (by omega))
  rw [show jlen (freshD 10) 4 = 5 from rfl] at HL
  have hC := blk_new w2 (.cells #[.int .i64 0, .string ⟨#[97]⟩, .int .i64 2, .string ⟨#[98]⟩] 65)
  have hch : IsChs (w2.alloc (.cells #[.int .i64 0, .string ⟨#[97]⟩, .int .i64 2, .string ⟨#[98]⟩] 65)) (some ⟨w2.heap.size, 0, none⟩) 2 w2.heap.size 0 [(0, ⟨#[97]⟩), (2, ⟨#[98]⟩)] := by
    refine ⟨rfl, Or.inr ⟨rfl, by simp⟩, fun k c hk => ?_, fun c hc => ?_⟩
    · match k, hk with
      | 0, hk => simp at hk; subst hk; exact ⟨blk_cell hC 0, blk_cell hC 1⟩
      | 1, hk => simp at hk; subst hk; exact ⟨blk_cell hC 2, blk_cell hC 3⟩
    · simp only [List.mem_cons, List.mem_nil_iff, or_false] at hc
      rcases hc with rfl | rfl <;> decide
  have hlt2 := hd2.lt
  have HCM := Lib.hid (commit_calm jb (B + 1) B 4 (freshD 10) (some ⟨w2.heap.size, 0, none⟩) 2 2 w2.heap.size 0 _ (List.replicate 5 ⟨#[]⟩) _ (hJ2.keep ((Tch.refl [] w2).alloc _) (by simp)) (hd2.keep ((Tch.refl [] w2).alloc _) (by simp) (by simp)) (by omega) (by omega) hch (fun _ => by omega) (by omega) (by simp [freshD]) rfl rfl hs (by omega) (by simp) (by decide))
  have hJA : IsJn (w2.alloc (.cells #[.int .i64 0, .string ⟨#[97]⟩, .int .i64 2, .string ⟨#[98]⟩] 65)) jb (B + 1) 4 := hJ2.keep ((Tch.refl [] w2).alloc _) (by simp)
  have TA := T2.alloc (.cells #[.int .i64 0, .string ⟨#[97]⟩, .int .i64 2, .string ⟨#[98]⟩] 65)
  clear hd1 t1 t2 hch hs hC
  go_wp2_with (first | (go_at_call 12; refine HL.out.mono ?_; rintro e w3 ⟨rfl, rfl⟩) | (go_at_call 13; refine HCM.out.mono ?_; rintro e w3 ⟨rfl, E, hd3, hon, hle, hse, hdn, t3⟩))
  have hJ3 := hJA.keep t3 (by simp; omega)
  have T3 := TA.transNew t3 (by have := HB.out; simp; omega)
  have HR := Lib.hid (read_seen jb (B + 1) B 4 E _ 2 w3 hJ3 hd3 (by omega) hon hse (by rw [upd_len]; simp))
  rw [show (upd (List.replicate 5 ⟨#[]⟩) [(0, ⟨#[97]⟩), (2, ⟨#[98]⟩)]).getD 2 ⟨#[]⟩ = ⟨#[98]⟩ from rfl] at HR
  rw [show (freshD 10).done = 0 from rfl] at hdn
  simp at hdn
  have HD := Lib.hid hdn
  have hps := pad_size ⟨#[98]⟩ (by decide)
  have hpc := wk_cut
  clear hse hon hle hdn hJ3
  generalize pad ⟨#[98]⟩ = x at HR hps hpc
  go_wp2_with fail
  refine HR.out.mono ?_
  rintro e w4 ⟨rfl, hd4, t4⟩
  have HW := Lib.hid (dwrites (B + 1) B E w4 hd4 (by rw [HD.out]; omega))
  rw [HD.out] at HW
  go_wp2_with (first | (go_at_call 15; refine HW.out.mono ?_; rintro e w5 ⟨rfl, rfl⟩))
  go_ret
  refine ⟨?_, T3.transNew t4 (by have := HB.out; simp; omega)⟩
  rfl
end Go.Proofs.YtclnhgfionfbbaaGreatDoor
