/-
  The law JournalRefuses, walked: for every list of changes it answers true and turns nothing that was there.
-/
import Derived.Test.YtclnhgfionfbbaaDoorHolds
namespace Go.Proofs.YtclnhgfionfbbaaDoor
open Go.RowKit
set_option linter.unusedVariables false

theorem ckc_codes (n : Nat) (l : List (Int × ByteArray)) : ∀ met, ckc n l met = 0 ∨ ckc n l met = 10 ∨ ckc n l met = 11 ∨ ckc n l met = 30 := by
  induction l with
  | nil => intro met; left; rfl
  | cons p l ih =>
    intro met
    rw [ckc]
    split
    · right; left; rfl
    · split
      · right; right; left; rfl
      · split
        · right; right; right; rfl
        · exact ih _
theorem make_strs (n : Nat) (w : World) (hn : n ≤ 16384) : (Instr.makeSlice 33 (.int .i64 n) (.int .i64 n)).run Tryd.prog w = .ok (.slice (some ⟨w.heap.size, 0, none⟩) n n) (w.alloc (.cells ((List.replicate n (⟨#[]⟩ : ByteArray)).map Value.string).toArray 9)) := by
  obtain ⟨i0, hi, hz0, hz1, hz2⟩ := info_parts Tryd.info_str
  have hmk := run_make (P := Tryd.prog) w 33 9 i0 (.string ⟨#[]⟩) Tryd.underlying33 hi hz0 .i64 .i64 n n (by omega) (by omega) (by rw [hz2]; omega) (by omega)
  rw [hz1, Nat.mul_one, show (n : Int).toNat = n from rfl, show Value.cells (.string ⟨#[]⟩) = #[.string ⟨#[]⟩] from rfl, made_strs] at hmk
  exact hmk

set_option maxRecDepth 100000 in
set_option maxHeartbeats 2000000 in
theorem refu_walk (a : Option Addr) (len cap cb o : Nat) (cs : List (Int × ByteArray)) (w : World) (hw : IsChs w a len cb o cs) (hlm : len ≤ 9223372036854775807) :
    Calls Tryd.prog 7 #[.slice a len cap] w fun e w' => e = .returned (.bool true) ∧ Tch [] w w' := by
  have HW := Lib.hid (fun w1 => jwakes_any w1)
  have HN := Lib.hid (dnew 12 w (by omega) (by omega))
  rw [show many 12 = 12 from rfl] at HN
  have hs : Seen (freshD 12) 3 [] (List.replicate 8 ⟨#[]⟩) := fresh_seen 12 3 (by omega) (by omega) (by omega)
  have hcase : jcommit 3 cs (freshD 12) = ((jcommit 3 cs (freshD 12)).1, freshD 12) ∧ ((jcommit 3 cs (freshD 12)).1 = 31 ∨ (jcommit 3 cs (freshD 12)).1 = 10 ∨ (jcommit 3 cs (freshD 12)).1 = 11 ∨ (jcommit 3 cs (freshD 12)).1 = 30) ∨ (jcommit 3 cs (freshD 12)).1 = 0 := by
    by_cases hl : 3 < cs.length
    · have e : jcommit 3 cs (freshD 12) = (31, freshD 12) := by unfold jcommit; rw [if_pos hl]
      left; rw [e]; exact ⟨rfl, Or.inl rfl⟩
    · by_cases hck : ckc 8 cs [] = 0
      · right
        exact ((jcommit_seen (D := freshD 12) rfl hs (by omega) (by omega) (by simp) (fun j => by simp only [freshD]; rw [rep_getD]; decide) (by omega) (by simpa using hck)).2 rfl).1
      · have e : jcommit 3 cs (freshD 12) = (ckc 8 cs [], freshD 12) := by
          unfold jcommit
          rw [if_neg hl, if_pos (Or.inl (by rw [hs.clean]; simpa using hck)), hs.clean]
          simp
        left; rw [e]
        have := ckc_codes 8 cs []
        refine ⟨rfl, ?_⟩
        simp only
        omega
  have HCH : Hid (∀ w1, Tch [] w w1 → IsChs w1 a len cb o cs) := fun w1 t => hw.keep t (by simp)
  have HCB : Hid (0 < len → cb < w.heap.size) := fun h0 => by
    rcases hw.at_ with h1 | ⟨_, h1⟩
    · omega
    · exact h1
  clear hw
  go_enter Tryd.func7, Tryd.ntmps7
  go_wp2_with fail
  refine HN.out.mono ?_
  rintro e w1 ⟨rfl, hd1, t1⟩
  have hlt := hd1.lt
  clear HN
  generalize hB : w.heap.size = B at hd1 hlt HCB ⊢
  have HB := Lib.hid hB
  clear hB
  go_wp2_with fail
  refine (open_same (B + 1) B 3 (freshD 12) w1 hd1 (by simp [freshD]) (jopen_clean rfl (by simp [freshD]) (by simp [freshD]) (fresh_clean 12) (by omega) (by omega))).mono ?_
  rintro e w2 ⟨jb, rfl, hjb, hJ2, hd2, t2⟩
  have T2 := t1.transNew t2 (by rw [HB.out]; simp)
  go_wp2_with fail
  refine (HW.out w2).mono ?_
  rintro e w3 ⟨rfl, t3⟩
  have hd3 := hd2.keep t3 (by simp) (by simp)
  have hJ3 := hJ2.keep t3 (by simp)
  have T3 := T2.trans t3
  have hlt3 := hd3.lt
  clear hd1 t1 t2 t3 hd2 hJ2 HW T2
  have HCM := Lib.hid (commit_any jb (B + 1) B 3 (freshD 12) a len cap cb o cs w3 hJ3 hd3 (by omega) (by omega) (HCH.out _ T3) (fun h0 => by have := HCB.out h0; omega) hlm (by simp [freshD]))
  rcases hcase with ⟨he, hc⟩ | h0
  · generalize (jcommit 3 cs (freshD 12)).1 = c at he hc
    have HCM : Hid (Calls Tryd.prog 14 #[.pointer (some ⟨jb, 0, none⟩), .slice a len cap] w3 fun e w' => e = .returned (.int .i64 c) ∧ (IsDs w' (B + 1) B (freshD 12) ∧ Tch [B + 1, B] w3 w')) := HCM.out.mono fun e w' h => by
      unfold CmPost at h; rw [he] at h; exact h
    have HWR : Hid (∀ w5, IsDs w5 (B + 1) B (freshD 12) → _) := fun w5 h5 => dwrites (B + 1) B (freshD 12) w5 h5 (by simp [freshD])
    rw [show (freshD 12).done = 0 from rfl] at HWR
    have HL : Hid (∀ w5, IsJn w5 jb (B + 1) 3 → IsDs w5 (B + 1) B (freshD 12) → _) := fun w5 h1 h2 => jlen_any jb (B + 1) B 3 (freshD 12) w5 h1 h2 (by omega)
    rw [show ((jlen (freshD 12) 3 : Nat) : Int) = 8 from rfl] at HL
    have hmk : ∀ w5 : World, (Instr.makeSlice 33 (.int .i64 8) (.int .i64 8)).run Tryd.prog w5 = .ok (.slice (some ⟨w5.heap.size, 0, none⟩) 8 8) (w5.alloc (.cells ((List.replicate 8 (⟨#[]⟩ : ByteArray)).map Value.string).toArray 9)) := fun w5 => make_strs 8 w5 (by omega)
    have HSN := Lib.hid hs
    have HHB : Hid (holdsB (freshD 12) 3 (List.replicate 8 ⟨#[]⟩) = true) := holdsB_yes (fun i hi => by simp only [freshD]; rw [rep_getD, rep_getD])
    clear hs he
    rcases hc with rfl | rfl | rfl | rfl
    all_goals
      go_wp2_with fail
      refine HCM.out.mono ?_
      rintro e w5 ⟨rfl, hd5, t5⟩
      have T5 := T3.transNew t5 (by have := HB.out; simp; omega)
      have hJ5 := hJ3.keep t5 (by simp; omega)
      have hlt5 := hd5.lt
      have HW5 := Lib.hid (HWR.out w5 hd5)
      have HL5 := Lib.hid (HL.out w5 hJ5 hd5)
      go_wp2_with (first | (go_at_call 19; refine HW5.out.mono ?_; rintro e w6 ⟨rfl, rfl⟩) | (go_at_call 12; refine HL5.out.mono ?_; rintro e w6 ⟨rfl, rfl⟩))
      have hTX : IsTx (w5.alloc (.cells ((List.replicate 8 (⟨#[]⟩ : ByteArray)).map Value.string).toArray 9)) w5.heap.size (List.replicate 8 ⟨#[]⟩) := blk_new w5 _
      have hJA := hJ5.keep ((Tch.refl [] w5).alloc (.cells ((List.replicate 8 (⟨#[]⟩ : ByteArray)).map Value.string).toArray 9)) (by simp)
      have hdA := hd5.keep ((Tch.refl [] w5).alloc (.cells ((List.replicate 8 (⟨#[]⟩ : ByteArray)).map Value.string).toArray 9)) (by simp) (by simp)
      have TA := T5.alloc (.cells ((List.replicate 8 (⟨#[]⟩ : ByteArray)).map Value.string).toArray 9)
      have HHO := Lib.hid (holds_any jb (B + 1) B 3 w5.heap.size 8 (freshD 12) (List.replicate 8 ⟨#[]⟩) _ hJA hdA (by omega) (by omega) rfl hTX (by omega) (by simp [freshD]) (fun i => by rw [rep_getD]; decide))
      rw [HHB.out] at HHO
      refine HHO.out.mono ?_
      rintro e w6 ⟨rfl, hd6, t6⟩
      have hJ6 := hJA.keep t6 (by simp; omega)
      have T6 := TA.transNew t6 (by have := HB.out; simp; omega)
      have hlt6 := hd6.lt
      have hC := blk_new w6 (.cells #[.int .i64 1, .string ⟨#[120]⟩] 39)
      have hch : IsChs (w6.alloc (.cells #[.int .i64 1, .string ⟨#[120]⟩] 39)) (some ⟨w6.heap.size, 0, none⟩) 1 w6.heap.size 0 [(1, ⟨#[120]⟩)] := by
        refine ⟨rfl, Or.inr ⟨rfl, by simp⟩, fun k c hk => ?_, fun c hc => ?_⟩
        · match k, hk with
          | 0, hk => simp at hk; subst hk; exact ⟨blk_cell hC 0, blk_cell hC 1⟩
        · simp only [List.mem_cons, List.mem_nil_iff, or_false] at hc
          subst hc
          decide
      have hjlt := hJ6.lt
      have HCN := Lib.hid (commit_calm jb (B + 1) B 3 (freshD 12) (some ⟨w6.heap.size, 0, none⟩) 1 1 w6.heap.size 0 _ _ _ (hJ6.keep ((Tch.refl [] w6).alloc (.cells #[.int .i64 1, .string ⟨#[120]⟩] 39)) (by simp)) (hd6.keep ((Tch.refl [] w6).alloc _) (by simp) (by simp)) (by omega) (by omega) hch (fun _ => by omega) (by omega) (by simp [freshD]) rfl rfl HSN.out (by omega) (by simp) (by decide))
      have T7 := T6.alloc (.cells #[.int .i64 1, .string ⟨#[120]⟩] 39)
      clear hch hC hTX
      go_wp2_with (first | (go_at_call 14; refine HCN.out.mono ?_; rintro e w7 ⟨rfl, E, _, _, _, _, _, t7⟩))
      go_ret
      refine ⟨?_, T7.transNew t7 (by have := HB.out; simp; omega)⟩
      rfl
  · have HCM : Hid (Calls Tryd.prog 14 #[.pointer (some ⟨jb, 0, none⟩), .slice a len cap] w3 fun e w' => e = .returned (.int .i64 0) ∧ Tch [B + 1, B] w3 w') := HCM.out.mono fun e w' h => by
      unfold CmPost at h; rw [h0] at h; exact ⟨h.1, h.2.2⟩
    clear h0 hs
    go_wp2_with fail
    refine HCM.out.mono ?_
    rintro e w5 ⟨rfl, t5⟩
    go_wp2_with fail
    go_ret
    refine ⟨?_, T3.transNew t5 (by have := HB.out; simp; omega)⟩
    rfl
end Go.Proofs.YtclnhgfionfbbaaDoor
