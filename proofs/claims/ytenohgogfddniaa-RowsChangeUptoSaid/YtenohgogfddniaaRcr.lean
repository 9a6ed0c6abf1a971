/-
  The document's 'Changes'.
-/
import Derived.Test.YtenohgogfddniaaRcg
import Derived.Test.YtenohgogfddniaaRfp
import Derived.Test.YtenohgogfddniaaRdl
namespace Go.Proofs.Ytenohgogfddniaa
open Go.RowKit
set_option linter.unusedVariables false

theorem Try.info_rtc6 : (Try.prog.info? 77).map (fun i => (i.zero, i.size, i.bytes)) = some (some (.agg #[.string ⟨#[]⟩, .string ⟨#[]⟩, .bool false]), 3, 40) := by kernel_rfl
def RcgPost (w : World) (res : Option (List Ch)) (e : Ending) (w' : World) : Prop :=
  match res with
  | none => e = .returned (.tuple #[.slice none 0 0, .int .i64 60]) ∧ Tch [] w w'
  | some l => ∃ x c, e = .returned (.tuple #[.slice x l.length c, .int .i64 0]) ∧ w'.ownsRow w.heap.size 77 3 (.slice x l.length c) l.length (l.flatMap fChg) ∧ Tch [] w w'
theorem bl_list (a : List UInt8) : (bl a).toList = a := by unfold bl; rw [ByteArray.toList_eq]
theorem replL_bl (a b : List UInt8) (v : ByteArray) : replL (bl a) (bl b) v = (if b = [] then [] else [⟨bl b, v, false⟩]) ++ (if a ≠ [] ∧ a ≠ b then [⟨bl a, ⟨#[]⟩, true⟩] else []) := by
  unfold replL
  rw [bl_list, bl_list]
  congr 1
  · cases b <;> simp
  · cases a with
    | nil => simp
    | cons x l => by_cases h : x :: l = b <;> simp [h]
theorem pairsF_nil {t : Tb} {r : List Vl} (h : r.length = 0) : pairsF t r = none := by
  rcases hp : pairsF t r with _ | p
  · rfl
  · obtain ⟨h1, h2⟩ := pairsF_fit hp
    obtain ⟨k1, k2, _, _⟩ := tfit_keys h1
    have := pairsF_len hp
    omega
theorem pairsF_more {t : Tb} {r : List Vl} {k v x : List UInt8} (h : pairsF t r = some (k, v, x)) : 0 < r.length ∧ k ≠ [] ∧ (t.idx = -1 ∧ x = [] ∨ 0 ≤ t.idx ∧ x ≠ []) := by
  obtain ⟨h1, h2⟩ := pairsF_fit h
  obtain ⟨k1, k2, k3, k4⟩ := tfit_keys h1
  have hl := pairsF_len h
  refine ⟨by omega, ?_⟩
  unfold pairsF at h
  split at h
  · simp only [Option.some.injEq, Prod.mk.injEq] at h
    obtain ⟨e1, _, e3⟩ := h
    refine ⟨by rw [← e1]; simp [tbegin], ?_⟩
    by_cases hi : t.idx = -1
    · left; exact ⟨hi, by rw [← e3]; unfold indexOf; rw [if_pos hi]⟩
    · right
      refine ⟨by omega, ?_⟩
      rw [← e3]; unfold indexOf; rw [if_neg hi]
      simp [ibegin, tbegin]
  · cases h
theorem chg_no1 {t : Tb} {r s : List Vl} (h : pairsF t r = none) (hr : 0 < r.length) : chgF t r s = none := by
  unfold chgF pairsN
  rw [if_neg (by omega : ¬ r.length = 0), h]
theorem chg_no2 {t : Tb} {r s : List Vl} (h : pairsF t s = none) (hs : 0 < s.length) : chgF t r s = none := by
  unfold chgF
  rw [show pairsN t s = none from by unfold pairsN; rw [if_neg (by omega), h]]
  rcases pairsN t r with _ | ⟨_, _, _⟩ <;> rfl
theorem chg_no3 {t : Tb} {r s : List Vl} {k v x k2 v2 x2 : List UInt8} (h : pairsF t r = some (k, v, x)) (h2 : pairsF t s = some (k2, v2, x2)) (hk : k ≠ k2) : chgF t r s = none := by
  obtain ⟨hr, _⟩ := pairsF_more h
  obtain ⟨hs, _⟩ := pairsF_more h2
  unfold chgF pairsN
  rw [if_neg (by omega : ¬ r.length = 0), if_neg (by omega : ¬ s.length = 0), h, h2]
  simp only
  rw [if_pos ⟨hr, hs, hk⟩]
theorem chg_0 {t : Tb} {r s : List Vl} (hr : r.length = 0) (hs : s.length = 0) : chgF t r s = some [] := by
  unfold chgF pairsN
  rw [if_pos hr, if_pos hs]
  simp only
  rw [if_neg (by omega)]
  simp [replL_bl]
theorem chg_1 {t : Tb} {r s : List Vl} {k2 v2 x2 : List UInt8} (hr : r.length = 0) (h2 : pairsF t s = some (k2, v2, x2)) : chgF t r s = some (⟨bl k2, bl v2, false⟩ :: if t.idx = -1 then [] else [⟨bl x2, bl [], false⟩]) := by
  obtain ⟨hs, hk, hx⟩ := pairsF_more h2
  unfold chgF pairsN
  rw [if_pos hr, if_neg (by omega : ¬ s.length = 0), h2]
  simp only
  rw [if_neg (by omega), replL_bl, replL_bl, if_neg hk]
  rcases hx with ⟨h1, rfl⟩ | ⟨h1, hx⟩
  · simp [h1]
  · have h3 : ¬ t.idx = -1 := by omega
    have h4 : ¬ [] = x2 := fun e => hx e.symm
    simp [h3, h4, hx]
theorem chg_2 {t : Tb} {r s : List Vl} {k v x : List UInt8} (h : pairsF t r = some (k, v, x)) (hs : s.length = 0) : chgF t r s = some (⟨bl k, bl [], true⟩ :: if t.idx = -1 then [] else [⟨bl x, bl [], true⟩]) := by
  obtain ⟨hr, hk, hx⟩ := pairsF_more h
  unfold chgF pairsN
  rw [if_neg (by omega : ¬ r.length = 0), if_pos hs, h]
  simp only
  rw [if_neg (by omega), replL_bl, replL_bl]
  rcases hx with ⟨h1, rfl⟩ | ⟨h1, hx⟩
  · simp [h1, hk, bl]
  · have h3 : ¬ t.idx = -1 := by omega
    simp [h3, hx, hk, bl]
theorem chg_3 {t : Tb} {r s : List Vl} {k v x v2 x2 : List UInt8} (h : pairsF t r = some (k, v, x)) (h2 : pairsF t s = some (k, v2, x2)) : chgF t r s = some (⟨bl k, bl v2, false⟩ :: if t.idx = -1 ∨ x = x2 then [] else [⟨bl x2, bl [], false⟩, ⟨bl x, bl [], true⟩]) := by
  obtain ⟨hr, hk, hx⟩ := pairsF_more h
  obtain ⟨hs, hk2, hx2⟩ := pairsF_more h2
  unfold chgF pairsN
  rw [if_neg (by omega : ¬ r.length = 0), if_neg (by omega : ¬ s.length = 0), h, h2]
  simp only
  rw [if_neg (by simp), replL_bl, replL_bl, if_neg hk]
  by_cases hxx : x = x2
  · subst hxx; simp
  · rcases hx with ⟨h1, rfl⟩ | ⟨h1, hx⟩
    · rcases hx2 with ⟨_, rfl⟩ | ⟨h3, _⟩
      · exact absurd rfl hxx
      · omega
    · rcases hx2 with ⟨h3, _⟩ | ⟨h3, hx2⟩
      · omega
      · have h4 : ¬ t.idx = -1 := by omega
        simp [h4, hxx, hx, hx2, bl]

set_option maxRecDepth 100000 in
set_option maxHeartbeats 8000000 in
theorem rfChanges_any (t : Tb) (a : Option Addr) (c b o : Nat) (r : List Vl) (ra : Option Addr) (rc rb ro : Nat) (s : List Vl) (sa : Option Addr) (sc sb so : Nat) (w : World) (hk : IsKs w a t.cols.length b o t.cols) (hr : IsVs w ra r.length rb ro r) (hs : IsVs w sa s.length sb so s) (hl : t.cols.length ≤ 1000000000) (hn : t.name < 256) (hok : ∀ x ∈ r, x.Ok) (hok2 : ∀ x ∈ s, x.Ok) :
    Calls Try.prog 15 #[t.agg a c, .slice ra r.length rc, .slice sa s.length sc] w (RcgPost w (chgF t r s)) := by
  obtain ⟨W0, hW0⟩ : ∃ W0, W0 = w.alloc (.cells #[.int .u8 t.name, .slice a t.cols.length c, .int .i64 t.keys, .int .i64 t.idx] 37) := ⟨_, rfl⟩
  have T0 : Tch [] w W0 := by rw [hW0]; exact (Tch.refl [] w).alloc _
  have hb1 : W0.heap[w.heap.size]? = some (.cells #[.int .u8 t.name, .slice a t.cols.length c, .int .i64 t.keys, .int .i64 t.idx] 37 (0, 0)) := by rw [hW0]; exact blk_new w _
  have HX : Hid (∀ W, Tch [] W0 W → W.cell? ⟨w.heap.size, 0, none⟩ = some (.int .u8 t.name) ∧ W.cell? ⟨w.heap.size, 1, none⟩ = some (.slice a t.cols.length c) ∧ W.cell? ⟨w.heap.size, 2, none⟩ = some (.int .i64 t.keys) ∧ W.cell? ⟨w.heap.size, 3, none⟩ = some (.int .i64 t.idx)) := fun W t3 => by
    have h1 := t3.keep hb1 (by simp)
    exact ⟨by rw [blk_cell h1]; rfl, by rw [blk_cell h1]; rfl, by rw [blk_cell h1]; rfl, by rw [blk_cell h1]; rfl⟩
  have HP1 := Lib.hid (rfPairs_any t a c b o r ra rc rb ro W0 (hk.keep0 T0) (hr.keep0 T0) hl hn hok)
  have HP2 : Hid (∀ W, Tch [] w W → Calls Try.prog 8 #[t.agg a c, .slice sa s.length sc] W (RfpPost W t s)) := fun W t3 => rfPairs_any t a c b o s sa sc sb so W (hk.keep0 t3) (hs.keep0 t3) hl hn hok2
  have HNO : Hid (∀ W, chgF t r s = none → Tch [] w W → RcgPost w (chgF t r s) (.returned (.tuple #[.slice none 0 0, .int .i64 60])) W) := fun W h t3 => by rw [h]; exact ⟨rfl, t3⟩
  have HYES : Hid (∀ W x c' l, chgF t r s = some l → W.ownsRow w.heap.size 77 3 (.slice x l.length c') l.length (l.flatMap fChg) → Tch [] w W → RcgPost w (chgF t r s) (.returned (.tuple #[.slice x l.length c', .int .i64 0])) W) := fun W x c' l h ho t3 => by rw [h]; exact ⟨x, c', rfl, ho, t3⟩
  have HN1 : Hid (pairsF t r = none → 0 < r.length → chgF t r s = none) := chg_no1
  have HN2 : Hid (pairsF t s = none → 0 < s.length → chgF t r s = none) := chg_no2
  have HN3 : Hid (∀ k v x k2 v2 x2, pairsF t r = some (k, v, x) → pairsF t s = some (k2, v2, x2) → k ≠ k2 → chgF t r s = none) := fun _ _ _ _ _ _ h1 h2 h3 => chg_no3 h1 h2 h3
  have HC0 : Hid (r.length = 0 → s.length = 0 → chgF t r s = some []) := chg_0
  have HC1 : Hid (∀ k2 v2 x2, r.length = 0 → pairsF t s = some (k2, v2, x2) → chgF t r s = some (⟨bl k2, bl v2, false⟩ :: if t.idx = -1 then [] else [⟨bl x2, bl [], false⟩])) := fun _ _ _ h1 h2 => chg_1 h1 h2
  have HC2 : Hid (∀ k v x, pairsF t r = some (k, v, x) → s.length = 0 → chgF t r s = some (⟨bl k, bl [], true⟩ :: if t.idx = -1 then [] else [⟨bl x, bl [], true⟩])) := fun _ _ _ h1 h2 => chg_2 h1 h2
  have HC3 : Hid (∀ k v x v2 x2, pairsF t r = some (k, v, x) → pairsF t s = some (k, v2, x2) → chgF t r s = some (⟨bl k, bl v2, false⟩ :: if t.idx = -1 ∨ x = x2 then [] else [⟨bl x2, bl [], false⟩, ⟨bl x, bl [], true⟩])) := fun _ _ _ _ _ h1 h2 => chg_3 h1 h2
  have HR1 : Hid (∀ k v x, pairsF t r = some (k, v, x) → 0 < r.length ∧ (t.idx = -1 ∨ 0 ≤ t.idx)) := fun _ _ _ h => ⟨(pairsF_more h).1, (pairsF_more h).2.2.elim (fun h => Or.inl h.1) (fun h => Or.inr h.1)⟩
  have HR2 : Hid (∀ k v x, pairsF t s = some (k, v, x) → 0 < s.length ∧ (t.idx = -1 ∨ 0 ≤ t.idx)) := fun _ _ _ h => ⟨(pairsF_more h).1, (pairsF_more h).2.2.elim (fun h => Or.inl h.1) (fun h => Or.inr h.1)⟩
  generalize hQ : RcgPost w (chgF t r s) = Q at HNO HYES ⊢
  generalize chgF t r s = CF at *
  have HT0 := Lib.hid T0
  obtain ⟨i0, hi, hz0, hz1, hz2⟩ := info_parts Try.info_rtc6
  clear hb1 T0 hk hr hs hok hok2 hQ
  unfold Tb.agg at HP1 HP2 ⊢
  unfold RfpPost at HP1 HP2
  go_enter Try.func15, Try.ntmps15
  go_upto_region 1 with fail
  rw [← hW0]
  clear hW0
  obtain ⟨x0, x1, x2, x3⟩ := HX.out W0 (Tch.refl _ _)
  generalize pairsF t r = A at *
  generalize pairsF t s = B at *
  rcases A with _ | ⟨k, v, x⟩
  · simp only [rfpE] at HP1
    go_wp2_with fail
    refine HP1.out.mono ?_
    rintro e w1 ⟨rfl, t1⟩
    clear x0 x1 x2 x3 HP1
    go_upto_region 2 with fail
    obtain ⟨W2, hW2⟩ : ∃ W2, W2 = w1.alloc (.cells #[.string ⟨#[]⟩, .string ⟨#[]⟩] 32) := ⟨_, rfl⟩
    have hp2 : W2.heap[w1.heap.size]? = some (.cells #[.string ⟨#[]⟩, .string ⟨#[]⟩] 32 (0, 0)) := by rw [hW2]; exact blk_new _ _
    have T2 : Tch [] W0 W2 := by rw [hW2]; exact t1.alloc _
    rw [← hW2]
    obtain ⟨x0, x1, x2, x3⟩ := HX.out W2 T2
    have HC := Lib.hid (HP2.out W2 (HT0.out.trans T2))
    have HT2 := Lib.hid T2
    have HB2 := Lib.hid hp2
    generalize w1.heap.size = G1 at *
    clear hW2 hp2 t1 T2 HP2
    rcases B with _ | ⟨k2, v2, x2'⟩
    · simp only [rfpE] at HC
      go_wp2_with fail
      refine HC.out.mono ?_
      rintro e w3 ⟨rfl, t3⟩
      clear x0 x1 x2 x3 HC
      go_upto_region 3 with fail
      obtain ⟨W4, hW4⟩ : ∃ W4, W4 = w3.alloc (.cells #[.string ⟨#[]⟩, .string ⟨#[]⟩] 32) := ⟨_, rfl⟩
      have hp4 : W4.heap[w3.heap.size]? = some (.cells #[.string ⟨#[]⟩, .string ⟨#[]⟩] 32 (0, 0)) := by rw [hW4]; exact blk_new _ _
      have T4 : Tch [] W2 W4 := by rw [hW4]; exact t3.alloc _
      rw [← hW4]
      have HB4 := Lib.hid (T4.keep HB2.out (by simp))
      have HP4 := Lib.hid hp4
      generalize w3.heap.size = G3 at *
      have HPC : Hid (∀ W, Tch [] W4 W → (W.cell? ⟨w.heap.size, 0, none⟩ = some (.int .u8 t.name) ∧ W.cell? ⟨w.heap.size, 1, none⟩ = some (.slice a t.cols.length c) ∧ W.cell? ⟨w.heap.size, 2, none⟩ = some (.int .i64 t.keys) ∧ W.cell? ⟨w.heap.size, 3, none⟩ = some (.int .i64 t.idx)) ∧ W.cell? ⟨G1, 0, none⟩ = some (.string ⟨#[]⟩) ∧ W.cell? ⟨G1, 1, none⟩ = some (.string ⟨#[]⟩) ∧ W.cell? ⟨G3, 0, none⟩ = some (.string ⟨#[]⟩) ∧ W.cell? ⟨G3, 1, none⟩ = some (.string ⟨#[]⟩)) := fun W t5 => by
        have h1 := t5.keep HB4.out (by simp)
        have h2 := t5.keep HP4.out (by simp)
        exact ⟨HX.out W (HT2.out.trans (T4.trans t5)), by rw [blk_cell h1]; rfl, by rw [blk_cell h1]; rfl, by rw [blk_cell h2]; rfl, by rw [blk_cell h2]; rfl⟩
      have HT4 := Lib.hid (HT0.out.trans (HT2.out.trans T4))
      clear hW4 hp4 t3 T4 HB2 HB4 HP4 HT2
      obtain ⟨⟨x0, x1, x2, x3⟩, p0, p1, q0, q1⟩ := HPC.out W4 (Tch.refl _ _)
      by_cases h1 : 0 < r.length
      · have h1i : (0 : Int) < (r.length : Int) := by omega
        have HE := Lib.hid (HNO.out W4 (HN1.out (by trivial) h1) HT4.out)
        clear HNO HYES HPC HX HN1 HN2 HN3 HC0 HC1 HC2 HC3 HR1 HR2
        go_wp2_with fail
        first | exact HE.out | (go_ret2; exact HE.out)
      · have h1i : ¬ (0 : Int) < (r.length : Int) := by omega
        have h10 : r.length = 0 := by omega
        by_cases h2 : 0 < s.length
        · have h2i : (0 : Int) < (s.length : Int) := by omega
          have HE := Lib.hid (HNO.out W4 (HN2.out (by trivial) h2) HT4.out)
          clear HNO HYES HPC HX HN1 HN2 HN3 HC0 HC1 HC2 HC3 HR1 HR2
          go_wp2_with fail
          first | exact HE.out | (go_ret2; exact HE.out)
        · have h2i : ¬ (0 : Int) < (s.length : Int) := by omega
          have HE := Lib.hid (HYES.out W4 none 0 [] (HC0.out h10 (by omega)) (World.ownsRow_nil _ _ _ _) HT4.out)
          clear HNO HYES HPC HX h10 HN1 HN2 HN3 HC0 HC1 HC2 HC3 HR1 HR2
          go_wp2_with fail
          first | exact HE.out | (go_ret2; exact HE.out)
    · simp only [rfpE] at HC
      go_wp2_with fail
      refine HC.out.mono ?_
      rintro e w3 ⟨rfl, t3⟩
      clear x0 x1 x2 x3 HC
      go_upto_region 3 with fail
      obtain ⟨W4, hW4⟩ : ∃ W4, W4 = w3.alloc (.cells #[.string ⟨k2.toArray⟩, .string ⟨v2.toArray⟩] 32) := ⟨_, rfl⟩
      have hp4 : W4.heap[w3.heap.size]? = some (.cells #[.string ⟨k2.toArray⟩, .string ⟨v2.toArray⟩] 32 (0, 0)) := by rw [hW4]; exact blk_new _ _
      have T4 : Tch [] W2 W4 := by rw [hW4]; exact t3.alloc _
      rw [← hW4]
      have HB4 := Lib.hid (T4.keep HB2.out (by simp))
      have HP4 := Lib.hid hp4
      generalize w3.heap.size = G3 at *
      have HPC : Hid (∀ W, Tch [] W4 W → (W.cell? ⟨w.heap.size, 0, none⟩ = some (.int .u8 t.name) ∧ W.cell? ⟨w.heap.size, 1, none⟩ = some (.slice a t.cols.length c) ∧ W.cell? ⟨w.heap.size, 2, none⟩ = some (.int .i64 t.keys) ∧ W.cell? ⟨w.heap.size, 3, none⟩ = some (.int .i64 t.idx)) ∧ W.cell? ⟨G1, 0, none⟩ = some (.string ⟨#[]⟩) ∧ W.cell? ⟨G1, 1, none⟩ = some (.string ⟨#[]⟩) ∧ W.cell? ⟨G3, 0, none⟩ = some (.string ⟨k2.toArray⟩) ∧ W.cell? ⟨G3, 1, none⟩ = some (.string ⟨v2.toArray⟩)) := fun W t5 => by
        have h1 := t5.keep HB4.out (by simp)
        have h2 := t5.keep HP4.out (by simp)
        exact ⟨HX.out W (HT2.out.trans (T4.trans t5)), by rw [blk_cell h1]; rfl, by rw [blk_cell h1]; rfl, by rw [blk_cell h2]; rfl, by rw [blk_cell h2]; rfl⟩
      have HT4 := Lib.hid (HT0.out.trans (HT2.out.trans T4))
      clear hW4 hp4 t3 T4 HB2 HB4 HP4 HT2
      obtain ⟨⟨x0, x1, x2, x3⟩, p0, p1, q0, q1⟩ := HPC.out W4 (Tch.refl _ _)
      by_cases h1 : 0 < r.length
      · have h1i : (0 : Int) < (r.length : Int) := by omega
        have HE := Lib.hid (HNO.out W4 (HN1.out (by trivial) h1) HT4.out)
        clear HNO HYES HPC HX HN1 HN2 HN3 HC0 HC1 HC2 HC3 HR1 HR2
        go_wp2_with fail
        first | exact HE.out | (go_ret2; exact HE.out)
      · have h1i : ¬ (0 : Int) < (r.length : Int) := by omega
        have h10 : r.length = 0 := by omega
        obtain ⟨hs0, hix⟩ := HR2.out k2 v2 x2' rfl
        have hs1 : (0 : Int) < (s.length : Int) := by omega
        have HCF := Lib.hid (HC1.out k2 v2 x2' h10 rfl)
        clear h10
        rcases hix with hix | hix
        · have hge : ¬ (0 : Int) ≤ t.idx := by omega
          have HCG := Lib.hid (show CF = some [⟨bl k2, bl v2, false⟩] from by rw [HCF.out, if_pos hix])
          clear hix HCF
          go_wp2_with (at_builtin; go_loud (refine wpList_append_own _ rfl _ _ 50 rfl W4.heap.size 77 i0 (.agg #[.string ⟨#[]⟩, .string ⟨#[]⟩, .bool false]) 3 40 Try.underlying50 hi hz0 hz1 hz2 rfl (by decide) _ _ _ rfl ((World.ownsRow_nil W4 W4.heap.size 77 3).alloc (.cells #[.string ⟨k2.toArray⟩, .string ⟨v2.toArray⟩, .bool false] 77)) ⟨W4.heap.size, 0, none⟩ 1 1 [.string ⟨k2.toArray⟩, .string ⟨v2.toArray⟩, .bool false] rfl rfl (fun j u hu => cells_threeP W4 _ _ _ 77 j u hu) (by intro u hu; simp only [List.mem_cons, List.not_mem_nil, or_false] at hu; rcases hu with rfl | rfl | rfl <;> rfl) ?c30 ?c40 ?c50 ?_))
          try case c30 => first | (unfold maxLen; omega) | (unfold maxLen; decide)
          try case c40 => first | omega | decide
          try case c50 => first | omega | decide | (simp; done) | (simp; omega)
          intro v0 wA0 hown0 hgrow0 _
          have HTW := Lib.hid (((Tch.refl [] W4).alloc (.cells #[.string ⟨k2.toArray⟩, .string ⟨v2.toArray⟩, .bool false] 77)).own ((World.ownsRow_nil W4 W4.heap.size 77 3).alloc _) (Nat.le_refl _) hgrow0)
          have hwz0 := HTW.out.size
          obtain ⟨z0, cz0, rfl⟩ := own_slice hown0
          have HO := Lib.hid hown0
          clear hown0 hgrow0
          clear x0 x1 x2 x3 p0 p1 q0 q1
          obtain ⟨⟨x0, x1, x2, x3⟩, p0, p1, q0, q1⟩ := HPC.out wA0 HTW.out
          have HE := Lib.hid (HYES.out wA0 z0 cz0 [⟨bl k2, bl v2, false⟩] (HCG.out) (own_base HO.out HT4.out.size) (HT4.out.trans HTW.out))
          clear HNO HYES HPC HX HO HTW HN1 HN2 HN3 HC0 HC1 HC2 HC3 HR1 HR2
          go_wp2_with fail
          first | exact HE.out | (go_ret2; exact HE.out)
        · have HCG := Lib.hid (show CF = some [⟨bl k2, bl v2, false⟩, ⟨bl x2', bl [], false⟩] from by rw [HCF.out, if_neg (by omega)])
          clear HCF
          go_wp2_with (at_builtin; go_loud (refine wpList_append_own _ rfl _ _ 50 rfl W4.heap.size 77 i0 (.agg #[.string ⟨#[]⟩, .string ⟨#[]⟩, .bool false]) 3 40 Try.underlying50 hi hz0 hz1 hz2 rfl (by decide) _ _ _ rfl ((World.ownsRow_nil W4 W4.heap.size 77 3).alloc (.cells #[.string ⟨k2.toArray⟩, .string ⟨v2.toArray⟩, .bool false] 77)) ⟨W4.heap.size, 0, none⟩ 1 1 [.string ⟨k2.toArray⟩, .string ⟨v2.toArray⟩, .bool false] rfl rfl (fun j u hu => cells_threeP W4 _ _ _ 77 j u hu) (by intro u hu; simp only [List.mem_cons, List.not_mem_nil, or_false] at hu; rcases hu with rfl | rfl | rfl <;> rfl) ?c31 ?c41 ?c51 ?_))
          try case c31 => first | (unfold maxLen; omega) | (unfold maxLen; decide)
          try case c41 => first | omega | decide
          try case c51 => first | omega | decide | (simp; done) | (simp; omega)
          intro v1 wA1 hown1 hgrow1 _
          have HTW := Lib.hid (((Tch.refl [] W4).alloc (.cells #[.string ⟨k2.toArray⟩, .string ⟨v2.toArray⟩, .bool false] 77)).own ((World.ownsRow_nil W4 W4.heap.size 77 3).alloc _) (Nat.le_refl _) hgrow1)
          have hwz1 := HTW.out.size
          obtain ⟨z1, cz1, rfl⟩ := own_slice hown1
          have HO := Lib.hid hown1
          clear hown1 hgrow1
          clear x0 x1 x2 x3 p0 p1 q0 q1
          obtain ⟨⟨x0, x1, x2, x3⟩, p0, p1, q0, q1⟩ := HPC.out wA1 HTW.out
          go_wp2_with (at_builtin; go_loud (refine wpList_append_own _ rfl _ _ 50 rfl W4.heap.size 77 i0 (.agg #[.string ⟨#[]⟩, .string ⟨#[]⟩, .bool false]) 3 40 Try.underlying50 hi hz0 hz1 hz2 rfl (by decide) _ _ _ rfl (HO.out.alloc (.cells #[.string ⟨x2'.toArray⟩, .string ⟨#[]⟩, .bool false] 77)) ⟨wA1.heap.size, 0, none⟩ 1 1 [.string ⟨x2'.toArray⟩, .string ⟨#[]⟩, .bool false] rfl rfl (fun j u hu => cells_threeP wA1 _ _ _ 77 j u hu) (by intro u hu; simp only [List.mem_cons, List.not_mem_nil, or_false] at hu; rcases hu with rfl | rfl | rfl <;> rfl) ?c32 ?c42 ?c52 ?_))
          try case c32 => first | (unfold maxLen; omega) | (unfold maxLen; decide)
          try case c42 => first | omega | decide
          try case c52 => first | omega | decide | (simp; done) | (simp; omega)
          intro v2 wA2 hown2 hgrow2 _
          have HTW := Lib.hid (((HTW.out).alloc (.cells #[.string ⟨x2'.toArray⟩, .string ⟨#[]⟩, .bool false] 77)).own (HO.out.alloc _) (Nat.le_refl _) hgrow2)
          have hwz2 := HTW.out.size
          obtain ⟨z2, cz2, rfl⟩ := own_slice hown2
          have HO := Lib.hid hown2
          clear hown2 hgrow2
          clear x0 x1 x2 x3 p0 p1 q0 q1
          obtain ⟨⟨x0, x1, x2, x3⟩, p0, p1, q0, q1⟩ := HPC.out wA2 HTW.out
          have HE := Lib.hid (HYES.out wA2 z2 cz2 [⟨bl k2, bl v2, false⟩, ⟨bl x2', bl [], false⟩] (HCG.out) (own_base HO.out HT4.out.size) (HT4.out.trans HTW.out))
          clear HNO HYES HPC HX HO HTW HN1 HN2 HN3 HC0 HC1 HC2 HC3 HR1 HR2
          go_wp2_with fail
          first | exact HE.out | (go_ret2; exact HE.out)
  · simp only [rfpE] at HP1
    go_wp2_with fail
    refine HP1.out.mono ?_
    rintro e w1 ⟨rfl, t1⟩
    clear x0 x1 x2 x3 HP1
    go_upto_region 2 with fail
    obtain ⟨W2, hW2⟩ : ∃ W2, W2 = w1.alloc (.cells #[.string ⟨k.toArray⟩, .string ⟨v.toArray⟩] 32) := ⟨_, rfl⟩
    have hp2 : W2.heap[w1.heap.size]? = some (.cells #[.string ⟨k.toArray⟩, .string ⟨v.toArray⟩] 32 (0, 0)) := by rw [hW2]; exact blk_new _ _
    have T2 : Tch [] W0 W2 := by rw [hW2]; exact t1.alloc _
    rw [← hW2]
    obtain ⟨x0, x1, x2, x3⟩ := HX.out W2 T2
    have HC := Lib.hid (HP2.out W2 (HT0.out.trans T2))
    have HT2 := Lib.hid T2
    have HB2 := Lib.hid hp2
    generalize w1.heap.size = G1 at *
    clear hW2 hp2 t1 T2 HP2
    rcases B with _ | ⟨k2, v2, x2'⟩
    · simp only [rfpE] at HC
      go_wp2_with fail
      refine HC.out.mono ?_
      rintro e w3 ⟨rfl, t3⟩
      clear x0 x1 x2 x3 HC
      go_upto_region 3 with fail
      obtain ⟨W4, hW4⟩ : ∃ W4, W4 = w3.alloc (.cells #[.string ⟨#[]⟩, .string ⟨#[]⟩] 32) := ⟨_, rfl⟩
      have hp4 : W4.heap[w3.heap.size]? = some (.cells #[.string ⟨#[]⟩, .string ⟨#[]⟩] 32 (0, 0)) := by rw [hW4]; exact blk_new _ _
      have T4 : Tch [] W2 W4 := by rw [hW4]; exact t3.alloc _
      rw [← hW4]
      have HB4 := Lib.hid (T4.keep HB2.out (by simp))
      have HP4 := Lib.hid hp4
      generalize w3.heap.size = G3 at *
      have HPC : Hid (∀ W, Tch [] W4 W → (W.cell? ⟨w.heap.size, 0, none⟩ = some (.int .u8 t.name) ∧ W.cell? ⟨w.heap.size, 1, none⟩ = some (.slice a t.cols.length c) ∧ W.cell? ⟨w.heap.size, 2, none⟩ = some (.int .i64 t.keys) ∧ W.cell? ⟨w.heap.size, 3, none⟩ = some (.int .i64 t.idx)) ∧ W.cell? ⟨G1, 0, none⟩ = some (.string ⟨k.toArray⟩) ∧ W.cell? ⟨G1, 1, none⟩ = some (.string ⟨v.toArray⟩) ∧ W.cell? ⟨G3, 0, none⟩ = some (.string ⟨#[]⟩) ∧ W.cell? ⟨G3, 1, none⟩ = some (.string ⟨#[]⟩)) := fun W t5 => by
        have h1 := t5.keep HB4.out (by simp)
        have h2 := t5.keep HP4.out (by simp)
        exact ⟨HX.out W (HT2.out.trans (T4.trans t5)), by rw [blk_cell h1]; rfl, by rw [blk_cell h1]; rfl, by rw [blk_cell h2]; rfl, by rw [blk_cell h2]; rfl⟩
      have HT4 := Lib.hid (HT0.out.trans (HT2.out.trans T4))
      clear hW4 hp4 t3 T4 HB2 HB4 HP4 HT2
      obtain ⟨⟨x0, x1, x2, x3⟩, p0, p1, q0, q1⟩ := HPC.out W4 (Tch.refl _ _)
      obtain ⟨hr0, hix⟩ := HR1.out k v x rfl
      have hr1 : (0 : Int) < (r.length : Int) := by omega
      by_cases h2 : 0 < s.length
      · have h2i : (0 : Int) < (s.length : Int) := by omega
        have HE := Lib.hid (HNO.out W4 (HN2.out (by trivial) h2) HT4.out)
        clear HNO HYES HPC HX HN1 HN2 HN3 HC0 HC1 HC2 HC3 HR1 HR2
        go_wp2_with fail
        first | exact HE.out | (go_ret2; exact HE.out)
      · have h2i : ¬ (0 : Int) < (s.length : Int) := by omega
        have HCF := Lib.hid (HC2.out k v x rfl (by omega))
        rcases hix with hix | hix
        · have hge : ¬ (0 : Int) ≤ t.idx := by omega
          have HCG := Lib.hid (show CF = some [⟨bl k, bl [], true⟩] from by rw [HCF.out, if_pos hix])
          clear hix HCF
          go_wp2_with (at_builtin; go_loud (refine wpList_append_own _ rfl _ _ 50 rfl W4.heap.size 77 i0 (.agg #[.string ⟨#[]⟩, .string ⟨#[]⟩, .bool false]) 3 40 Try.underlying50 hi hz0 hz1 hz2 rfl (by decide) _ _ _ rfl ((World.ownsRow_nil W4 W4.heap.size 77 3).alloc (.cells #[.string ⟨k.toArray⟩, .string ⟨#[]⟩, .bool true] 77)) ⟨W4.heap.size, 0, none⟩ 1 1 [.string ⟨k.toArray⟩, .string ⟨#[]⟩, .bool true] rfl rfl (fun j u hu => cells_threeP W4 _ _ _ 77 j u hu) (by intro u hu; simp only [List.mem_cons, List.not_mem_nil, or_false] at hu; rcases hu with rfl | rfl | rfl <;> rfl) ?c33 ?c43 ?c53 ?_))
          try case c33 => first | (unfold maxLen; omega) | (unfold maxLen; decide)
          try case c43 => first | omega | decide
          try case c53 => first | omega | decide | (simp; done) | (simp; omega)
          intro v3 wA3 hown3 hgrow3 _
          have HTW := Lib.hid (((Tch.refl [] W4).alloc (.cells #[.string ⟨k.toArray⟩, .string ⟨#[]⟩, .bool true] 77)).own ((World.ownsRow_nil W4 W4.heap.size 77 3).alloc _) (Nat.le_refl _) hgrow3)
          have hwz3 := HTW.out.size
          obtain ⟨z3, cz3, rfl⟩ := own_slice hown3
          have HO := Lib.hid hown3
          clear hown3 hgrow3
          clear x0 x1 x2 x3 p0 p1 q0 q1
          obtain ⟨⟨x0, x1, x2, x3⟩, p0, p1, q0, q1⟩ := HPC.out wA3 HTW.out
          have HE := Lib.hid (HYES.out wA3 z3 cz3 [⟨bl k, bl [], true⟩] (HCG.out) (own_base HO.out HT4.out.size) (HT4.out.trans HTW.out))
          clear HNO HYES HPC HX HO HTW HN1 HN2 HN3 HC0 HC1 HC2 HC3 HR1 HR2
          go_wp2_with fail
          first | exact HE.out | (go_ret2; exact HE.out)
        · have HCG := Lib.hid (show CF = some [⟨bl k, bl [], true⟩, ⟨bl x, bl [], true⟩] from by rw [HCF.out, if_neg (by omega)])
          clear HCF
          go_wp2_with (at_builtin; go_loud (refine wpList_append_own _ rfl _ _ 50 rfl W4.heap.size 77 i0 (.agg #[.string ⟨#[]⟩, .string ⟨#[]⟩, .bool false]) 3 40 Try.underlying50 hi hz0 hz1 hz2 rfl (by decide) _ _ _ rfl ((World.ownsRow_nil W4 W4.heap.size 77 3).alloc (.cells #[.string ⟨k.toArray⟩, .string ⟨#[]⟩, .bool true] 77)) ⟨W4.heap.size, 0, none⟩ 1 1 [.string ⟨k.toArray⟩, .string ⟨#[]⟩, .bool true] rfl rfl (fun j u hu => cells_threeP W4 _ _ _ 77 j u hu) (by intro u hu; simp only [List.mem_cons, List.not_mem_nil, or_false] at hu; rcases hu with rfl | rfl | rfl <;> rfl) ?c34 ?c44 ?c54 ?_))
          try case c34 => first | (unfold maxLen; omega) | (unfold maxLen; decide)
          try case c44 => first | omega | decide
          try case c54 => first | omega | decide | (simp; done) | (simp; omega)
          intro v4 wA4 hown4 hgrow4 _
          have HTW := Lib.hid (((Tch.refl [] W4).alloc (.cells #[.string ⟨k.toArray⟩, .string ⟨#[]⟩, .bool true] 77)).own ((World.ownsRow_nil W4 W4.heap.size 77 3).alloc _) (Nat.le_refl _) hgrow4)
          have hwz4 := HTW.out.size
          obtain ⟨z4, cz4, rfl⟩ := own_slice hown4
          have HO := Lib.hid hown4
          clear hown4 hgrow4
          clear x0 x1 x2 x3 p0 p1 q0 q1
          obtain ⟨⟨x0, x1, x2, x3⟩, p0, p1, q0, q1⟩ := HPC.out wA4 HTW.out
          go_wp2_with (at_builtin; go_loud (refine wpList_append_own _ rfl _ _ 50 rfl W4.heap.size 77 i0 (.agg #[.string ⟨#[]⟩, .string ⟨#[]⟩, .bool false]) 3 40 Try.underlying50 hi hz0 hz1 hz2 rfl (by decide) _ _ _ rfl (HO.out.alloc (.cells #[.string ⟨x.toArray⟩, .string ⟨#[]⟩, .bool true] 77)) ⟨wA4.heap.size, 0, none⟩ 1 1 [.string ⟨x.toArray⟩, .string ⟨#[]⟩, .bool true] rfl rfl (fun j u hu => cells_threeP wA4 _ _ _ 77 j u hu) (by intro u hu; simp only [List.mem_cons, List.not_mem_nil, or_false] at hu; rcases hu with rfl | rfl | rfl <;> rfl) ?c35 ?c45 ?c55 ?_))
          try case c35 => first | (unfold maxLen; omega) | (unfold maxLen; decide)
          try case c45 => first | omega | decide
          try case c55 => first | omega | decide | (simp; done) | (simp; omega)
          intro v5 wA5 hown5 hgrow5 _
          have HTW := Lib.hid (((HTW.out).alloc (.cells #[.string ⟨x.toArray⟩, .string ⟨#[]⟩, .bool true] 77)).own (HO.out.alloc _) (Nat.le_refl _) hgrow5)
          have hwz5 := HTW.out.size
          obtain ⟨z5, cz5, rfl⟩ := own_slice hown5
          have HO := Lib.hid hown5
          clear hown5 hgrow5
          clear x0 x1 x2 x3 p0 p1 q0 q1
          obtain ⟨⟨x0, x1, x2, x3⟩, p0, p1, q0, q1⟩ := HPC.out wA5 HTW.out
          have HE := Lib.hid (HYES.out wA5 z5 cz5 [⟨bl k, bl [], true⟩, ⟨bl x, bl [], true⟩] (HCG.out) (own_base HO.out HT4.out.size) (HT4.out.trans HTW.out))
          clear HNO HYES HPC HX HO HTW HN1 HN2 HN3 HC0 HC1 HC2 HC3 HR1 HR2
          go_wp2_with fail
          first | exact HE.out | (go_ret2; exact HE.out)
    · simp only [rfpE] at HC
      go_wp2_with fail
      refine HC.out.mono ?_
      rintro e w3 ⟨rfl, t3⟩
      clear x0 x1 x2 x3 HC
      go_upto_region 3 with fail
      obtain ⟨W4, hW4⟩ : ∃ W4, W4 = w3.alloc (.cells #[.string ⟨k2.toArray⟩, .string ⟨v2.toArray⟩] 32) := ⟨_, rfl⟩
      have hp4 : W4.heap[w3.heap.size]? = some (.cells #[.string ⟨k2.toArray⟩, .string ⟨v2.toArray⟩] 32 (0, 0)) := by rw [hW4]; exact blk_new _ _
      have T4 : Tch [] W2 W4 := by rw [hW4]; exact t3.alloc _
      rw [← hW4]
      have HB4 := Lib.hid (T4.keep HB2.out (by simp))
      have HP4 := Lib.hid hp4
      generalize w3.heap.size = G3 at *
      have HPC : Hid (∀ W, Tch [] W4 W → (W.cell? ⟨w.heap.size, 0, none⟩ = some (.int .u8 t.name) ∧ W.cell? ⟨w.heap.size, 1, none⟩ = some (.slice a t.cols.length c) ∧ W.cell? ⟨w.heap.size, 2, none⟩ = some (.int .i64 t.keys) ∧ W.cell? ⟨w.heap.size, 3, none⟩ = some (.int .i64 t.idx)) ∧ W.cell? ⟨G1, 0, none⟩ = some (.string ⟨k.toArray⟩) ∧ W.cell? ⟨G1, 1, none⟩ = some (.string ⟨v.toArray⟩) ∧ W.cell? ⟨G3, 0, none⟩ = some (.string ⟨k2.toArray⟩) ∧ W.cell? ⟨G3, 1, none⟩ = some (.string ⟨v2.toArray⟩)) := fun W t5 => by
        have h1 := t5.keep HB4.out (by simp)
        have h2 := t5.keep HP4.out (by simp)
        exact ⟨HX.out W (HT2.out.trans (T4.trans t5)), by rw [blk_cell h1]; rfl, by rw [blk_cell h1]; rfl, by rw [blk_cell h2]; rfl, by rw [blk_cell h2]; rfl⟩
      have HT4 := Lib.hid (HT0.out.trans (HT2.out.trans T4))
      clear hW4 hp4 t3 T4 HB2 HB4 HP4 HT2
      obtain ⟨⟨x0, x1, x2, x3⟩, p0, p1, q0, q1⟩ := HPC.out W4 (Tch.refl _ _)
      obtain ⟨hr0, hix⟩ := HR1.out k v x rfl
      have hr1 : (0 : Int) < (r.length : Int) := by omega
      obtain ⟨hs0, _⟩ := HR2.out k2 v2 x2' rfl
      have hs1 : (0 : Int) < (s.length : Int) := by omega
      by_cases hkk : k ≠ k2
      · have hkb : (k == k2) = false := beq_false_of_ne hkk
        have HE := Lib.hid (HNO.out W4 (HN3.out _ _ _ _ _ _ rfl rfl hkk) HT4.out)
        clear HNO HYES HPC HX HN1 HN2 HN3 HC0 HC1 HC2 HC3 HR1 HR2
        go_wp2_with fail
        first | exact HE.out | (go_ret2; exact HE.out)
      · have hkk := Decidable.not_not.1 hkk
        have hkb : (k == k2) = true := by rw [hkk]; simp
        have HCF : Hid (CF = some (⟨bl k2, bl v2, false⟩ :: if t.idx = -1 ∨ x = x2' then [] else [⟨bl x2', bl [], false⟩, ⟨bl x, bl [], true⟩])) := by
          have := HC3.out k v x v2 x2' rfl (by rw [hkk])
          rw [hkk] at this
          exact this
        clear hkk
        rcases hix with hix | hix
        · have hge : ¬ (0 : Int) ≤ t.idx := by omega
          have HCG := Lib.hid (show CF = some [⟨bl k2, bl v2, false⟩] from by rw [HCF.out, if_pos (Or.inl hix)])
          clear hix HCF
          go_wp2_with (at_builtin; go_loud (refine wpList_append_own _ rfl _ _ 50 rfl W4.heap.size 77 i0 (.agg #[.string ⟨#[]⟩, .string ⟨#[]⟩, .bool false]) 3 40 Try.underlying50 hi hz0 hz1 hz2 rfl (by decide) _ _ _ rfl ((World.ownsRow_nil W4 W4.heap.size 77 3).alloc (.cells #[.string ⟨k2.toArray⟩, .string ⟨v2.toArray⟩, .bool false] 77)) ⟨W4.heap.size, 0, none⟩ 1 1 [.string ⟨k2.toArray⟩, .string ⟨v2.toArray⟩, .bool false] rfl rfl (fun j u hu => cells_threeP W4 _ _ _ 77 j u hu) (by intro u hu; simp only [List.mem_cons, List.not_mem_nil, or_false] at hu; rcases hu with rfl | rfl | rfl <;> rfl) ?c36 ?c46 ?c56 ?_))
          try case c36 => first | (unfold maxLen; omega) | (unfold maxLen; decide)
          try case c46 => first | omega | decide
          try case c56 => first | omega | decide | (simp; done) | (simp; omega)
          intro v6 wA6 hown6 hgrow6 _
          have HTW := Lib.hid (((Tch.refl [] W4).alloc (.cells #[.string ⟨k2.toArray⟩, .string ⟨v2.toArray⟩, .bool false] 77)).own ((World.ownsRow_nil W4 W4.heap.size 77 3).alloc _) (Nat.le_refl _) hgrow6)
          have hwz6 := HTW.out.size
          obtain ⟨z6, cz6, rfl⟩ := own_slice hown6
          have HO := Lib.hid hown6
          clear hown6 hgrow6
          clear x0 x1 x2 x3 p0 p1 q0 q1
          obtain ⟨⟨x0, x1, x2, x3⟩, p0, p1, q0, q1⟩ := HPC.out wA6 HTW.out
          have HE := Lib.hid (HYES.out wA6 z6 cz6 [⟨bl k2, bl v2, false⟩] (HCG.out) (own_base HO.out HT4.out.size) (HT4.out.trans HTW.out))
          clear HNO HYES HPC HX HO HTW HN1 HN2 HN3 HC0 HC1 HC2 HC3 HR1 HR2
          go_wp2_with fail
          first | exact HE.out | (go_ret2; exact HE.out)
        · by_cases hxx : x = x2'
          · have hxb : (x == x2') = true := by rw [hxx]; simp
            have HCG := Lib.hid (show CF = some [⟨bl k2, bl v2, false⟩] from by rw [HCF.out, if_pos (Or.inr hxx)])
            clear hxx HCF
            go_wp2_with (at_builtin; go_loud (refine wpList_append_own _ rfl _ _ 50 rfl W4.heap.size 77 i0 (.agg #[.string ⟨#[]⟩, .string ⟨#[]⟩, .bool false]) 3 40 Try.underlying50 hi hz0 hz1 hz2 rfl (by decide) _ _ _ rfl ((World.ownsRow_nil W4 W4.heap.size 77 3).alloc (.cells #[.string ⟨k2.toArray⟩, .string ⟨v2.toArray⟩, .bool false] 77)) ⟨W4.heap.size, 0, none⟩ 1 1 [.string ⟨k2.toArray⟩, .string ⟨v2.toArray⟩, .bool false] rfl rfl (fun j u hu => cells_threeP W4 _ _ _ 77 j u hu) (by intro u hu; simp only [List.mem_cons, List.not_mem_nil, or_false] at hu; rcases hu with rfl | rfl | rfl <;> rfl) ?c37 ?c47 ?c57 ?_))
            try case c37 => first | (unfold maxLen; omega) | (unfold maxLen; decide)
            try case c47 => first | omega | decide
            try case c57 => first | omega | decide | (simp; done) | (simp; omega)
            intro v7 wA7 hown7 hgrow7 _
            have HTW := Lib.hid (((Tch.refl [] W4).alloc (.cells #[.string ⟨k2.toArray⟩, .string ⟨v2.toArray⟩, .bool false] 77)).own ((World.ownsRow_nil W4 W4.heap.size 77 3).alloc _) (Nat.le_refl _) hgrow7)
            have hwz7 := HTW.out.size
            obtain ⟨z7, cz7, rfl⟩ := own_slice hown7
            have HO := Lib.hid hown7
            clear hown7 hgrow7
            clear x0 x1 x2 x3 p0 p1 q0 q1
            obtain ⟨⟨x0, x1, x2, x3⟩, p0, p1, q0, q1⟩ := HPC.out wA7 HTW.out
            have HE := Lib.hid (HYES.out wA7 z7 cz7 [⟨bl k2, bl v2, false⟩] (HCG.out) (own_base HO.out HT4.out.size) (HT4.out.trans HTW.out))
            clear HNO HYES HPC HX HO HTW HN1 HN2 HN3 HC0 HC1 HC2 HC3 HR1 HR2
            go_wp2_with fail
            first | exact HE.out | (go_ret2; exact HE.out)
          · have hxb : (x == x2') = false := beq_false_of_ne hxx
            have HCG := Lib.hid (show CF = some [⟨bl k2, bl v2, false⟩, ⟨bl x2', bl [], false⟩, ⟨bl x, bl [], true⟩] from by rw [HCF.out, if_neg (by intro h; rcases h with h | h; omega; exact hxx h)])
            clear hxx HCF
            go_wp2_with (at_builtin; go_loud (refine wpList_append_own _ rfl _ _ 50 rfl W4.heap.size 77 i0 (.agg #[.string ⟨#[]⟩, .string ⟨#[]⟩, .bool false]) 3 40 Try.underlying50 hi hz0 hz1 hz2 rfl (by decide) _ _ _ rfl ((World.ownsRow_nil W4 W4.heap.size 77 3).alloc (.cells #[.string ⟨k2.toArray⟩, .string ⟨v2.toArray⟩, .bool false] 77)) ⟨W4.heap.size, 0, none⟩ 1 1 [.string ⟨k2.toArray⟩, .string ⟨v2.toArray⟩, .bool false] rfl rfl (fun j u hu => cells_threeP W4 _ _ _ 77 j u hu) (by intro u hu; simp only [List.mem_cons, List.not_mem_nil, or_false] at hu; rcases hu with rfl | rfl | rfl <;> rfl) ?c38 ?c48 ?c58 ?_))
            try case c38 => first | (unfold maxLen; omega) | (unfold maxLen; decide)
            try case c48 => first | omega | decide
            try case c58 => first | omega | decide | (simp; done) | (simp; omega)
            intro v8 wA8 hown8 hgrow8 _
            have HTW := Lib.hid (((Tch.refl [] W4).alloc (.cells #[.string ⟨k2.toArray⟩, .string ⟨v2.toArray⟩, .bool false] 77)).own ((World.ownsRow_nil W4 W4.heap.size 77 3).alloc _) (Nat.le_refl _) hgrow8)
            have hwz8 := HTW.out.size
            obtain ⟨z8, cz8, rfl⟩ := own_slice hown8
            have HO := Lib.hid hown8
            clear hown8 hgrow8
            clear x0 x1 x2 x3 p0 p1 q0 q1
            obtain ⟨⟨x0, x1, x2, x3⟩, p0, p1, q0, q1⟩ := HPC.out wA8 HTW.out
            go_wp2_with (at_builtin; go_loud (refine wpList_append_own _ rfl _ _ 50 rfl W4.heap.size 77 i0 (.agg #[.string ⟨#[]⟩, .string ⟨#[]⟩, .bool false]) 3 40 Try.underlying50 hi hz0 hz1 hz2 rfl (by decide) _ _ _ rfl (HO.out.alloc (.cells #[.string ⟨x2'.toArray⟩, .string ⟨#[]⟩, .bool false] 77)) ⟨wA8.heap.size, 0, none⟩ 1 1 [.string ⟨x2'.toArray⟩, .string ⟨#[]⟩, .bool false] rfl rfl (fun j u hu => cells_threeP wA8 _ _ _ 77 j u hu) (by intro u hu; simp only [List.mem_cons, List.not_mem_nil, or_false] at hu; rcases hu with rfl | rfl | rfl <;> rfl) ?c39 ?c49 ?c59 ?_))
            try case c39 => first | (unfold maxLen; omega) | (unfold maxLen; decide)
            try case c49 => first | omega | decide
            try case c59 => first | omega | decide | (simp; done) | (simp; omega)
            intro v9 wA9 hown9 hgrow9 _
            have HTW := Lib.hid (((HTW.out).alloc (.cells #[.string ⟨x2'.toArray⟩, .string ⟨#[]⟩, .bool false] 77)).own (HO.out.alloc _) (Nat.le_refl _) hgrow9)
            have hwz9 := HTW.out.size
            obtain ⟨z9, cz9, rfl⟩ := own_slice hown9
            have HO := Lib.hid hown9
            clear hown9 hgrow9
            clear x0 x1 x2 x3 p0 p1 q0 q1
            obtain ⟨⟨x0, x1, x2, x3⟩, p0, p1, q0, q1⟩ := HPC.out wA9 HTW.out
            go_wp2_with (at_builtin; go_loud (refine wpList_append_own _ rfl _ _ 50 rfl W4.heap.size 77 i0 (.agg #[.string ⟨#[]⟩, .string ⟨#[]⟩, .bool false]) 3 40 Try.underlying50 hi hz0 hz1 hz2 rfl (by decide) _ _ _ rfl (HO.out.alloc (.cells #[.string ⟨x.toArray⟩, .string ⟨#[]⟩, .bool true] 77)) ⟨wA9.heap.size, 0, none⟩ 1 1 [.string ⟨x.toArray⟩, .string ⟨#[]⟩, .bool true] rfl rfl (fun j u hu => cells_threeP wA9 _ _ _ 77 j u hu) (by intro u hu; simp only [List.mem_cons, List.not_mem_nil, or_false] at hu; rcases hu with rfl | rfl | rfl <;> rfl) ?c310 ?c410 ?c510 ?_))
            try case c310 => first | (unfold maxLen; omega) | (unfold maxLen; decide)
            try case c410 => first | omega | decide
            try case c510 => first | omega | decide | (simp; done) | (simp; omega)
            intro v10 wA10 hown10 hgrow10 _
            have HTW := Lib.hid (((HTW.out).alloc (.cells #[.string ⟨x.toArray⟩, .string ⟨#[]⟩, .bool true] 77)).own (HO.out.alloc _) (Nat.le_refl _) hgrow10)
            have hwz10 := HTW.out.size
            obtain ⟨z10, cz10, rfl⟩ := own_slice hown10
            have HO := Lib.hid hown10
            clear hown10 hgrow10
            clear x0 x1 x2 x3 p0 p1 q0 q1
            obtain ⟨⟨x0, x1, x2, x3⟩, p0, p1, q0, q1⟩ := HPC.out wA10 HTW.out
            have HE := Lib.hid (HYES.out wA10 z10 cz10 [⟨bl k2, bl v2, false⟩, ⟨bl x2', bl [], false⟩, ⟨bl x, bl [], true⟩] (HCG.out) (own_base HO.out HT4.out.size) (HT4.out.trans HTW.out))
            clear HNO HYES HPC HX HO HTW HN1 HN2 HN3 HC0 HC1 HC2 HC3 HR1 HR2
            go_wp2_with fail
            first | exact HE.out | (go_ret2; exact HE.out)
end Go.Proofs.Ytenohgogfddniaa
