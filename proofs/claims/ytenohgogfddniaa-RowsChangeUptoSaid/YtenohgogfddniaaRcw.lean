/-
  'changed' and RowsChange, its own function.
-/
import Derived.Test.YtenohgogfddniaaRcr
import Derived.Test.YtenohgogfddniaaRwk
import Derived.Test.YtenohgogfddniaaRtb
import Derived.BigQuiet
namespace Go.Proofs.Ytenohgogfddniaa
open Go.RowKit
set_option linter.unusedVariables false

set_option maxRecDepth 100000 in
set_option maxHeartbeats 1000000 in
theorem changed6_yes (l : List Ch) (xa ya : Option Addr) (xc xb xo yc yb yo : Nat) (w : World) (hx : IsR fChg 3 w xa l.length xb xo l) (hy : IsR fChg 3 w ya l.length yb yo l) (hl : l.length ≤ 1000000000) :
    Calls Try.prog 16 #[.slice xa l.length xc, .slice ya l.length yc] w fun e w' => e = .returned (.bool true) ∧ Tch [] w w' := by
  have HC := Lib.hid (show ∀ (W : World), Tch [] w W → ∀ (i : Nat) x, l[i]? = some x → (xa = some ⟨xb, xo, none⟩ ∧ ya = some ⟨yb, yo, none⟩) ∧ ∀ q, ((W.drewN q).cell? ⟨xb, xo + i * 3, none⟩ = some (.string x.key) ∧ (W.drewN q).cell? ⟨xb, xo + i * 3 + 1, none⟩ = some (.string x.val) ∧ (W.drewN q).cell? ⟨xb, xo + i * 3 + 2, none⟩ = some (.bool x.gone)) ∧ (W.drewN q).cell? ⟨yb, yo + i * 3, none⟩ = some (.string x.key) ∧ (W.drewN q).cell? ⟨yb, yo + i * 3 + 1, none⟩ = some (.string x.val) ∧ (W.drewN q).cell? ⟨yb, yo + i * 3 + 2, none⟩ = some (.bool x.gone) from fun W T i x h => by
    have hi := (List.getElem?_eq_some_iff.1 h).1
    refine ⟨⟨hx.some_ (by omega), hy.some_ (by omega)⟩, fun q => ?_⟩
    have a1 := hx.keep0 (tdrewN T q)
    have a2 := hy.keep0 (tdrewN T q)
    exact ⟨⟨a1.c0 h rfl, by have := a1.c h 1 (v := .string x.val) rfl; rwa [Nat.add_assoc] at this ⊢, by have := a1.c h 2 (v := .bool x.gone) rfl; rwa [Nat.add_assoc] at this ⊢⟩, a2.c0 h rfl, by have := a2.c h 1 (v := .string x.val) rfl; rwa [Nat.add_assoc] at this ⊢, by have := a2.c h 2 (v := .bool x.gone) rfl; rwa [Nat.add_assoc] at this ⊢⟩)
  have HST : Hid (SmRel w l.length l.length (.int .i64 0) w) := ⟨0, by omega, rfl, Tch.refl _ _⟩
  clear hx hy
  go_enter Try.func16, Try.ntmps16
  go_wp2_with fail
  go_loopg [13] l.length (fun n v13 wr => SmRel w l.length n v13 wr)
  case atStart => exact HST.out
  case round =>
    obtain ⟨i, hni, rfl, T⟩ := hrel
    match gk, hni with
    | 0, hni =>
      obtain rfl : i = l.length := by omega
      have hlt : decide (l.length < l.length) = false := decide_eq_false (by omega)
      clear HST HC
      go_wp2_with fail
      first | exact ⟨rfl, T⟩ | (go_ret; exact ⟨rfl, T⟩)
    | m + 1, hni =>
      have hi' : i < l.length := by omega
      have hlt : decide (i < l.length) = true := decide_eq_true hi'
      have hi1 : (i : Int) < (l.length : Int) := by omega
      have hge : l[i]? = some l[i] := List.getElem?_eq_getElem hi'
      obtain ⟨⟨ha, hb⟩, hq⟩ := HC.out wr T i _ hge
      subst ha hb
      clear hge
      generalize l[i] = y at *
      obtain ⟨yk, yv, yg⟩ := y
      have c0 := fun q => (hq q).1.1
      have c1 := fun q => (hq q).1.2.1
      have c2 := fun q => (hq q).1.2.2
      have c3 := fun q => (hq q).2.1
      have c4 := fun q => (hq q).2.2.1
      have c5 := fun q => (hq q).2.2.2
      simp only at c0 c1 c2 c3 c4 c5
      have HT := Lib.hid (fun q => tdrewN T q)
      clear hq T HC HST
      go_wp2_with fail
      go_quiet (fail)
      go_wp2_with fail
      go_roundg m
      case measure => omega
      case rel => exact ⟨i + 1, by omega, by go_num, HT.out _⟩

set_option maxRecDepth 100000 in
set_option maxHeartbeats 4000000 in
theorem change6_walk (t : Tb) (a : Option Addr) (c b o : Nat) (r : List Vl) (ra : Option Addr) (rc rb ro : Nat) (s : List Vl) (sa : Option Addr) (sc sb so : Nat) (w : World) (hk : IsKs w a t.cols.length b o t.cols) (hr : IsVs w ra r.length rb ro r) (hs : IsVs w sa s.length sb so s) (hc : t.cols.length ≤ c) (hrc : r.length ≤ rc) (hsc : s.length ≤ sc) (hl : t.cols.length ≤ 1000000000) (hrl : r.length ≤ 1000000000) (hsl : s.length ≤ 1000000000) (hn : t.name < 256) (hok : ∀ x ∈ r, x.Ok) (hok2 : ∀ x ∈ s, x.Ok) (hm : MaxL w) :
    Calls Try.prog 5 #[t.agg a c, .slice ra r.length rc, .slice sa s.length sc] w fun e w' => e = .returned (.bool true) ∧ Tch [] w w' := by
  obtain ⟨W0, hW0⟩ : ∃ W0, W0 = w.alloc (.cells #[.int .u8 t.name, .slice a t.cols.length c, .int .i64 t.keys, .int .i64 t.idx] 24) := ⟨_, rfl⟩
  have T0 : Tch [] w W0 := by rw [hW0]; exact (Tch.refl [] w).alloc _
  have hb1 : W0.heap[w.heap.size]? = some (.cells #[.int .u8 t.name, .slice a t.cols.length c, .int .i64 t.keys, .int .i64 t.idx] 24 (0, 0)) := by rw [hW0]; exact blk_new w _
  have HX : Hid (∀ W, Tch [] W0 W → W.cell? ⟨w.heap.size, 0, none⟩ = some (.int .u8 t.name) ∧ W.cell? ⟨w.heap.size, 1, none⟩ = some (.slice a t.cols.length c) ∧ W.cell? ⟨w.heap.size, 2, none⟩ = some (.int .i64 t.keys) ∧ W.cell? ⟨w.heap.size, 3, none⟩ = some (.int .i64 t.idx)) := fun W t3 => by
    have h1 := t3.keep hb1 (by simp)
    exact ⟨by rw [blk_cell h1]; rfl, by rw [blk_cell h1]; rfl, by rw [blk_cell h1]; rfl, by rw [blk_cell h1]; rfl⟩
  have HCH := Lib.hid (changes6_any t a c b o r ra rc rb ro s sa sc sb so W0 (hk.keep0 T0) (hr.keep0 T0) (hs.keep0 T0) hc hrc hsc hl hn hok hok2)
  have HW : Hid (∀ W, Tch [] w W → Calls Try.prog 11 #[] W fun e w' => e = .returned (.bool true) ∧ Tch [] W w') := fun W t => wakes6_any W (hm.keep t)
  have HTR : Hid (∀ W, Tch [] w W → Calls Try.prog 9 #[t.agg a c] W (TbPost W t)) := fun W t3 => tableRef_any t a c b o W (hk.keep0 t3) hl
  have HRW : Hid (∀ W, Tch [] w W → Calls Try.prog 10 #[.slice ra r.length rc] W (RrPost W r)) := fun W t3 => rowRef_any r ra rc rb ro W (hr.keep0 t3) hrl
  have HSW : Hid (∀ W, Tch [] w W → Calls Try.prog 10 #[.slice sa s.length sc] W (RrPost W s)) := fun W t3 => rowRef_any s sa sc sb so W (hs.keep0 t3) hsl
  have HRC : Hid (∀ (W : World) x c' b' y c2 z c3, IsKs W x t.cols.length b' 0 t.cols → W.ownsRow 0 65 2 (.slice y r.length c2) r.length (r.flatMap fVl) → W.ownsRow 0 65 2 (.slice z s.length c3) s.length (s.flatMap fVl) → Calls Try.prog 15 #[t.agg x c', .slice y r.length c2, .slice z s.length c3] W (RcgPost W (chgF t r s))) := fun W x c' b' y c2 z c3 h1 h2 h3 => by
    obtain ⟨yb, hy, _, _⟩ := IsR.own (f := fVl) (sz := 2) (fun _ => rfl) h2 rfl
    obtain ⟨zb, hz, _, _⟩ := IsR.own (f := fVl) (sz := 2) (fun _ => rfl) h3 rfl
    exact rfChanges_any t x c' b' 0 r y c2 yb 0 s z c3 zb 0 W h1 hy hz hl hn hok hok2
  have HLN : Hid (∀ l, chgF t r s = some l → l.length ≤ 4) := fun l h => by
    unfold chgF at h
    split at h
    · split at h
      · cases h
      · simp only [Option.some.injEq] at h
        rw [← h, List.length_append]
        have h1 := replL_len
        split
        · simp only [List.length_nil]; refine Nat.le_trans (Nat.add_le_add_right (h1 _ _ _) _) (by omega)
        · exact Nat.le_trans (Nat.add_le_add (h1 _ _ _) (h1 _ _ _)) (by omega)
    · cases h
  have HT0 := Lib.hid T0
  clear hb1 T0 hk hr hs hm hok hok2
  unfold Tb.agg at HCH HTR ⊢
  go_enter Try.func5, Try.ntmps5
  go_upto_region 1 with fail
  rw [← hW0]
  clear hW0
  obtain ⟨x0, x1, x2, x3⟩ := HX.out W0 (Tch.refl _ _)
  generalize chgF t r s = CF at *
  rcases CF with _ | l
  · go_wp2_with fail
    refine HCH.out.mono ?_
    rintro e w1 ⟨rfl, t1⟩
    clear x0 x1 x2 x3 HCH
    obtain ⟨x0, x1, x2, x3⟩ := HX.out w1 t1
    have HT1 := Lib.hid (HT0.out.trans t1)
    have HC := Lib.hid (HTR.out w1 HT1.out)
    clear HX HTR t1 HT0
    go_wp2_with fail
    refine HC.out.mono ?_
    rintro e w2 ⟨⟨y, cy, by', rfl, hyk, hyc⟩, t2⟩
    clear x0 x1 x2 x3 HC
    have HYK := Lib.hid hyk
    have HT2 := Lib.hid (HT1.out.trans t2)
    have HC := Lib.hid (HRW.out w2 HT2.out)
    clear hyk hyc t2 HT1 HRW
    go_wp2_with fail
    refine HC.out.mono ?_
    rintro e w3 ⟨y2, c2, rfl, ho3, t3⟩
    have HT3 := Lib.hid (HT2.out.trans t3)
    have HO3 := Lib.hid ho3
    have HYK3 := Lib.hid (HYK.out.keep0 t3)
    have HC2 := Lib.hid (HSW.out w3 HT3.out)
    clear HC ho3 t3 HT2 HSW HYK
    go_wp2_with fail
    refine HC2.out.mono ?_
    rintro e w4 ⟨y3, c3, rfl, ho4, t4⟩
    have HT4 := Lib.hid (HT3.out.trans t4)
    have HC := Lib.hid (HRC.out w4 y cy by' y2 c2 y3 c3 (HYK3.out.keep0 t4) (own_keep (own_base HO3.out (Nat.zero_le _)) t4 (fun _ _ => by simp)) (own_base ho4 (Nat.zero_le _)))
    clear HC2 ho4 t4 HT3 HO3 HYK3 HRC
    go_wp2_with fail
    refine HC.out.mono ?_
    rintro e w5 ⟨rfl, t5⟩
    have HT5 := Lib.hid (HT4.out.trans t5)
    have HC2 := Lib.hid (HW.out w5 HT5.out)
    clear HC t5 HT4 HW
    go_wp2_with fail
    refine HC2.out.mono ?_
    rintro e w6 ⟨rfl, t6⟩
    have HT6 := Lib.hid (HT5.out.trans t6)
    have HC : Hid (Calls Try.prog 16 #[.slice none 0 0, .slice none 0 0] w6 fun e w' => e = .returned (.bool true) ∧ Tch [] w6 w') := changed6_yes [] none none 0 0 0 0 0 0 w6 (IsR.nil _ _ _ _) (IsR.nil _ _ _ _) (by decide)
    clear HC2 t6 HT5
    go_wp2_with fail
    refine HC.out.mono ?_
    rintro e w7 ⟨rfl, t7⟩
    have HE := Lib.hid (HT6.out.trans t7)
    clear HC t7 HT6
    go_wp2_with fail
    first | exact ⟨rfl, HE.out⟩ | (go_ret; exact ⟨rfl, HE.out⟩)
  · have hll := HLN.out l rfl
    go_wp2_with fail
    refine HCH.out.mono ?_
    rintro e w1 ⟨z1, d1, rfl, ho1, t1⟩
    clear x0 x1 x2 x3 HCH HLN
    obtain ⟨x0, x1, x2, x3⟩ := HX.out w1 t1
    have HT1 := Lib.hid (HT0.out.trans t1)
    have HO1 := Lib.hid ho1
    have HC := Lib.hid (HTR.out w1 HT1.out)
    clear HX HTR t1 HT0 ho1
    go_wp2_with fail
    refine HC.out.mono ?_
    rintro e w2 ⟨⟨y, cy, by', rfl, hyk, hyc⟩, t2⟩
    clear x0 x1 x2 x3 HC
    have HYK := Lib.hid hyk
    have HT2 := Lib.hid (HT1.out.trans t2)
    have HO2 := Lib.hid (own_keep HO1.out t2 (fun _ _ => by simp))
    have HC := Lib.hid (HRW.out w2 HT2.out)
    clear hyk hyc t2 HT1 HRW HO1
    go_wp2_with fail
    refine HC.out.mono ?_
    rintro e w3 ⟨y2, c2, rfl, ho3, t3⟩
    have HT3 := Lib.hid (HT2.out.trans t3)
    have HO3 := Lib.hid ho3
    have HOL3 := Lib.hid (own_keep HO2.out t3 (fun _ _ => by simp))
    have HYK3 := Lib.hid (HYK.out.keep0 t3)
    have HC2 := Lib.hid (HSW.out w3 HT3.out)
    clear HC ho3 t3 HT2 HSW HYK HO2
    go_wp2_with fail
    refine HC2.out.mono ?_
    rintro e w4 ⟨y3, c3, rfl, ho4, t4⟩
    have HT4 := Lib.hid (HT3.out.trans t4)
    have HOL4 := Lib.hid (own_keep HOL3.out t4 (fun _ _ => by simp))
    have HC := Lib.hid (HRC.out w4 y cy by' y2 c2 y3 c3 (HYK3.out.keep0 t4) (own_keep (own_base HO3.out (Nat.zero_le _)) t4 (fun _ _ => by simp)) (own_base ho4 (Nat.zero_le _)))
    clear HC2 ho4 t4 HT3 HO3 HYK3 HRC HOL3
    go_wp2_with fail
    refine HC.out.mono ?_
    rintro e w5 ⟨z5, d5, rfl, ho5, t5⟩
    have HT5 := Lib.hid (HT4.out.trans t5)
    have HOL5 := Lib.hid (own_keep HOL4.out t5 (fun _ _ => by simp))
    have HOW5 := Lib.hid ho5
    have HC2 := Lib.hid (HW.out w5 HT5.out)
    clear HC t5 HT4 HW ho5 HOL4
    go_wp2_with fail
    refine HC2.out.mono ?_
    rintro e w6 ⟨rfl, t6⟩
    have HT6 := Lib.hid (HT5.out.trans t6)
    have ho6 := own_keep HOL5.out t6 (fun _ _ => by simp)
    have ho7 := own_keep HOW5.out t6 (fun _ _ => by simp)
    obtain ⟨xb, hx, _, _⟩ := IsR.own (f := fChg) (sz := 3) (fun _ => rfl) ho6 rfl
    obtain ⟨yb, hy, _, _⟩ := IsR.own (f := fChg) (sz := 3) (fun _ => rfl) ho7 rfl
    have HC := Lib.hid (changed6_yes l z1 z5 d1 xb 0 d5 yb 0 w6 hx hy (by omega))
    clear HC2 t6 HT5 ho6 ho7 hx hy HOL5 HOW5
    go_wp2_with fail
    refine HC.out.mono ?_
    rintro e w7 ⟨rfl, t7⟩
    have HE := Lib.hid (HT6.out.trans t7)
    clear HC t7 HT6
    go_wp2_with fail
    first | exact ⟨rfl, HE.out⟩ | (go_ret; exact ⟨rfl, HE.out⟩)
end Go.Proofs.Ytenohgogfddniaa
