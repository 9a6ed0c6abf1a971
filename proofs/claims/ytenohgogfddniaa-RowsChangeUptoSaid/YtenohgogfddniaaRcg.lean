/-
  Layer 6: 'Changes'.
-/
import Derived.Test.YtenohgogfddniaaRepl
import Derived.Test.YtenohgogfddniaaDcd
namespace Go.Proofs.Ytenohgogfddniaa
open Go.RowKit
set_option linter.unusedVariables false

def bl (l : List UInt8) : ByteArray := ⟨l.toArray⟩
/-- The changes by which a row takes another one's place; none: they are refused. -/
def chgF (t : Tb) (old fresh : List Vl) : Option (List Ch) :=
  match pairsN t old, pairsN t fresh with
  | some (k, _, x), some (k2, v2, x2) => if 0 < old.length ∧ 0 < fresh.length ∧ k ≠ k2 then none else some (replL (bl k) (bl k2) (bl v2) ++ if x = x2 then [] else replL (bl x) (bl x2) (bl []))
  | _, _ => none
def ChgPost (w : World) (res : Option (List Ch)) (e : Ending) (w' : World) : Prop :=
  match res with
  | none => e = .returned (.tuple #[.slice none 0 0, .int .i64 60]) ∧ Tch [] w w'
  | some l => ∃ x c, e = .returned (.tuple #[.slice x l.length c, .int .i64 0]) ∧ w'.ownsRow w.heap.size 78 3 (.slice x l.length c) l.length (l.flatMap fChg) ∧ Tch [] w w'
theorem replL_len (a b c : ByteArray) : (replL a b c).length ≤ 2 := by
  unfold replL
  split <;> split <;> simp
theorem fChg_one6 (x : Ch) : ∀ u ∈ fChg x, u.oneCell' = true := fun u hu => by
  unfold fChg at hu
  simp only [List.mem_cons, List.not_mem_nil, or_false] at hu
  rcases hu with rfl | rfl | rfl <;> rfl

set_option maxRecDepth 100000 in
set_option maxHeartbeats 4000000 in
theorem changes6_any (t : Tb) (a : Option Addr) (c b o : Nat) (r : List Vl) (ra : Option Addr) (rc rb ro : Nat) (s : List Vl) (sa : Option Addr) (sc sb so : Nat) (w : World) (hk : IsKs w a t.cols.length b o t.cols) (hr : IsVs w ra r.length rb ro r) (hs : IsVs w sa s.length sb so s) (hc : t.cols.length ≤ c) (hrc : r.length ≤ rc) (hsc : s.length ≤ sc) (hl : t.cols.length ≤ 1000000000) (hn : t.name < 256) (hok : ∀ x ∈ r, x.Ok) (hok2 : ∀ x ∈ s, x.Ok) :
    Calls Try.prog 14 #[t.agg a c, .slice ra r.length rc, .slice sa s.length sc] w (ChgPost w (chgF t r s)) := by
  obtain ⟨W0, hW0⟩ : ∃ W0, W0 = w.alloc (.cells #[.int .u8 t.name, .slice a t.cols.length c, .int .i64 t.keys, .int .i64 t.idx] 24) := ⟨_, rfl⟩
  have T0 : Tch [] w W0 := by rw [hW0]; exact (Tch.refl [] w).alloc _
  have hb1 : W0.heap[w.heap.size]? = some (.cells #[.int .u8 t.name, .slice a t.cols.length c, .int .i64 t.keys, .int .i64 t.idx] 24 (0, 0)) := by rw [hW0]; exact blk_new w _
  have HX : Hid (∀ W, Tch [] W0 W → W.cell? ⟨w.heap.size, 0, none⟩ = some (.int .u8 t.name) ∧ W.cell? ⟨w.heap.size, 1, none⟩ = some (.slice a t.cols.length c) ∧ W.cell? ⟨w.heap.size, 2, none⟩ = some (.int .i64 t.keys) ∧ W.cell? ⟨w.heap.size, 3, none⟩ = some (.int .i64 t.idx)) := fun W t3 => by
    have h1 := t3.keep hb1 (by simp)
    exact ⟨by rw [blk_cell h1]; rfl, by rw [blk_cell h1]; rfl, by rw [blk_cell h1]; rfl, by rw [blk_cell h1]; rfl⟩
  have HP1 := Lib.hid (pairsOrNone_any t a c b o r ra rc rb ro W0 (hk.keep0 T0) (hr.keep0 T0) hc hrc hl hn hok)
  have HP2 : Hid (∀ W, Tch [] w W → Calls Try.prog 26 #[t.agg a c, .slice sa s.length sc] W fun e w' => e = pofE (pairsN t s) ∧ Tch [] W w') := fun W t3 => pairsOrNone_any t a c b o s sa sc sb so W (hk.keep0 t3) (hs.keep0 t3) hc hsc hl hn hok2
  have HNO : Hid (∀ W, chgF t r s = none → Tch [] w W → ChgPost w (chgF t r s) (.returned (.tuple #[.slice none 0 0, .int .i64 60])) W) := fun W h t3 => by rw [h]; exact ⟨rfl, t3⟩
  have HYES : Hid (∀ W x c' l, chgF t r s = some l → W.ownsRow w.heap.size 78 3 (.slice x l.length c') l.length (l.flatMap fChg) → Tch [] w W → ChgPost w (chgF t r s) (.returned (.tuple #[.slice x l.length c', .int .i64 0])) W) := fun W x c' l h ho t3 => by rw [h]; exact ⟨x, c', rfl, ho, t3⟩
  have HCF : Hid (chgF t r s = match pairsN t r, pairsN t s with
    | some (k, _, x), some (k2, v2, x2) => if 0 < r.length ∧ 0 < s.length ∧ k ≠ k2 then none else some (replL (bl k) (bl k2) (bl v2) ++ if x = x2 then [] else replL (bl x) (bl x2) (bl []))
    | _, _ => none) := rfl
  generalize hQ : ChgPost w (chgF t r s) = Q at HNO HYES ⊢
  generalize chgF t r s = CF at *
  have HT0 := Lib.hid T0
  clear hb1 T0 hk hr hs hok hok2 hQ
  unfold Tb.agg at HP1 HP2 ⊢
  go_enter Try.func14, Try.ntmps14
  go_upto_region 1 with fail
  rw [← hW0]
  clear hW0
  obtain ⟨x0, x1, x2, x3⟩ := HX.out W0 (Tch.refl _ _)
  generalize pairsN t r = A at *
  generalize pairsN t s = B at *
  rcases A with _ | ⟨k, v, x⟩
  · simp only [pofE, vPrs] at HP1
    go_wp2_with fail
    refine HP1.out.mono ?_
    rintro e w1 ⟨rfl, t1⟩
    clear x0 x1 x2 x3 HP1
    go_upto_region 2 with fail
    obtain ⟨W2, hW2⟩ : ∃ W2, W2 = w1.alloc (.cells #[.string ⟨#[]⟩, .string ⟨#[]⟩, .string ⟨#[]⟩, .string ⟨#[]⟩] 61) := ⟨_, rfl⟩
    have hp2 : W2.heap[w1.heap.size]? = some (.cells #[.string ⟨#[]⟩, .string ⟨#[]⟩, .string ⟨#[]⟩, .string ⟨#[]⟩] 61 (0, 0)) := by rw [hW2]; exact blk_new _ _
    have T2 : Tch [] W0 W2 := by rw [hW2]; exact t1.alloc _
    rw [← hW2]
    obtain ⟨x0, x1, x2, x3⟩ := HX.out W2 T2
    have HC := Lib.hid (HP2.out W2 (HT0.out.trans T2))
    have HT2 := Lib.hid (HT0.out.trans T2)
    have HB2 := Lib.hid hp2
    generalize w1.heap.size = G1 at *
    clear hW2 hp2 t1 T2 HP2 HX
    rcases B with _ | ⟨k2, v2, x2'⟩
    · simp only [pofE, vPrs] at HC
      go_wp2_with fail
      refine HC.out.mono ?_
      rintro e w3 ⟨rfl, t3⟩
      go_upto_region 3 with fail
      have T4 := Lib.hid (HT2.out.trans (t3.alloc (.cells #[.string ⟨#[]⟩, .string ⟨#[]⟩, .string ⟨#[]⟩, .string ⟨#[]⟩] 61)))
      clear x0 x1 x2 x3 t3 HC HT2 HB2
      have HE := Lib.hid (HNO.out _ (by rw [HCF.out]) (T4.out))
      clear HNO HYES HCF
      go_wp2_with fail
      first | exact HE.out | (go_ret2; exact HE.out)
    · simp only [pofE, vPrs] at HC
      go_wp2_with fail
      refine HC.out.mono ?_
      rintro e w3 ⟨rfl, t3⟩
      go_upto_region 3 with fail
      have T4 := Lib.hid (HT2.out.trans (t3.alloc (.cells #[.string ⟨k2.toArray⟩, .string ⟨v2.toArray⟩, .string ⟨x2'.toArray⟩, .string ⟨#[]⟩] 61)))
      clear x0 x1 x2 x3 t3 HC HT2 HB2
      have HE := Lib.hid (HNO.out _ (by rw [HCF.out]) (T4.out))
      clear HNO HYES HCF
      go_wp2_with fail
      first | exact HE.out | (go_ret2; exact HE.out)
  · simp only [pofE, vPrs] at HP1
    go_wp2_with fail
    refine HP1.out.mono ?_
    rintro e w1 ⟨rfl, t1⟩
    clear x0 x1 x2 x3 HP1
    go_upto_region 2 with fail
    obtain ⟨W2, hW2⟩ : ∃ W2, W2 = w1.alloc (.cells #[.string ⟨k.toArray⟩, .string ⟨v.toArray⟩, .string ⟨x.toArray⟩, .string ⟨#[]⟩] 61) := ⟨_, rfl⟩
    have hp2 : W2.heap[w1.heap.size]? = some (.cells #[.string ⟨k.toArray⟩, .string ⟨v.toArray⟩, .string ⟨x.toArray⟩, .string ⟨#[]⟩] 61 (0, 0)) := by rw [hW2]; exact blk_new _ _
    have T2 : Tch [] W0 W2 := by rw [hW2]; exact t1.alloc _
    rw [← hW2]
    obtain ⟨x0, x1, x2, x3⟩ := HX.out W2 T2
    have HC := Lib.hid (HP2.out W2 (HT0.out.trans T2))
    have HT2 := Lib.hid (HT0.out.trans T2)
    have HB2 := Lib.hid hp2
    generalize w1.heap.size = G1 at *
    clear hW2 hp2 t1 T2 HP2 HX
    rcases B with _ | ⟨k2, v2, x2'⟩
    · simp only [pofE, vPrs] at HC
      go_wp2_with fail
      refine HC.out.mono ?_
      rintro e w3 ⟨rfl, t3⟩
      go_upto_region 3 with fail
      have T4 := Lib.hid (HT2.out.trans (t3.alloc (.cells #[.string ⟨#[]⟩, .string ⟨#[]⟩, .string ⟨#[]⟩, .string ⟨#[]⟩] 61)))
      clear x0 x1 x2 x3 t3 HC HT2 HB2
      have HE := Lib.hid (HNO.out _ (by rw [HCF.out]) (T4.out))
      clear HNO HYES HCF
      go_wp2_with fail
      first | exact HE.out | (go_ret2; exact HE.out)
    · simp only [pofE, vPrs] at HC
      go_wp2_with fail
      refine HC.out.mono ?_
      rintro e w3 ⟨rfl, t3⟩
      clear x0 x1 x2 x3 HC
      go_upto_region 3 with fail
      obtain ⟨W4, hW4⟩ : ∃ W4, W4 = w3.alloc (.cells #[.string ⟨k2.toArray⟩, .string ⟨v2.toArray⟩, .string ⟨x2'.toArray⟩, .string ⟨#[]⟩] 61) := ⟨_, rfl⟩
      have hp4 : W4.heap[w3.heap.size]? = some (.cells #[.string ⟨k2.toArray⟩, .string ⟨v2.toArray⟩, .string ⟨x2'.toArray⟩, .string ⟨#[]⟩] 61 (0, 0)) := by rw [hW4]; exact blk_new _ _
      have T4 : Tch [] W2 W4 := by rw [hW4]; exact t3.alloc _
      rw [← hW4]
      have HB4 := Lib.hid (T4.keep HB2.out (by simp))
      have HP4 := Lib.hid hp4
      generalize w3.heap.size = G3 at *
      have HPC : Hid (∀ W, Tch [] W4 W → (W.cell? ⟨G1, 0, none⟩ = some (.string ⟨k.toArray⟩) ∧ W.cell? ⟨G1, 1, none⟩ = some (.string ⟨v.toArray⟩) ∧ W.cell? ⟨G1, 2, none⟩ = some (.string ⟨x.toArray⟩) ∧ W.cell? ⟨G1, 3, none⟩ = some (.string ⟨#[]⟩)) ∧ W.cell? ⟨G3, 0, none⟩ = some (.string ⟨k2.toArray⟩) ∧ W.cell? ⟨G3, 1, none⟩ = some (.string ⟨v2.toArray⟩) ∧ W.cell? ⟨G3, 2, none⟩ = some (.string ⟨x2'.toArray⟩) ∧ W.cell? ⟨G3, 3, none⟩ = some (.string ⟨#[]⟩)) := fun W t5 => by
        have h1 := t5.keep HB4.out (by simp)
        have h2 := t5.keep HP4.out (by simp)
        exact ⟨⟨by rw [blk_cell h1]; rfl, by rw [blk_cell h1]; rfl, by rw [blk_cell h1]; rfl, by rw [blk_cell h1]; rfl⟩, by rw [blk_cell h2]; rfl, by rw [blk_cell h2]; rfl, by rw [blk_cell h2]; rfl, by rw [blk_cell h2]; rfl⟩
      have HT4 := Lib.hid (HT2.out.trans T4)
      clear hW4 hp4 t3 T4 HB2 HB4 HP4 HT2
      obtain ⟨⟨p0, p1, p2, p3⟩, q0, q1, q2, q3⟩ := HPC.out W4 (Tch.refl _ _)
      have HR1 := Lib.hid (replaced_any ⟨k.toArray⟩ ⟨v.toArray⟩ ⟨k2.toArray⟩ ⟨v2.toArray⟩ W4)
      have HR2 : Hid (∀ W, Calls Try.prog 27 #[.agg #[.string ⟨x.toArray⟩, .string ⟨#[]⟩], .agg #[.string ⟨x2'.toArray⟩, .string ⟨#[]⟩]] W (RplPost W (replL (bl x) (bl x2') (bl [])))) := fun W => replaced_any ⟨x.toArray⟩ ⟨#[]⟩ ⟨x2'.toArray⟩ ⟨#[]⟩ W
      have HNE : ∀ W, (binOp .neq 28 (.agg #[.string ⟨x.toArray⟩, .string ⟨#[]⟩]) (.agg #[.string ⟨x2'.toArray⟩, .string ⟨#[]⟩])).run Try.prog W = .ok (.bool (!(x == x2'))) W := fun W => by
        have := neq_pair ⟨x.toArray⟩ ⟨#[]⟩ ⟨x2'.toArray⟩ ⟨#[]⟩ W
        simpa using this
      have hkl : (⟨k.toArray⟩ : ByteArray).toList = k := by rw [ByteArray.toList_eq]
      have hkl2 : (⟨k2.toArray⟩ : ByteArray).toList = k2 := by rw [ByteArray.toList_eq]
      obtain ⟨i0, hi, hz0, hz1, hz2⟩ := info_parts Try.info_tchr
      by_cases h1 : 0 < r.length
      · have h1i : (0 : Int) < (r.length : Int) := by omega
        by_cases h2 : 0 < s.length
        · have h2i : (0 : Int) < (s.length : Int) := by omega
          by_cases h3 : k = k2
          · have hno : ¬ (0 < r.length ∧ 0 < s.length ∧ k ≠ k2) := fun h => h.2.2 h3
            have hkb : (k == k2) = true := by rw [h3]; simp
            clear h3
            have HCT : Hid (CF = some (replL (bl k) (bl k2) (bl v2) ++ if x = x2' then [] else replL (bl x) (bl x2') (bl []))) := by
              have := HCF.out
              try simp only at this
              rw [if_neg hno] at this; exact this
            clear HNO HCF hno hkl hkl2
            go_wp2_with fail
            refine HR1.out.mono ?_
            rintro e w5 ⟨z, cz, rfl, ho, t5⟩
            have HT5 := Lib.hid (HT4.out.trans t5)
            have HO5 := Lib.hid (own_base ho HT4.out.size)
            clear p0 p1 p2 p3 q0 q1 q2 q3 HR1 ho
            obtain ⟨⟨p0, p1, p2, p3⟩, q0, q1, q2, q3⟩ := HPC.out w5 t5
            have HT45 := Lib.hid t5
            clear t5
            have hl1 := replL_len (bl k) (bl k2) (bl v2)
            by_cases hxx : x = x2'
            · subst hxx
              have hxb : (x == x) = true := by simp
              rw [hxb] at HNE
              have HE := Lib.hid (HYES.out w5 z cz (replL (bl k) (bl k2) (bl v2)) (by rw [HCT.out, if_pos rfl, List.append_nil]) HO5.out HT5.out)
              clear HYES HCT HR2 HPC HO5 HT5 HT4 HT45 hxb
              go_wp2_with fail
              first | exact HE.out | (go_ret2; exact HE.out)
            · have hxb : (x == x2') = false := beq_false_of_ne hxx
              rw [hxb] at HNE
              have hl2 := replL_len (bl x) (bl x2') (bl [])
              have HCT2 := Lib.hid (show CF = some (replL (bl k) (bl k2) (bl v2) ++ replL (bl x) (bl x2') (bl [])) from by rw [HCT.out, if_neg hxx])
              have HO5b := HO5.out
              change w5.ownsRow w.heap.size _ _ (.slice z (replL (bl k) (bl k2) (bl v2)).length cz) (replL (bl k) (bl k2) (bl v2)).length ((replL (bl k) (bl k2) (bl v2)).flatMap fChg) at HO5b
              have HO5 := Lib.hid HO5b
              have HC2 := Lib.hid (HR2.out w5)
              clear HCT hxx hxb HR2 HO5b
              rw [show replL ⟨k.toArray⟩ ⟨k2.toArray⟩ ⟨v2.toArray⟩ = replL (bl k) (bl k2) (bl v2) from rfl]
              generalize replL (bl k) (bl k2) (bl v2) = R1 at *
              generalize replL (bl x) (bl x2') (bl []) = R2 at *
              go_wp2_with fail
              refine HC2.out.mono ?_
              rintro e w6 ⟨y, cy, rfl, ho6, t6⟩
              clear p0 p1 p2 p3 q0 q1 q2 q3 HC2 HPC
              have HO6 := Lib.hid (own_keep HO5.out t6 (fun _ _ => by simp))
              have T6 := Lib.hid (HT5.out.trans t6)
              have hs6 := T6.out.size
              clear t6 HT45 HT4 HT5 HO5
              rcases ho6.2 with ⟨hv, h0⟩ | ⟨g, cap, cur, hv, _, hg, hcap, hcm, hcs, htk⟩
              · simp only [Value.slice.injEq] at hv
                obtain ⟨rfl, hl0, rfl⟩ := hv
                have hl2e : R2 = [] := List.length_eq_zero_iff.1 hl0
                subst hl2e
                have HE := Lib.hid (HYES.out w6 z cz R1 (by rw [HCT2.out, List.append_nil]) HO6.out T6.out)
                clear HYES ho6 HCT2
                simp only [List.length_nil] at hl2 ⊢
                go_wp2_with (at_builtin; refine wpList_append_own_none rfl _ _ 47 rfl w.heap.size 78 i0 3 Try.underlying47 hi _ _ _ rfl HO6.out rfl ?_)
                first | exact HE.out | (go_ret2; exact HE.out)
              · simp only [Value.slice.injEq] at hv
                obtain ⟨rfl, _, rfl⟩ := hv
                have HC6 : Hid (∀ j u, (R2.flatMap fChg)[j]? = some u → w6.cell? ((⟨g, 0, none⟩ : Addr).add j) = some u) := ho6.cells rfl
                have HL6 : Hid ((R2.flatMap fChg).length = R2.length * 3) := fm_len (f := fChg) (sz := 3) (fun _ => rfl) R2
                have HON : Hid (∀ u ∈ R2.flatMap fChg, u.oneCell' = true) := fm_one fChg_one6 R2
                have HY : Hid (∀ W x c', W.ownsRow w.heap.size 78 3 (.slice x (R1.length + R2.length) c') (R1.length + R2.length) (R1.flatMap fChg ++ R2.flatMap fChg) → Tch [] w W → Q (.returned (.tuple #[.slice x (R1.length + R2.length) c', .int .i64 0])) W) := fun W x c' h t => by
                  have := HYES.out W x c' (R1 ++ R2) HCT2.out (by rw [List.length_append, List.flatMap_append]; exact h) t
                  rw [List.length_append] at this; exact this
                clear ho6 HYES HCT2
                go_wp2_with (at_builtin; refine wpList_append_own _ rfl _ _ 47 rfl w.heap.size 78 i0 (.agg #[.string ⟨#[]⟩, .string ⟨#[]⟩, .bool false]) 3 40 Try.underlying47 hi hz0 hz1 hz2 rfl (by decide) _ _ _ rfl HO6.out ⟨g, 0, none⟩ R2.length _ (R2.flatMap fChg) rfl HL6.out HC6.out HON.out ?c3 ?c4 ?c5 ?_)
                case c3 => unfold maxLen; omega
                case c4 => omega
                case c5 => omega
                intro v' w7 hown7 hgrow _
                have T7 := T6.out.own HO6.out (Nat.le_refl _) hgrow
                obtain ⟨x7, c7, rfl⟩ := own_slice hown7
                have HE := Lib.hid (HY.out w7 x7 c7 hown7 T7)
                clear hown7 hgrow T7 HY HC6 HL6 HON HO6
                go_wp2_with fail
                first | exact HE.out | (go_ret2; exact HE.out)
          · have hkb : (k == k2) = false := beq_false_of_ne h3
            have HE := Lib.hid (HNO.out W4 (by have := HCF.out; (try simp only at this); rw [if_pos ⟨h1, h2, h3⟩] at this; exact this) HT4.out)
            clear HNO HYES HCF HR1 HR2 HPC hkl hkl2 HNE
            go_wp2_with fail
            first | exact HE.out | (go_ret2; exact HE.out)
        · have h2i : ¬ (0 : Int) < (s.length : Int) := by omega
          have hno : ¬ (0 < r.length ∧ 0 < s.length ∧ k ≠ k2) := fun h => h2 h.2.1
          have HCT : Hid (CF = some (replL (bl k) (bl k2) (bl v2) ++ if x = x2' then [] else replL (bl x) (bl x2') (bl []))) := by
            have := HCF.out
            try simp only at this
            rw [if_neg hno] at this; exact this
          clear HNO HCF hno hkl hkl2
          go_wp2_with fail
          refine HR1.out.mono ?_
          rintro e w5 ⟨z, cz, rfl, ho, t5⟩
          have HT5 := Lib.hid (HT4.out.trans t5)
          have HO5 := Lib.hid (own_base ho HT4.out.size)
          clear p0 p1 p2 p3 q0 q1 q2 q3 HR1 ho
          obtain ⟨⟨p0, p1, p2, p3⟩, q0, q1, q2, q3⟩ := HPC.out w5 t5
          have HT45 := Lib.hid t5
          clear t5
          have hl1 := replL_len (bl k) (bl k2) (bl v2)
          by_cases hxx : x = x2'
          · subst hxx
            have hxb : (x == x) = true := by simp
            rw [hxb] at HNE
            have HE := Lib.hid (HYES.out w5 z cz (replL (bl k) (bl k2) (bl v2)) (by rw [HCT.out, if_pos rfl, List.append_nil]) HO5.out HT5.out)
            clear HYES HCT HR2 HPC HO5 HT5 HT4 HT45 hxb
            go_wp2_with fail
            first | exact HE.out | (go_ret2; exact HE.out)
          · have hxb : (x == x2') = false := beq_false_of_ne hxx
            rw [hxb] at HNE
            have hl2 := replL_len (bl x) (bl x2') (bl [])
            have HCT2 := Lib.hid (show CF = some (replL (bl k) (bl k2) (bl v2) ++ replL (bl x) (bl x2') (bl [])) from by rw [HCT.out, if_neg hxx])
            have HO5b := HO5.out
            change w5.ownsRow w.heap.size _ _ (.slice z (replL (bl k) (bl k2) (bl v2)).length cz) (replL (bl k) (bl k2) (bl v2)).length ((replL (bl k) (bl k2) (bl v2)).flatMap fChg) at HO5b
            have HO5 := Lib.hid HO5b
            have HC2 := Lib.hid (HR2.out w5)
            clear HCT hxx hxb HR2 HO5b
            rw [show replL ⟨k.toArray⟩ ⟨k2.toArray⟩ ⟨v2.toArray⟩ = replL (bl k) (bl k2) (bl v2) from rfl]
            generalize replL (bl k) (bl k2) (bl v2) = R1 at *
            generalize replL (bl x) (bl x2') (bl []) = R2 at *
            go_wp2_with fail
            refine HC2.out.mono ?_
            rintro e w6 ⟨y, cy, rfl, ho6, t6⟩
            clear p0 p1 p2 p3 q0 q1 q2 q3 HC2 HPC
            have HO6 := Lib.hid (own_keep HO5.out t6 (fun _ _ => by simp))
            have T6 := Lib.hid (HT5.out.trans t6)
            have hs6 := T6.out.size
            clear t6 HT45 HT4 HT5 HO5
            rcases ho6.2 with ⟨hv, h0⟩ | ⟨g, cap, cur, hv, _, hg, hcap, hcm, hcs, htk⟩
            · simp only [Value.slice.injEq] at hv
              obtain ⟨rfl, hl0, rfl⟩ := hv
              have hl2e : R2 = [] := List.length_eq_zero_iff.1 hl0
              subst hl2e
              have HE := Lib.hid (HYES.out w6 z cz R1 (by rw [HCT2.out, List.append_nil]) HO6.out T6.out)
              clear HYES ho6 HCT2
              simp only [List.length_nil] at hl2 ⊢
              go_wp2_with (at_builtin; refine wpList_append_own_none rfl _ _ 47 rfl w.heap.size 78 i0 3 Try.underlying47 hi _ _ _ rfl HO6.out rfl ?_)
              first | exact HE.out | (go_ret2; exact HE.out)
            · simp only [Value.slice.injEq] at hv
              obtain ⟨rfl, _, rfl⟩ := hv
              have HC6 : Hid (∀ j u, (R2.flatMap fChg)[j]? = some u → w6.cell? ((⟨g, 0, none⟩ : Addr).add j) = some u) := ho6.cells rfl
              have HL6 : Hid ((R2.flatMap fChg).length = R2.length * 3) := fm_len (f := fChg) (sz := 3) (fun _ => rfl) R2
              have HON : Hid (∀ u ∈ R2.flatMap fChg, u.oneCell' = true) := fm_one fChg_one6 R2
              have HY : Hid (∀ W x c', W.ownsRow w.heap.size 78 3 (.slice x (R1.length + R2.length) c') (R1.length + R2.length) (R1.flatMap fChg ++ R2.flatMap fChg) → Tch [] w W → Q (.returned (.tuple #[.slice x (R1.length + R2.length) c', .int .i64 0])) W) := fun W x c' h t => by
                have := HYES.out W x c' (R1 ++ R2) HCT2.out (by rw [List.length_append, List.flatMap_append]; exact h) t
                rw [List.length_append] at this; exact this
              clear ho6 HYES HCT2
              go_wp2_with (at_builtin; refine wpList_append_own _ rfl _ _ 47 rfl w.heap.size 78 i0 (.agg #[.string ⟨#[]⟩, .string ⟨#[]⟩, .bool false]) 3 40 Try.underlying47 hi hz0 hz1 hz2 rfl (by decide) _ _ _ rfl HO6.out ⟨g, 0, none⟩ R2.length _ (R2.flatMap fChg) rfl HL6.out HC6.out HON.out ?c3 ?c4 ?c5 ?_)
              case c3 => unfold maxLen; omega
              case c4 => omega
              case c5 => omega
              intro v' w7 hown7 hgrow _
              have T7 := T6.out.own HO6.out (Nat.le_refl _) hgrow
              obtain ⟨x7, c7, rfl⟩ := own_slice hown7
              have HE := Lib.hid (HY.out w7 x7 c7 hown7 T7)
              clear hown7 hgrow T7 HY HC6 HL6 HON HO6
              go_wp2_with fail
              first | exact HE.out | (go_ret2; exact HE.out)
      · have h1i : ¬ (0 : Int) < (r.length : Int) := by omega
        have hno : ¬ (0 < r.length ∧ 0 < s.length ∧ k ≠ k2) := fun h => h1 h.1
        have HCT : Hid (CF = some (replL (bl k) (bl k2) (bl v2) ++ if x = x2' then [] else replL (bl x) (bl x2') (bl []))) := by
          have := HCF.out
          try simp only at this
          rw [if_neg hno] at this; exact this
        clear HNO HCF hno hkl hkl2
        go_wp2_with fail
        refine HR1.out.mono ?_
        rintro e w5 ⟨z, cz, rfl, ho, t5⟩
        have HT5 := Lib.hid (HT4.out.trans t5)
        have HO5 := Lib.hid (own_base ho HT4.out.size)
        clear p0 p1 p2 p3 q0 q1 q2 q3 HR1 ho
        obtain ⟨⟨p0, p1, p2, p3⟩, q0, q1, q2, q3⟩ := HPC.out w5 t5
        have HT45 := Lib.hid t5
        clear t5
        have hl1 := replL_len (bl k) (bl k2) (bl v2)
        by_cases hxx : x = x2'
        · subst hxx
          have hxb : (x == x) = true := by simp
          rw [hxb] at HNE
          have HE := Lib.hid (HYES.out w5 z cz (replL (bl k) (bl k2) (bl v2)) (by rw [HCT.out, if_pos rfl, List.append_nil]) HO5.out HT5.out)
          clear HYES HCT HR2 HPC HO5 HT5 HT4 HT45 hxb
          go_wp2_with fail
          first | exact HE.out | (go_ret2; exact HE.out)
        · have hxb : (x == x2') = false := beq_false_of_ne hxx
          rw [hxb] at HNE
          have hl2 := replL_len (bl x) (bl x2') (bl [])
          have HCT2 := Lib.hid (show CF = some (replL (bl k) (bl k2) (bl v2) ++ replL (bl x) (bl x2') (bl [])) from by rw [HCT.out, if_neg hxx])
          have HO5b := HO5.out
          change w5.ownsRow w.heap.size _ _ (.slice z (replL (bl k) (bl k2) (bl v2)).length cz) (replL (bl k) (bl k2) (bl v2)).length ((replL (bl k) (bl k2) (bl v2)).flatMap fChg) at HO5b
          have HO5 := Lib.hid HO5b
          have HC2 := Lib.hid (HR2.out w5)
          clear HCT hxx hxb HR2 HO5b
          rw [show replL ⟨k.toArray⟩ ⟨k2.toArray⟩ ⟨v2.toArray⟩ = replL (bl k) (bl k2) (bl v2) from rfl]
          generalize replL (bl k) (bl k2) (bl v2) = R1 at *
          generalize replL (bl x) (bl x2') (bl []) = R2 at *
          go_wp2_with fail
          refine HC2.out.mono ?_
          rintro e w6 ⟨y, cy, rfl, ho6, t6⟩
          clear p0 p1 p2 p3 q0 q1 q2 q3 HC2 HPC
          have HO6 := Lib.hid (own_keep HO5.out t6 (fun _ _ => by simp))
          have T6 := Lib.hid (HT5.out.trans t6)
          have hs6 := T6.out.size
          clear t6 HT45 HT4 HT5 HO5
          rcases ho6.2 with ⟨hv, h0⟩ | ⟨g, cap, cur, hv, _, hg, hcap, hcm, hcs, htk⟩
          · simp only [Value.slice.injEq] at hv
            obtain ⟨rfl, hl0, rfl⟩ := hv
            have hl2e : R2 = [] := List.length_eq_zero_iff.1 hl0
            subst hl2e
            have HE := Lib.hid (HYES.out w6 z cz R1 (by rw [HCT2.out, List.append_nil]) HO6.out T6.out)
            clear HYES ho6 HCT2
            simp only [List.length_nil] at hl2 ⊢
            go_wp2_with (at_builtin; refine wpList_append_own_none rfl _ _ 47 rfl w.heap.size 78 i0 3 Try.underlying47 hi _ _ _ rfl HO6.out rfl ?_)
            first | exact HE.out | (go_ret2; exact HE.out)
          · simp only [Value.slice.injEq] at hv
            obtain ⟨rfl, _, rfl⟩ := hv
            have HC6 : Hid (∀ j u, (R2.flatMap fChg)[j]? = some u → w6.cell? ((⟨g, 0, none⟩ : Addr).add j) = some u) := ho6.cells rfl
            have HL6 : Hid ((R2.flatMap fChg).length = R2.length * 3) := fm_len (f := fChg) (sz := 3) (fun _ => rfl) R2
            have HON : Hid (∀ u ∈ R2.flatMap fChg, u.oneCell' = true) := fm_one fChg_one6 R2
            have HY : Hid (∀ W x c', W.ownsRow w.heap.size 78 3 (.slice x (R1.length + R2.length) c') (R1.length + R2.length) (R1.flatMap fChg ++ R2.flatMap fChg) → Tch [] w W → Q (.returned (.tuple #[.slice x (R1.length + R2.length) c', .int .i64 0])) W) := fun W x c' h t => by
              have := HYES.out W x c' (R1 ++ R2) HCT2.out (by rw [List.length_append, List.flatMap_append]; exact h) t
              rw [List.length_append] at this; exact this
            clear ho6 HYES HCT2
            go_wp2_with (at_builtin; refine wpList_append_own _ rfl _ _ 47 rfl w.heap.size 78 i0 (.agg #[.string ⟨#[]⟩, .string ⟨#[]⟩, .bool false]) 3 40 Try.underlying47 hi hz0 hz1 hz2 rfl (by decide) _ _ _ rfl HO6.out ⟨g, 0, none⟩ R2.length _ (R2.flatMap fChg) rfl HL6.out HC6.out HON.out ?c3 ?c4 ?c5 ?_)
            case c3 => unfold maxLen; omega
            case c4 => omega
            case c5 => omega
            intro v' w7 hown7 hgrow _
            have T7 := T6.out.own HO6.out (Nat.le_refl _) hgrow
            obtain ⟨x7, c7, rfl⟩ := own_slice hown7
            have HE := Lib.hid (HY.out w7 x7 c7 hown7 T7)
            clear hown7 hgrow T7 HY HC6 HL6 HON HO6
            go_wp2_with fail
            first | exact HE.out | (go_ret2; exact HE.out)
end Go.Proofs.Ytenohgogfddniaa
