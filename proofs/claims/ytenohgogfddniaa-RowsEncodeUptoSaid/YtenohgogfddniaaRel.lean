/-
  RowsEncode, its own function.
-/
import Derived.Test.YtenohgogfddniaaRtp
import Derived.Test.YtenohgogfddniaaRod
namespace Go.Proofs.Ytenohgogfddniaa
open Go.RowKit
set_option linter.unusedVariables false

theorem eql_pair6 (k x : ByteArray) (w : World) : (binOp .eql 28 (.agg #[.string k, .string x]) (.agg #[.string k, .string x])).run Try.prog w = .ok (.bool true) w := by
  rw [run_eql_struct, run_equalIn_struct _ _ _ _ _ (by kernel_rfl) (by kernel_rfl)]
  unfold Program.fieldsOf
  rw [Try.underlying28]
  have p0 : ∀ w, (part 9 #[.string k, .string x] 0).run Try.prog w = .ok (.string k) w := fun w => by kernel_rfl
  have p1 : ∀ w, (part 9 #[.string k, .string x] 1).run Try.prog w = .ok (.string x) w := fun w => by kernel_rfl
  have q0 : ∀ s w, (Op.equalIn 9999 9 (.string s) (.string s)).run Try.prog w = .ok true w := fun s w => by rw [run_equalIn_string w 9998 _ _ _ Try.underlying9]; simp
  simp [Op.eqFields, p0, p1, q0, Result.andThen]
theorem pairsF_sizes {t : Tb} {r : List Vl} {k v x : List UInt8} (h : pairsF t r = some (k, v, x)) : k.length ≤ 48 ∧ v.length ≤ 200 ∧ x.length ≤ 48 := by
  unfold pairsF at h
  split at h
  · rename_i hc
    simp only [Bool.and_eq_true, decide_eq_true_eq] at hc
    simp only [Option.some.injEq, Prod.mk.injEq] at h
    obtain ⟨rfl, rfl, rfl⟩ := h
    refine ⟨?_, hc.1.2, hc.2⟩
    rw [List.length_append, show (tbegin t 0).length = 2 from rfl]
    have := hc.1.1.2
    omega
  · cases h

set_option maxRecDepth 100000 in
set_option maxHeartbeats 4000000 in
theorem encode6_walk (t : Tb) (a : Option Addr) (c b o : Nat) (r : List Vl) (ra : Option Addr) (rc rb ro : Nat) (w : World) (hk : IsKs w a t.cols.length b o t.cols) (hr : IsVs w ra r.length rb ro r) (hc : t.cols.length ≤ c) (hrc : r.length ≤ rc) (hl : t.cols.length ≤ 1000000000) (hrl : r.length ≤ 1000000000) (hn : t.name < 256) (hok : ∀ x ∈ r, x.Ok) (hm : MaxL w) :
    Calls Try.prog 3 #[t.agg a c, .slice ra r.length rc] w fun e w' => e = .returned (.bool true) ∧ Tch [] w w' := by
  obtain ⟨W0, hW0⟩ : ∃ W0, W0 = w.alloc (.cells #[.int .u8 t.name, .slice a t.cols.length c, .int .i64 t.keys, .int .i64 t.idx] 24) := ⟨_, rfl⟩
  have T0 : Tch [] w W0 := by rw [hW0]; exact (Tch.refl [] w).alloc _
  have hb1 : W0.heap[w.heap.size]? = some (.cells #[.int .u8 t.name, .slice a t.cols.length c, .int .i64 t.keys, .int .i64 t.idx] 24 (0, 0)) := by rw [hW0]; exact blk_new w _
  have HX : Hid (∀ W, Tch [] W0 W → W.cell? ⟨w.heap.size, 0, none⟩ = some (.int .u8 t.name) ∧ W.cell? ⟨w.heap.size, 1, none⟩ = some (.slice a t.cols.length c) ∧ W.cell? ⟨w.heap.size, 2, none⟩ = some (.int .i64 t.keys) ∧ W.cell? ⟨w.heap.size, 3, none⟩ = some (.int .i64 t.idx)) := fun W t3 => by
    have h1 := t3.keep hb1 (by simp)
    exact ⟨by rw [blk_cell h1]; rfl, by rw [blk_cell h1]; rfl, by rw [blk_cell h1]; rfl, by rw [blk_cell h1]; rfl⟩
  have HEN := Lib.hid (encodeR_any t a c b o r ra rc rb ro W0 (hk.keep0 T0) (hr.keep0 T0) hc hrc hl hn hok)
  have HW : Hid (∀ W, Tch [] w W → Calls Try.prog 11 #[] W fun e w' => e = .returned (.bool true) ∧ Tch [] W w') := fun W t => wakes6_any W (hm.keep t)
  have HTR : Hid (∀ W, Tch [] w W → Calls Try.prog 9 #[t.agg a c] W (TbPost W t)) := fun W t3 => tableRef_any t a c b o W (hk.keep0 t3) hl
  have HRW : Hid (∀ W, Tch [] w W → Calls Try.prog 10 #[.slice ra r.length rc] W (RrPost W r)) := fun W t3 => rowRef_any r ra rc rb ro W (hr.keep0 t3) hrl
  have HDC : Hid (∀ W (K V : ByteArray), K.size ≤ 1000000000 → V.size ≤ 1000000000 → Tch [] w W → Calls Try.prog 12 #[t.agg a c, .agg #[.string K, .string V]] W (DcdPost W (decF t K.data.toList V.data.toList))) := fun W K V h1 h2 t3 => decodeR_any t a c b o K V W (hk.keep0 t3) hc hl hn h1 h2 (hm.keep t3)
  have HPR : Hid (∀ (W : World) x c' b' y c2, IsKs W x t.cols.length b' 0 t.cols → W.ownsRow 0 65 2 (.slice y r.length c2) r.length (r.flatMap fVl) → Calls Try.prog 8 #[t.agg x c', .slice y r.length c2] W (RfpPost W t r)) := fun W x c' b' y c2 h1 h2 => by
    obtain ⟨rb, hr, _, _⟩ := IsR.own (f := fVl) (sz := 2) (fun _ => rfl) h2 rfl
    exact rfPairs_any t x c' b' 0 r y c2 rb 0 W h1 hr hl hn hok
  have HSM : Hid (∀ (W : World) y c2, Tch [] w W → W.ownsRow 0 58 2 (.slice y r.length c2) r.length (r.flatMap fVl) → Calls Try.prog 13 #[.slice y r.length c2, .slice ra r.length rc] W fun e w' => e = .returned (.bool true) ∧ Tch [] W w') := fun W y c2 t3 h2 => by
    obtain ⟨yb, hy, _, _⟩ := IsR.own (f := fVl) (sz := 2) (fun _ => rfl) h2 rfl
    exact same6_yes r y ra c2 yb 0 rc rb ro W hy (hr.keep0 t3) hrl
  have HBK : Hid (∀ k v x, pairsF t r = some (k, v, x) → decF t k v = some r ∧ k.length ≤ 48 ∧ v.length ≤ 200) := fun k v x h => ⟨read_back h hok, (pairsF_sizes h).1, (pairsF_sizes h).2.1⟩
  have HT0 := Lib.hid T0
  clear hb1 T0 hk hr hm hok
  unfold Tb.agg at HEN HTR HDC ⊢
  go_enter Try.func3, Try.ntmps3
  go_upto_region 1 with fail
  rw [← hW0]
  clear hW0
  obtain ⟨x0, x1, x2, x3⟩ := HX.out W0 (Tch.refl _ _)
  rw [encrE_eq] at HEN
  go_wp2_with fail
  refine HEN.out.mono ?_
  rintro e w1 ⟨rfl, t1⟩
  clear x0 x1 x2 x3 HEN
  go_upto_region 2 with fail
  obtain ⟨W2, hW2⟩ : ∃ W2, W2 = w1.alloc (.cells #[.string (encK (pairsF t r)), .string (encV (pairsF t r))] 28) := ⟨_, rfl⟩
  have hp2 : W2.heap[w1.heap.size]? = some (.cells #[.string (encK (pairsF t r)), .string (encV (pairsF t r))] 28 (0, 0)) := by rw [hW2]; exact blk_new _ _
  have T2 : Tch [] W0 W2 := by rw [hW2]; exact t1.alloc _
  rw [← hW2]
  have HPC : Hid (∀ W, Tch [] W2 W → W.cell? ⟨w1.heap.size, 0, none⟩ = some (.string (encK (pairsF t r))) ∧ W.cell? ⟨w1.heap.size, 1, none⟩ = some (.string (encV (pairsF t r)))) := fun W t3 => by
    have h := t3.keep hp2 (by simp)
    exact ⟨by rw [blk_cell h]; rfl, by rw [blk_cell h]; rfl⟩
  have HT2 := Lib.hid T2
  generalize w1.heap.size = G1 at *
  obtain ⟨x0, x1, x2, x3⟩ := HX.out W2 T2
  have HC := Lib.hid (HTR.out W2 (HT0.out.trans T2))
  clear hW2 hp2 t1 T2 HTR
  go_wp2_with fail
  refine HC.out.mono ?_
  rintro e w3 ⟨⟨y, cy, by', rfl, hyk, hyc⟩, t3⟩
  clear x0 x1 x2 x3 HC
  have HYK := Lib.hid hyk
  have HT3 := Lib.hid t3
  have HC := Lib.hid (HRW.out w3 (HT0.out.trans (HT2.out.trans t3)))
  clear hyk hyc t3 HRW
  go_wp2_with fail
  refine HC.out.mono ?_
  rintro e w4 ⟨y2, c2, rfl, ho4, t4⟩
  have HC2 := Lib.hid (HPR.out w4 y cy by' y2 c2 (HYK.out.keep0 t4) (own_base ho4 (Nat.zero_le _)))
  have HT4 := Lib.hid (HT3.out.trans t4)
  clear HC HPR HYK ho4 t4 HT3
  unfold RfpPost at HC2
  rcases hp : pairsF t r with _ | ⟨k, v, x⟩
  · rw [hp] at HC2 HPC
    simp only [encK, encV, encC, rfpE] at HC2 HPC ⊢
    clear hp HBK HSM HDC
    go_wp2_with fail
    refine HC2.out.mono ?_
    rintro e w5 ⟨rfl, t5⟩
    go_upto_region 3 with fail
    obtain ⟨W6, hW6⟩ : ∃ W6, W6 = w5.alloc (.cells #[.string ⟨#[]⟩, .string ⟨#[]⟩] 32) := ⟨_, rfl⟩
    have T6 : Tch [] W2 W6 := by rw [hW6]; exact (HT4.out.trans t5).alloc _
    rw [← hW6]
    have HC := Lib.hid (HW.out W6 (HT0.out.trans (HT2.out.trans T6)))
    have HT6 := Lib.hid T6
    clear hW6 t5 T6 HC2 HT4 HW HX
    go_wp2_with fail
    refine HC.out.mono ?_
    rintro e w7 ⟨rfl, t7⟩
    obtain ⟨p0, p1⟩ := HPC.out w7 (HT6.out.trans t7)
    have HE := Lib.hid (HT0.out.trans (HT2.out.trans (HT6.out.trans t7)))
    have hq := eql_pair6 ⟨#[]⟩ ⟨#[]⟩
    clear HC HPC HT6 t7 HT2 HT0
    go_wp2_with fail
    first | exact ⟨rfl, HE.out⟩ | (go_ret; exact ⟨rfl, HE.out⟩)
  · rw [hp] at HC2 HPC
    obtain ⟨hdec, hks, hvs⟩ := HBK.out k v x hp
    simp only [encK, encV, encC, rfpE] at HC2 HPC ⊢
    have HDE := Lib.hid hdec
    clear hp HBK hdec
    go_wp2_with fail
    refine HC2.out.mono ?_
    rintro e w5 ⟨rfl, t5⟩
    go_upto_region 3 with fail
    obtain ⟨W6, hW6⟩ : ∃ W6, W6 = w5.alloc (.cells #[.string ⟨k.toArray⟩, .string ⟨v.toArray⟩] 32) := ⟨_, rfl⟩
    have hp6 : W6.heap[w5.heap.size]? = some (.cells #[.string ⟨k.toArray⟩, .string ⟨v.toArray⟩] 32 (0, 0)) := by rw [hW6]; exact blk_new _ _
    have T6 : Tch [] W2 W6 := by rw [hW6]; exact (HT4.out.trans t5).alloc _
    rw [← hW6]
    have HC := Lib.hid (HW.out W6 (HT0.out.trans (HT2.out.trans T6)))
    have HT6 := Lib.hid T6
    have HQC : Hid (∀ W, Tch [] W6 W → W.cell? ⟨w5.heap.size, 0, none⟩ = some (.string ⟨k.toArray⟩) ∧ W.cell? ⟨w5.heap.size, 1, none⟩ = some (.string ⟨v.toArray⟩)) := fun W t3 => by
      have h := t3.keep hp6 (by simp)
      exact ⟨by rw [blk_cell h]; rfl, by rw [blk_cell h]; rfl⟩
    generalize w5.heap.size = G5 at *
    clear hW6 t5 T6 HC2 HT4 HW hp6
    go_wp2_with fail
    refine HC.out.mono ?_
    rintro e w7 ⟨rfl, t7⟩
    have HT7 := Lib.hid (HT6.out.trans t7)
    obtain ⟨p0, p1⟩ := HPC.out w7 HT7.out
    obtain ⟨x0, x1, x2, x3⟩ := HX.out w7 (HT2.out.trans HT7.out)
    have HC7 := Lib.hid t7
    have HD := Lib.hid (HDC.out w7 ⟨k.toArray⟩ ⟨v.toArray⟩ (by show (List.toArray _).size ≤ _; rw [List.size_toArray]; omega) (by show (List.toArray _).size ≤ _; rw [List.size_toArray]; omega) (HT0.out.trans (HT2.out.trans HT7.out)))
    simp only at HD
    rw [HDE.out] at HD
    clear HC t7 HDC HDE
    go_wp2_with fail
    refine HD.out.mono ?_
    rintro e w8 ⟨z, cz, rfl, ho8, t8⟩
    clear p0 p1 x0 x1 x2 x3 HD HX
    obtain ⟨p0, p1⟩ := HPC.out w8 (HT7.out.trans t8)
    obtain ⟨r0, r1⟩ := HQC.out w8 (HC7.out.trans t8)
    have HE := Lib.hid (HT0.out.trans (HT2.out.trans (HT7.out.trans t8)))
    have HS := Lib.hid (HSM.out w8 z cz HE.out (own_base ho8 (Nat.zero_le _)))
    clear HSM HPC HQC HC7 ho8 t8 HT7 HT6 HT2 HT0
    go_wp2_with fail
    refine HS.out.mono ?_
    rintro e w9 ⟨rfl, t9⟩
    have HF := Lib.hid (HE.out.trans t9)
    clear HS HE t9 p0 p1 r0 r1
    go_wp2_with fail
    first | exact ⟨rfl, HF.out⟩ | (go_ret; exact ⟨rfl, HF.out⟩)
end Go.Proofs.Ytenohgogfddniaa
