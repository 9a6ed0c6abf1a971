/-
  RowsDecode, its own function.
-/
import Derived.Test.YtenohgogfddniaaRfp
import Derived.Test.YtenohgogfddniaaRtb
namespace Go.Proofs.Ytenohgogfddniaa
open Go.RowKit
set_option linter.unusedVariables false

theorem decF_some {t : Tb} {K V : List UInt8} {l : List Vl} (h : decF t K V = some l) : rrowF t K V = some l ∧ ∃ x, pairsF t l = some (K, V, x) := by
  unfold decF at h
  split at h
  · cases h
  · rename_i l' hl
    split at h
    · cases h
    · rename_i k v x hp
      split at h
      · rename_i hkv
        cases h
        obtain ⟨rfl, rfl⟩ := hkv
        exact ⟨hl, x, hp⟩
      · cases h
theorem pairsF_fit {t : Tb} {l : List Vl} {p : List UInt8 × List UInt8 × List UInt8} (h : pairsF t l = some p) : tfit t = true ∧ hasV t l = true := by
  unfold pairsF at h
  split at h
  · rename_i hc
    simp only [Bool.and_eq_true] at hc
    exact ⟨hc.1.1.1.1, hc.1.1.1.2⟩
  · cases h
theorem pairsF_len {t : Tb} {l : List Vl} {p : List UInt8 × List UInt8 × List UInt8} (h : pairsF t l = some p) : l.length = t.cols.length := by
  have := (pairsF_fit h).2
  unfold hasV at this
  simp only [Bool.and_eq_true, beq_iff_eq] at this
  exact this.1
theorem byt_self (K : ByteArray) : (⟨K.data.toList.toArray⟩ : ByteArray) = K := by
  apply ba_ext; simp

set_option maxRecDepth 100000 in
set_option maxHeartbeats 4000000 in
theorem decode6_walk (t : Tb) (a : Option Addr) (c b o : Nat) (K V : ByteArray) (w : World) (hk : IsKs w a t.cols.length b o t.cols) (hc : t.cols.length ≤ c) (hl : t.cols.length ≤ 1000000000) (hn : t.name < 256) (hK : K.size ≤ 1000000000) (hV : V.size ≤ 1000000000) (hm : MaxL w) :
    Calls Try.prog 4 #[t.agg a c, .agg #[.string K, .string V]] w fun e w' => e = .returned (.bool true) ∧ Tch [] w w' := by
  obtain ⟨W0, hW0⟩ : ∃ W0, W0 = (w.alloc (.cells #[.int .u8 t.name, .slice a t.cols.length c, .int .i64 t.keys, .int .i64 t.idx] 24)).alloc (.cells #[.string K, .string V] 28) := ⟨_, rfl⟩
  have T0 : Tch [] w W0 := by rw [hW0]; exact ((Tch.refl [] w).alloc _).alloc _
  have hb1 : W0.heap[w.heap.size]? = some (.cells #[.int .u8 t.name, .slice a t.cols.length c, .int .i64 t.keys, .int .i64 t.idx] 24 (0, 0)) := by rw [hW0]; exact blk_alloc (blk_new w _) _
  have hb2 : W0.heap[w.heap.size + 1]? = some (.cells #[.string K, .string V] 28 (0, 0)) := by
    have h := blk_new (w.alloc (.cells #[.int .u8 t.name, .slice a t.cols.length c, .int .i64 t.keys, .int .i64 t.idx] 24)) (.cells #[.string K, .string V] 28)
    rw [show (w.alloc (.cells #[.int .u8 t.name, .slice a t.cols.length c, .int .i64 t.keys, .int .i64 t.idx] 24)).heap.size = w.heap.size + 1 from Array.size_push _] at h
    rw [hW0]; exact h
  have HX : Hid (∀ W, Tch [] W0 W → W.cell? ⟨w.heap.size, 0, none⟩ = some (.int .u8 t.name) ∧ W.cell? ⟨w.heap.size, 1, none⟩ = some (.slice a t.cols.length c) ∧ W.cell? ⟨w.heap.size, 2, none⟩ = some (.int .i64 t.keys) ∧ W.cell? ⟨w.heap.size, 3, none⟩ = some (.int .i64 t.idx) ∧
      W.cell? ⟨w.heap.size + 1, 0, none⟩ = some (.string K) ∧ W.cell? ⟨w.heap.size + 1, 1, none⟩ = some (.string V)) := fun W t3 => by
    have h1 := t3.keep hb1 (by simp)
    have h2 := t3.keep hb2 (by simp)
    exact ⟨by rw [blk_cell h1]; rfl, by rw [blk_cell h1]; rfl, by rw [blk_cell h1]; rfl, by rw [blk_cell h1]; rfl, by rw [blk_cell h2]; rfl, by rw [blk_cell h2]; rfl⟩
  have HDC := Lib.hid (decodeR_any t a c b o K V W0 (hk.keep0 T0) hc hl hn hK hV (hm.keep T0))
  have HW : Hid (∀ W, Tch [] w W → Calls Try.prog 11 #[] W fun e w' => e = .returned (.bool true) ∧ Tch [] W w') := fun W t => wakes6_any W (hm.keep t)
  have HTR : Hid (∀ W, Tch [] w W → Calls Try.prog 9 #[t.agg a c] W (TbPost W t)) := fun W t3 => tableRef_any t a c b o W (hk.keep0 t3) hl
  have HDS : Hid (∀ l, decF t K.data.toList V.data.toList = some l → (∀ x ∈ l, x.Ok) ∧ l.length ≤ 1000000000 ∧ ∃ x, pairsF t l = some (K.data.toList, V.data.toList, x)) := fun l h => by
    obtain ⟨h1, x, h2⟩ := decF_some h
    exact ⟨rrowF_ok (by rw [← Lib.size_eq]; exact hK) (by rw [← Lib.size_eq]; exact hV) h1, by rw [pairsF_len h2]; exact hl, x, h2⟩
  have HPR : Hid (∀ (W : World) x c' b' (l : List Vl) y c2, IsKs W x t.cols.length b' 0 t.cols → W.ownsRow 0 65 2 (.slice y l.length c2) l.length (l.flatMap fVl) → (∀ x ∈ l, x.Ok) → Calls Try.prog 8 #[t.agg x c', .slice y l.length c2] W (RfpPost W t l)) := fun W x c' b' l y c2 h1 h2 h3 => by
    obtain ⟨rb, hr, _, _⟩ := IsR.own (f := fVl) (sz := 2) (fun _ => rfl) h2 rfl
    exact rfPairs_any t x c' b' 0 l y c2 rb 0 W h1 hr hl hn h3
  have HT0 := Lib.hid T0
  clear hb1 hb2 T0 hk hm
  unfold Tb.agg at *
  go_enter Try.func4, Try.ntmps4
  go_upto_region 1 with fail
  rw [← hW0]
  clear hW0
  obtain ⟨x0, x1, x2, x3, x4, x5⟩ := HX.out W0 (Tch.refl _ _)
  rcases hd : decF t K.data.toList V.data.toList with _ | l
  · rw [hd] at HDC
    clear hd HDS HPR HTR
    go_wp2_with fail
    refine HDC.out.mono ?_
    rintro e w1 ⟨rfl, t1⟩
    clear x0 x1 x2 x3 x4 x5 HDC HX
    have HC := Lib.hid (HW.out w1 (HT0.out.trans t1))
    have HT1 := Lib.hid (HT0.out.trans t1)
    clear HW t1 HT0
    go_wp2_with fail
    refine HC.out.mono ?_
    rintro e w2 ⟨rfl, t2⟩
    have HT2 := Lib.hid (HT1.out.trans t2)
    clear HC HT1 t2
    go_wp2_with fail
    first | exact ⟨rfl, HT2.out⟩ | (go_ret; exact ⟨rfl, HT2.out⟩)
  · rw [hd] at HDC
    obtain ⟨hok, hll, z, hps⟩ := HDS.out l hd
    have HOK := Lib.hid hok
    have HPS := Lib.hid hps
    clear hd HDS hok hps
    go_wp2_with fail
    refine HDC.out.mono ?_
    rintro e w1 ⟨x, c1, rfl, ho, t1⟩
    clear x0 x1 x2 x3 x4 x5 HDC
    have HC := Lib.hid (HW.out w1 (HT0.out.trans t1))
    have HO1 := Lib.hid ho
    have HT1 := Lib.hid t1
    clear HW t1 ho
    go_wp2_with fail
    refine HC.out.mono ?_
    rintro e w2 ⟨rfl, t2⟩
    have HT2 := Lib.hid (HT1.out.trans t2)
    have HO2 := Lib.hid (own_keep HO1.out t2 (fun _ _ => by simp))
    clear HC HT1 t2 HO1
    obtain ⟨x0, x1, x2, x3, x4, x5⟩ := HX.out w2 HT2.out
    have HC := Lib.hid (HTR.out w2 (HT0.out.trans HT2.out))
    go_wp2_with fail
    refine HC.out.mono ?_
    rintro e w3 ⟨⟨y, cy, by', rfl, hyk, hyc⟩, t3⟩
    clear x0 x1 x2 x3 x4 x5 HC HTR
    have HYK := Lib.hid hyk
    have HT3 := Lib.hid (HT2.out.trans t3)
    have HO3 := own_keep HO2.out t3 (fun _ _ => by simp)
    obtain ⟨rb, hr, _, _⟩ := IsR.own (f := fVl) (sz := 2) (fun _ => rfl) HO3 rfl
    have HC := Lib.hid (rowRef_any l x c1 rb 0 w3 hr hll)
    clear HO2 HO3 hr hyk hyc t3 HT2
    go_wp2_with fail
    refine HC.out.mono ?_
    rintro e w4 ⟨y2, c2, rfl, ho4, t4⟩
    have HC2 := Lib.hid (HPR.out w4 y cy by' l y2 c2 (HYK.out.keep0 t4) (own_base ho4 (Nat.zero_le _)) HOK.out)
    have HT4 := Lib.hid (HT3.out.trans t4)
    clear HC HPR HYK ho4 t4 HT3
    unfold RfpPost at HC2
    rw [HPS.out] at HC2
    go_wp2_with fail
    refine HC2.out.mono ?_
    rintro e w5 ⟨rfl, t5⟩
    have HT5 := Lib.hid (HT4.out.trans t5)
    clear HC2 HT4 t5 HPS HOK
    simp only [rfpE]
    rw [byt_self, byt_self]
    go_upto_region 7 with fail
    obtain ⟨W6, hW6⟩ : ∃ W6, W6 = w5.alloc (.cells #[.string K, .string V] 32) := ⟨_, rfl⟩
    have hp6 : W6.heap[w5.heap.size]? = some (.cells #[.string K, .string V] 32 (0, 0)) := by rw [hW6]; exact blk_new _ _
    have T6 : Tch [] W0 W6 := by rw [hW6]; exact HT5.out.alloc _
    have y0 : W6.cell? ⟨w5.heap.size, 0, none⟩ = some (.string K) := by rw [blk_cell hp6]; rfl
    have y1 : W6.cell? ⟨w5.heap.size, 1, none⟩ = some (.string V) := by rw [blk_cell hp6]; rfl
    obtain ⟨x0, x1, x2, x3, x4, x5⟩ := HX.out W6 T6
    have HE := Lib.hid (HT0.out.trans T6)
    rw [← hW6]
    clear HX HT5 HT0 hW6 hp6 T6
    go_wp2_with fail
    first | exact ⟨rfl, HE.out⟩ | (go_ret; exact ⟨rfl, HE.out⟩)
end Go.Proofs.Ytenohgogfddniaa
