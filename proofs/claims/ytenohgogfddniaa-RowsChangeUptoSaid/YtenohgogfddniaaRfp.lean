/-
  The document's 'Pairs'.
-/
import Derived.Test.YtenohgogfddniaaRfc
import Derived.Test.YtenohgogfddniaaPsl
import Derived.Test.YtenohgogfddniaaPof
import Derived.Deep.LoopGhost
import Derived.Deep.RegionHeld3
namespace Go.Proofs.Ytenohgogfddniaa
open Go.RowKit
set_option linter.unusedVariables false

def rfpE : Option (List UInt8 × List UInt8 × List UInt8) → Ending
  | none => .returned (.tuple #[.agg #[.string ⟨#[]⟩, .string ⟨#[]⟩], .string ⟨#[]⟩, .bool false])
  | some (k, v, x) => .returned (.tuple #[.agg #[.string ⟨k.toArray⟩, .string ⟨v.toArray⟩], .string ⟨x.toArray⟩, .bool true])
def RfpPost (w : World) (t : Tb) (r : List Vl) (e : Ending) (w' : World) : Prop := e = rfpE (pairsF t r) ∧ Tch [] w w'
/-- What is joined behind i rounds. -/
def kUp (t : Tb) (r : List Vl) (i : Nat) : List UInt8 := joinF kform ((t.cols.take t.keys.toNat).take i) ((r.take t.keys.toNat).take i)
def fUp (t : Tb) (r : List Vl) (i : Nat) : List UInt8 := joinF fform ((t.cols.drop t.keys.toNat).take (i - t.keys.toNat)) ((r.drop t.keys.toNat).take (i - t.keys.toNat))
theorem joinF_bound (F : Int → Vl → List UInt8) (hF : ∀ k x, x.Ok → (F k x).length ≤ 1000000100) : ∀ (ks : List Int) (xs : List Vl), (∀ x ∈ xs, x.Ok) → (joinF F ks xs).length ≤ xs.length * 1000000100
  | [], xs, h => by simp [joinF]
  | _ :: _, [], h => by simp [joinF]
  | k :: ks, x :: xs, h => by
    have h1 := joinF_bound F hF ks xs (fun y hy => h y (by simp [hy]))
    have h2 := hF k x (h x (by simp))
    rw [joinF, List.length_append, List.length_cons]; omega
theorem kUp_len {t : Tb} {r : List Vl} (i : Nat) (hok : ∀ x ∈ r, x.Ok) : (kUp t r i).length ≤ r.length * 1000000100 := by
  refine Nat.le_trans (joinF_bound kform kform_len _ _ (fun x hx => hok x (List.mem_of_mem_take (List.mem_of_mem_take hx)))) ?_
  refine Nat.mul_le_mul_right _ ?_
  rw [List.length_take, List.length_take]; omega
theorem fUp_len {t : Tb} {r : List Vl} (i : Nat) (hok : ∀ x ∈ r, x.Ok) : (fUp t r i).length ≤ r.length * 1000000100 := by
  refine Nat.le_trans (joinF_bound fform fform_len _ _ (fun x hx => hok x (List.mem_of_mem_drop (List.mem_of_mem_take hx)))) ?_
  refine Nat.mul_le_mul_right _ ?_
  rw [List.length_take, List.length_drop]; omega
theorem kUp_in {t : Tb} {r : List Vl} {i : Nat} {k : Int} {x : Vl} (hk : t.cols[i]? = some k) (hx : r[i]? = some x) (h : i < t.keys.toNat) : kUp t r (i + 1) = kUp t r i ++ kform k x := by
  unfold kUp
  exact joinF_take kform _ _ i k x (by rw [List.getElem?_take, if_pos h]; exact hk) (by rw [List.getElem?_take, if_pos h]; exact hx)
theorem kUp_out {t : Tb} {r : List Vl} {i : Nat} (h : t.keys.toNat ≤ i) : kUp t r (i + 1) = kUp t r i := by
  unfold kUp
  rw [List.take_take, List.take_take, List.take_take, List.take_take, Nat.min_eq_right (by omega), Nat.min_eq_right (by omega)]
theorem fUp_in {t : Tb} {r : List Vl} {i : Nat} (h : i < t.keys.toNat) : fUp t r (i + 1) = fUp t r i := by
  unfold fUp
  rw [show i + 1 - t.keys.toNat = 0 from by omega, show i - t.keys.toNat = 0 from by omega]
theorem fUp_out {t : Tb} {r : List Vl} {i : Nat} {k : Int} {x : Vl} (hk : t.cols[i]? = some k) (hx : r[i]? = some x) (h : t.keys.toNat ≤ i) : fUp t r (i + 1) = fUp t r i ++ fform k x := by
  unfold fUp
  rw [show i + 1 - t.keys.toNat = (i - t.keys.toNat) + 1 from by omega]
  exact joinF_take fform _ _ _ k x (by rw [List.getElem?_drop, show t.keys.toNat + (i - t.keys.toNat) = i from by omega]; exact hk) (by rw [List.getElem?_drop, show t.keys.toNat + (i - t.keys.toNat) = i from by omega]; exact hx)
theorem kUp_all {t : Tb} {r : List Vl} (hl : r.length = t.cols.length) : kUp t r r.length = keysOf t r := by
  unfold kUp keysOf
  have e1 : (t.cols.take t.keys.toNat).take r.length = t.cols.take t.keys.toNat := List.take_of_length_le (by rw [List.length_take]; omega)
  have e2 : (r.take t.keys.toNat).take r.length = r.take t.keys.toNat := List.take_of_length_le (by rw [List.length_take]; omega)
  rw [e1, e2]
theorem fUp_all {t : Tb} {r : List Vl} (hl : r.length = t.cols.length) : fUp t r r.length = fieldsOf t r := by
  unfold fUp fieldsOf
  by_cases h : t.keys.toNat ≤ r.length
  · have e1 : (t.cols.drop t.keys.toNat).take (r.length - t.keys.toNat) = t.cols.drop t.keys.toNat := List.take_of_length_le (by rw [List.length_drop]; omega)
    have e2 : (r.drop t.keys.toNat).take (r.length - t.keys.toNat) = r.drop t.keys.toNat := List.take_of_length_le (by rw [List.length_drop]; omega)
    rw [e1, e2]
  · rw [List.drop_of_length_le (by omega), List.drop_of_length_le (by omega)]
    simp
theorem hasV_bad {t : Tb} {r : List Vl} {i : Nat} {k : Int} {x : Vl} (hk : t.cols[i]? = some k) (hx : r[i]? = some x) (h : okV t i k x = false) : hasV t r = false := by
  have hi := (List.getElem?_eq_some_iff.1 hx).1
  unfold hasV
  rw [okUp_no t r (i := i) (by unfold okAt; rw [hk, hx]; exact h) _ hi, Bool.and_false]
theorem okUp_step {t : Tb} {r : List Vl} {i : Nat} {k : Int} {x : Vl} (hk : t.cols[i]? = some k) (hx : r[i]? = some x) (h : okUp t r i = true) (h2 : okV t i k x = true) : okUp t r (i + 1) = true := by
  rw [okUp, h]
  unfold okAt
  rw [hk, hx]; simpa using h2
theorem pairsF_bad {t : Tb} {r : List Vl} (h : hasV t r = false) : pairsF t r = none := by
  unfold pairsF; rw [h]; simp
theorem pairsF_unfit {t : Tb} {r : List Vl} (h : tfit t = false) : pairsF t r = none := by
  unfold pairsF; rw [h]; simp
theorem hasV_lenR {t : Tb} {r : List Vl} (h : r.length ≠ t.cols.length) : hasV t r = false := by
  unfold hasV
  rw [show (r.length == t.cols.length) = false from beq_false_of_ne h, Bool.false_and]

theorem tfit_kind {t : Tb} (h : tfit t = true) {i : Nat} {k : Int} (hk : t.cols[i]? = some k) : k = 0 ∨ k = 1 := by
  unfold tfit at h
  simp only [Bool.and_eq_true] at h
  have := List.all_eq_true.1 h.1.1.1.1.1.1 k (List.mem_of_getElem? hk)
  unfold kindB at this
  simpa using this

def RfRel (W0 : World) (t : Tb) (r : List Vl) (n : Nat) (v11 v9 v10 : Value) (wr : World) : Prop :=
  ∃ i : Nat, n + i = r.length ∧ v11 = .int .i64 i ∧ v9 = .string ⟨(kUp t r i).toArray⟩ ∧ v10 = .string ⟨(fUp t r i).toArray⟩ ∧ okUp t r i = true ∧ Tch [] W0 wr
/-- The cells of the call's own boxes, in a later world. -/
def RfX (t : Tb) (a : Option Addr) (c g : Nat) (W : World) : Prop :=
  (W.cell? ⟨g, 0, none⟩ = some (.int .u8 t.name) ∧ W.cell? ⟨g, 1, none⟩ = some (.slice a t.cols.length c) ∧ W.cell? ⟨g, 2, none⟩ = some (.int .i64 t.keys) ∧ W.cell? ⟨g, 3, none⟩ = some (.int .i64 t.idx)) ∧
  (W.cell? ⟨g + 1, 0, none⟩ = some (.string ⟨#[]⟩) ∧ W.cell? ⟨g + 1, 1, none⟩ = some (.string ⟨#[]⟩)) ∧ (W.cell? ⟨g + 1 + 1, 0, none⟩ = some (.string ⟨#[]⟩) ∧ W.cell? ⟨g + 1 + 1, 1, none⟩ = some (.string ⟨#[]⟩)) ∧
  W.frozen? ⟨g + 1, 0, none⟩ = false ∧ W.frozen? ⟨g + 1, 1, none⟩ = false ∧ g + 1 < W.heap.size

set_option maxRecDepth 100000 in
set_option maxHeartbeats 4000000 in
theorem rfPairs_any (t : Tb) (a : Option Addr) (c b o : Nat) (r : List Vl) (ra : Option Addr) (rc rb ro : Nat) (w : World) (hk : IsKs w a t.cols.length b o t.cols) (hr : IsVs w ra r.length rb ro r) (hl : t.cols.length ≤ 1000000000) (hn : t.name < 256) (hok : ∀ x ∈ r, x.Ok) :
    Calls Try.prog 8 #[t.agg a c, .slice ra r.length rc] w (RfpPost w t r) := by
  obtain ⟨W0, hW0⟩ : ∃ W0, W0 = (((w.alloc (.cells #[.int .u8 t.name, .slice a t.cols.length c, .int .i64 t.keys, .int .i64 t.idx] 37)).alloc (.cells #[.string ⟨#[]⟩, .string ⟨#[]⟩] 32)).alloc (.cells #[.string ⟨#[]⟩, .string ⟨#[]⟩] 32)) := ⟨_, rfl⟩
  have s1 : (w.alloc (.cells #[.int .u8 t.name, .slice a t.cols.length c, .int .i64 t.keys, .int .i64 t.idx] 37)).heap.size = w.heap.size + 1 := Array.size_push _
  have s2 : ((w.alloc (.cells #[.int .u8 t.name, .slice a t.cols.length c, .int .i64 t.keys, .int .i64 t.idx] 37)).alloc (.cells #[.string ⟨#[]⟩, .string ⟨#[]⟩] 32)).heap.size = w.heap.size + 1 + 1 := by rw [← s1]; exact Array.size_push _
  have hb0 : W0.heap[w.heap.size]? = some (.cells #[.int .u8 t.name, .slice a t.cols.length c, .int .i64 t.keys, .int .i64 t.idx] 37 (0, 0)) := by rw [hW0]; exact blk_alloc (blk_alloc (blk_new w _) _) _
  have hb1 : W0.heap[w.heap.size + 1]? = some (.cells #[.string ⟨#[]⟩, .string ⟨#[]⟩] 32 (0, 0)) := by
    have h := blk_new (w.alloc (.cells #[.int .u8 t.name, .slice a t.cols.length c, .int .i64 t.keys, .int .i64 t.idx] 37)) (.cells #[.string ⟨#[]⟩, .string ⟨#[]⟩] 32)
    rw [s1] at h
    rw [hW0]; exact blk_alloc h _
  have hb2 : W0.heap[w.heap.size + 1 + 1]? = some (.cells #[.string ⟨#[]⟩, .string ⟨#[]⟩] 32 (0, 0)) := by
    have h := blk_new ((w.alloc (.cells #[.int .u8 t.name, .slice a t.cols.length c, .int .i64 t.keys, .int .i64 t.idx] 37)).alloc (.cells #[.string ⟨#[]⟩, .string ⟨#[]⟩] 32)) (.cells #[.string ⟨#[]⟩, .string ⟨#[]⟩] 32)
    rw [s2] at h
    rw [hW0]; exact h
  have T0 : Tch [] w W0 := by rw [hW0]; exact (((Tch.refl [] w).alloc _).alloc _).alloc _
  have HX : Hid (∀ W, Tch [] W0 W → RfX t a c w.heap.size W) := fun W t3 => by
    have h0 := t3.keep hb0 (by simp)
    have h1 := t3.keep hb1 (by simp)
    have h2 := t3.keep hb2 (by simp)
    exact ⟨⟨by rw [blk_cell h0]; rfl, by rw [blk_cell h0]; rfl, by rw [blk_cell h0]; rfl, by rw [blk_cell h0]; rfl⟩, ⟨by rw [blk_cell h1]; rfl, by rw [blk_cell h1]; rfl⟩, ⟨by rw [blk_cell h2]; rfl, by rw [blk_cell h2]; rfl⟩, blk_free h1 0, blk_free h1 1, lt_of_block h1⟩
  have HQ : Hid (∀ W, Tch [] W0 W → ∀ x0 x1, ((W.setCell ⟨w.heap.size + 1, 0, none⟩ x0).setCell ⟨w.heap.size + 1, 1, none⟩ x1).cell? ⟨w.heap.size + 1, 0, none⟩ = some x0 ∧ ((W.setCell ⟨w.heap.size + 1, 0, none⟩ x0).setCell ⟨w.heap.size + 1, 1, none⟩ x1).cell? ⟨w.heap.size + 1, 1, none⟩ = some x1) := fun W t3 x0 x1 => by
    have h1 := blk_set (blk_set (t3.keep hb1 (by simp)) 0 x0) 1 x1
    exact ⟨by rw [blk_cell h1]; rfl, by rw [blk_cell h1]; rfl⟩
  have HT0 := Lib.hid T0
  have HNO : Hid (∀ W, pairsF t r = none → Tch [] W0 W → ∀ x0 x1, RfpPost w t r (.returned (.tuple #[.agg #[.string ⟨#[]⟩, .string ⟨#[]⟩], .string ⟨#[]⟩, .bool false])) ((W.setCell ⟨w.heap.size + 1, 0, none⟩ x0).setCell ⟨w.heap.size + 1, 1, none⟩ x1)) := fun W h t3 x0 x1 =>
    ⟨by rw [h]; rfl, ((HT0.out.trans t3).setNew (by simp) _).setNew (by simp) _⟩
  have HFT := Lib.hid (fun (W : World) (T : Tch [] W0 W) => rfFit_any t a c b o W (hk.keep0 (HT0.out.trans T)) hl)
  have HYES : Hid (∀ W k v x, pairsF t r = some (k, v, x) → Tch [] W0 W → ∀ x0 x1, RfpPost w t r (.returned (.tuple #[.agg #[.string ⟨k.toArray⟩, .string ⟨v.toArray⟩], .string ⟨x.toArray⟩, .bool true])) ((W.setCell ⟨w.heap.size + 1, 0, none⟩ x0).setCell ⟨w.heap.size + 1, 1, none⟩ x1)) := fun W k v x h t3 x0 x1 =>
    ⟨by rw [h]; rfl, ((HT0.out.trans t3).setNew (by simp) _).setNew (by simp) _⟩
  generalize hQP : RfpPost w t r = Q at HNO HYES ⊢
  clear hb0 hb1 hb2 T0 s1 s2 hQP
  unfold Tb.agg at *
  go_enter Try.func8, Try.ntmps8
  go_upto_region 2 with fail
  rw [← hW0]
  clear hW0
  obtain ⟨⟨x0, x1, x2, x3⟩, ⟨y0, y1⟩, ⟨z0, z1⟩, f0, f1, hg1⟩ := HX.out W0 (Tch.refl _ _)
  have HC := Lib.hid (HFT.out W0 (Tch.refl _ _))
  rcases hf : tfit t with _ | _
  · rw [hf] at HC
    have HPN := Lib.hid (pairsF_unfit (r := r) hf)
    clear hf HFT hok hk hr
    go_wp2_with fail
    refine HC.out.mono ?_
    rintro e w1 ⟨rfl, t1⟩
    clear x0 x1 x2 x3 y0 y1 z0 z1 f0 f1 hg1 HC
    obtain ⟨⟨x0, x1, x2, x3⟩, ⟨y0, y1⟩, ⟨z0, z1⟩, f0, f1, hg1⟩ := HX.out w1 t1
    obtain ⟨q0, q1⟩ := HQ.out w1 t1 (.string ⟨#[]⟩) (.string ⟨#[]⟩)
    have HE := Lib.hid (HNO.out w1 HPN.out t1 (.string ⟨#[]⟩) (.string ⟨#[]⟩))
    clear HNO HYES HX HQ HPN t1
    go_wp2_with fail
    exact bodyPost_ret (v := .tuple #[.agg #[.string ⟨#[]⟩, .string ⟨#[]⟩], .string ⟨#[]⟩, .bool false]) (by simp [results, Try.results8, go_sem, q0, q1]) rfl HE.out
  · rw [hf] at HC
    have HTF := Lib.hid hf
    clear hf HFT
    by_cases hlen : r.length ≠ t.cols.length
    · have HPN := Lib.hid (pairsF_bad (hasV_lenR hlen))
      have hne : ((r.length : Int) != (t.cols.length : Int)) = true := by simp; omega
      clear hok hk hr hlen HTF
      go_wp2_with fail
      refine HC.out.mono ?_
      rintro e w1 ⟨rfl, t1⟩
      clear x0 x1 x2 x3 y0 y1 z0 z1 f0 f1 hg1 HC
      obtain ⟨⟨x0, x1, x2, x3⟩, ⟨y0, y1⟩, ⟨z0, z1⟩, f0, f1, hg1⟩ := HX.out w1 t1
      obtain ⟨q0, q1⟩ := HQ.out w1 t1 (.string ⟨#[]⟩) (.string ⟨#[]⟩)
      have HE := Lib.hid (HNO.out w1 HPN.out t1 (.string ⟨#[]⟩) (.string ⟨#[]⟩))
      clear HNO HYES HX HQ HPN t1
      go_wp2_with fail
      exact bodyPost_ret (v := .tuple #[.agg #[.string ⟨#[]⟩, .string ⟨#[]⟩], .string ⟨#[]⟩, .bool false]) (by simp [results, Try.results8, go_sem, q0, q1]) rfl HE.out
    · have hlen := Decidable.not_not.1 hlen
      have hnb : ((r.length : Int) != (t.cols.length : Int)) = false := by rw [hlen]; simp
      obtain ⟨hkk1, hkk2, hix1, hix2⟩ := tfit_keys HTF.out
      have HST : Hid (∀ w1, Tch [] W0 w1 → RfRel W0 t r r.length (.int .i64 0) (.string ⟨#[]⟩) (.string ⟨#[]⟩) w1) := fun w1 t1 => ⟨0, by omega, rfl, by unfold kUp; simp [joinF], by unfold fUp; simp [joinF], rfl, t1⟩
      have HCE : Hid (∀ W, Tch [] W0 W → ∀ (i : Nat) k x, t.cols[i]? = some k → r[i]? = some x → (a = some ⟨b, o, none⟩ ∧ ra = some ⟨rb, ro, none⟩) ∧ W.cell? ⟨b, o + i, none⟩ = some (.int .i64 k) ∧ W.cell? ⟨rb, ro + i * 2, none⟩ = some (.int .i64 x.n) ∧ W.cell? ⟨rb, ro + i * 2 + 1, none⟩ = some (.string x.s)) := fun W T i k x h1 h2 => by
        have q1 := hk.keep0 (HT0.out.trans T)
        have q2 := hr.keep0 (HT0.out.trans T)
        have l1 := (List.getElem?_eq_some_iff.1 h1).1
        have l2 := (List.getElem?_eq_some_iff.1 h2).1
        exact ⟨⟨hk.some_ (by omega), hr.some_ (by omega)⟩, q1.one h1 rfl, q2.c0 h2 rfl, by have := q2.c h2 1 (v := .string x.s) rfl; rwa [Nat.add_assoc] at this ⊢⟩
      have HKB := Lib.hid hk
      have HOK := Lib.hid hok
      have HLN := Lib.hid hlen
      have HNM := Lib.hid hn
      have HI1 := Lib.hid hix1
      have HI2 := Lib.hid hix2
      have HK1 := Lib.hid hkk1
      have HK2 := Lib.hid hkk2
      clear hlen hok hk hr hn hkk1 hkk2 hix1 hix2
      go_wp2_with fail
      refine HC.out.mono ?_
      rintro e w1 ⟨rfl, t1⟩
      clear x0 x1 x2 x3 y0 y1 z0 z1 f0 f1 hg1 HC
      obtain ⟨⟨x0, x1, x2, x3⟩, ⟨y0, y1⟩, ⟨z0, z1⟩, f0, f1, hg1⟩ := HX.out w1 t1
      go_upto_region 8 with fail
      clear x0 x1 x2 x3 y0 y1 z0 z1 f0 f1 hg1 hnb
      go_loopg [11, 9, 10] r.length (fun n v11 v9 v10 wr => RfRel W0 t r n v11 v9 v10 wr)
      case atStart => exact HST.out w1 t1
      case round =>
        obtain ⟨i, hni, rfl, rfl, rfl, hup, T⟩ := hrel
        clear t1 HST
        match gk, hni with
          | 0, hni =>
            obtain rfl : i = r.length := by omega
            have hlt : decide (r.length < r.length) = false := decide_eq_false (by omega)
            have HHV : Hid (hasV t r = true) := by unfold hasV; rw [show (r.length == t.cols.length) = true from by rw [HLN.out]; simp, hup]; rfl
            rw [kUp_all HLN.out, fUp_all HLN.out]
            have hkl : (keysOf t r).length ≤ 1000000000 * 1000000100 := by rw [← kUp_all HLN.out]; exact Nat.le_trans (kUp_len r.length HOK.out) (Nat.mul_le_mul_right _ (by have := HLN.out; omega))
            have HPF : Hid (pairsF t r = if decide ((keysOf t r).length ≤ 46) && decide ((fieldsOf t r).length ≤ 200) && decide ((indexOf t r).length ≤ 48) then some (tbegin t 0 ++ keysOf t r, fieldsOf t r, indexOf t r) else none) := by unfold pairsF; rw [HTF.out, HHV.out]; rfl
            obtain ⟨KE, hKE⟩ : ∃ KE, KE = tbegin t 0 ++ keysOf t r := ⟨_, rfl⟩
            have HAD : ∀ W : World, (Op.stringOp .add ⟨#[UInt8.ofNat t.name, 0]⟩ ⟨(keysOf t r).toArray⟩).run Try.prog W = .ok (.string ⟨KE.toArray⟩) W := fun W => by
              have h2 : (⟨#[UInt8.ofNat t.name, 0]⟩ : ByteArray).size = 2 := rfl
              have h3 : (⟨(keysOf t r).toArray⟩ : ByteArray).size = (keysOf t r).length := List.size_toArray
              refine (run_string_add_sum W _ _ (by omega)).trans ?_
              rw [show (⟨#[UInt8.ofNat t.name, 0]⟩ : ByteArray) = ⟨(tbegin t 0).toArray⟩ from rfl, cat_l, hKE]
            have hKL : KE.length = (keysOf t r).length + 2 := by rw [hKE, List.length_append, Nat.add_comm]; rfl
            have HKE := Lib.hid hKE
            have HKL := Lib.hid hKL
            have hcv : (convert 70 9 (.slice (some ⟨wr.heap.size, 0, none⟩) 2 2)).run Try.prog (wr.alloc (.cells #[.int .u8 t.name, .int .u8 0] 5)) = .ok (.string ⟨#[UInt8.ofNat t.name, 0]⟩) (wr.alloc (.cells #[.int .u8 t.name, .int .u8 0] 5)) := conv_two (wr.alloc (.cells #[.int .u8 t.name, .int .u8 0] 5)) wr.heap.size t.name 0 _ _ (blk_new _ _) HNM.out (by decide)
            clear hKE hKL hup
            obtain ⟨⟨x0, x1, x2, x3⟩, ⟨y0, y1⟩, ⟨z0, z1⟩, f0, f1, hg1⟩ := HX.out wr (T)
            go_upto_region 25 with fail
            clear x0 x1 x2 x3 y0 y1 z0 z1 f0 f1 hg1 hcv HAD
            obtain ⟨W1, hW1⟩ : ∃ W1, W1 = (wr.alloc (.cells #[.int .u8 t.name, .int .u8 0] 5)).alloc (.cells #[.string ⟨KE.toArray⟩, .string ⟨(fieldsOf t r).toArray⟩] 32) := ⟨_, rfl⟩
            have hp1 : W1.heap[wr.heap.size + 1]? = some (.cells #[.string ⟨KE.toArray⟩, .string ⟨(fieldsOf t r).toArray⟩] 32 (0, 0)) := by
              have h := blk_new (wr.alloc (.cells #[.int .u8 t.name, .int .u8 0] 5)) (.cells #[.string ⟨KE.toArray⟩, .string ⟨(fieldsOf t r).toArray⟩] 32)
              rw [show (wr.alloc (.cells #[.int .u8 t.name, .int .u8 0] 5)).heap.size = wr.heap.size + 1 from Array.size_push _] at h
              rw [hW1]; exact h
            have T1 : Tch [] W0 W1 := by rw [hW1]; exact (T.alloc _).alloc _
            rw [← hW1]
            have HP1 := Lib.hid hp1
            have HPC : Hid (∀ W, Tch [] W1 W → W.cell? ⟨wr.heap.size + 1, 0, none⟩ = some (.string ⟨KE.toArray⟩) ∧ W.cell? ⟨wr.heap.size + 1, 1, none⟩ = some (.string ⟨(fieldsOf t r).toArray⟩)) := fun W t3 => by
              have h1 := t3.keep HP1.out (by simp)
              exact ⟨by rw [blk_cell h1]; rfl, by rw [blk_cell h1]; rfl⟩
            have HT1 := Lib.hid T1
            generalize wr.heap.size + 1 = G1 at *
            clear hW1 hp1 T1 HP1 T
            by_cases hix : t.idx = -1
            · have ixnil : indexOf t r = [] := by unfold indexOf; rw [if_pos hix]
              obtain ⟨⟨x0, x1, x2, x3⟩, ⟨y0, y1⟩, ⟨z0, z1⟩, f0, f1, hg1⟩ := HX.out W1 (HT1.out)
              have hge : ¬ (0 : Int) ≤ t.idx := by omega
              go_upto_region 28 with fail
              clear x0 x1 x2 x3 y0 y1 z0 z1 f0 f1 hg1 hge hix
              have ixlen : (indexOf t r).length = 0 := by rw [ixnil]; rfl
              have IXN := Lib.hid ixnil
              have HTn := Lib.hid (HT1.out)
              obtain ⟨p0, p1⟩ := HPC.out W1 (Tch.refl _ _)
              obtain ⟨⟨x0, x1, x2, x3⟩, ⟨y0, y1⟩, ⟨z0, z1⟩, f0, f1, hg1⟩ := HX.out W1 (HT1.out)
              have hsk : (⟨KE.toArray⟩ : ByteArray).size = KE.length := List.size_toArray
              have hsf : (⟨(fieldsOf t r).toArray⟩ : ByteArray).size = (fieldsOf t r).length := List.size_toArray
              by_cases g1 : (keysOf t r).length ≤ 46
              · by_cases g2 : (indexOf t r).length ≤ 48
                · by_cases g3 : (fieldsOf t r).length ≤ 200
                  · have HPS : Hid (pairsF t r = some (KE, fieldsOf t r, indexOf t r)) := by rw [HPF.out, HKE.out, decide_eq_true g1, decide_eq_true g2, decide_eq_true g3]; rfl
                    have k3 : KE.length ≤ 48 := by have := HKL.out; omega
                    obtain ⟨q0, q1⟩ := HQ.out W1 HTn.out (.string ⟨KE.toArray⟩) (.string ⟨(fieldsOf t r).toArray⟩)
                    have HE := Lib.hid (HYES.out W1 _ _ _ HPS.out HTn.out (.string ⟨KE.toArray⟩) (.string ⟨(fieldsOf t r).toArray⟩))
                    rw [ixnil] at HE
                    clear HNO HYES HPF HX HQ HCE HPC HTn HPS HKL HKE HOK
                    go_wp2_with fail
                    exact bodyPost_ret (v := .tuple #[.agg #[.string ⟨KE.toArray⟩, .string ⟨(fieldsOf t r).toArray⟩], .string ⟨#[]⟩, .bool true]) (by simp [results, Try.results8, go_sem, q0, q1]) rfl HE.out
                  · have k3 : KE.length ≤ 48 := by have := HKL.out; omega
                    have HPN := Lib.hid (show pairsF t r = none from by rw [HPF.out]; rw [decide_eq_false g3]; simp)
                    obtain ⟨q0, q1⟩ := HQ.out W1 HTn.out (.string ⟨#[]⟩) (.string ⟨#[]⟩)
                    have HE := Lib.hid (HNO.out W1 HPN.out HTn.out (.string ⟨#[]⟩) (.string ⟨#[]⟩))
                    clear HNO HYES HPF HX HQ HCE HPC HTn HPN HKL HKE HOK
                    go_wp2_with fail
                    exact bodyPost_ret (v := .tuple #[.agg #[.string ⟨#[]⟩, .string ⟨#[]⟩], .string ⟨#[]⟩, .bool false]) (by simp [results, Try.results8, go_sem, q0, q1]) rfl HE.out
                · exact absurd (show (indexOf t r).length ≤ 48 by omega) g2
              · have k3 : 48 < KE.length := by have := HKL.out; omega
                have HPN := Lib.hid (show pairsF t r = none from by rw [HPF.out]; rw [decide_eq_false g1]; simp)
                obtain ⟨q0, q1⟩ := HQ.out W1 HTn.out (.string ⟨#[]⟩) (.string ⟨#[]⟩)
                have HE := Lib.hid (HNO.out W1 HPN.out HTn.out (.string ⟨#[]⟩) (.string ⟨#[]⟩))
                clear HNO HYES HPF HX HQ HCE HPC HTn HPN HKL HKE HOK
                go_wp2_with fail
                exact bodyPost_ret (v := .tuple #[.agg #[.string ⟨#[]⟩, .string ⟨#[]⟩], .string ⟨#[]⟩, .bool false]) (by simp [results, Try.results8, go_sem, q0, q1]) rfl HE.out
            · obtain ⟨j, hj⟩ : ∃ j : Nat, t.idx = (j : Int) := ⟨t.idx.toNat, by have := HI1.out; omega⟩
              have hjc : j < t.cols.length := by have := HI2.out; omega
              have hjr : j < r.length := by have := HLN.out; omega
              have hgc : t.cols[j]? = some t.cols[j] := List.getElem?_eq_getElem hjc
              have hgr : r[j]? = some r[j] := List.getElem?_eq_getElem hjr
              have hge : (0 : Int) ≤ (j : Int) := by omega
              have hjr2 : (j : Int) < (r.length : Int) := by omega
              have HIX : Hid (indexOf t r = ibegin t t.cols[j] r[j] ++ keysOf t r) := by
                unfold indexOf; rw [if_neg hix, hj, Int.toNat_natCast, List.getD_eq_getElem?_getD, List.getD_eq_getElem?_getD, hgc, hgr]; rfl
              have HFO : Hid (∀ W, Tch [] W0 W → Calls Try.prog 23 #[.agg #[.int .u8 t.name, .slice a t.cols.length c, .int .i64 t.keys, .int .i64 t.idx], (r[j]).agg] W fun e w' => e = .returned (.string ⟨(ibegin t t.cols[j] r[j]).toArray⟩) ∧ Tch [] W w') := fun W T => rfForm_any t a c b o j _ _ W (HKB.out.keep0 (HT0.out.trans T)) hgc hj hl HNM.out (HOK.out _ (List.getElem_mem hjr))
              obtain ⟨⟨ha, hra⟩, _⟩ := HCE.out W1 HT1.out j _ _ hgc hgr
              subst ha hra
              have HCJ : Hid (∀ W, Tch [] W0 W → W.cell? ⟨rb, ro + j * 2, none⟩ = some (.int .i64 (r[j]).n) ∧ W.cell? ⟨rb, ro + j * 2 + 1, none⟩ = some (.string (r[j]).s)) := fun W T => (HCE.out W T j _ _ hgc hgr).2.2
              have hib : (ibegin t t.cols[j] r[j]).length ≤ 1000000102 := by have := kform_len t.cols[j] r[j] (HOK.out _ (List.getElem_mem hjr)); unfold ibegin; rw [List.length_append, show (tbegin t 1).length = 2 from rfl]; omega
              have HAD2 : ∀ W : World, (Op.stringOp .add ⟨(ibegin t t.cols[j] r[j]).toArray⟩ ⟨(keysOf t r).toArray⟩).run Try.prog W = .ok (.string ⟨(indexOf t r).toArray⟩) W := fun W => by
                have h2 : (⟨(ibegin t t.cols[j] r[j]).toArray⟩ : ByteArray).size = (ibegin t t.cols[j] r[j]).length := List.size_toArray
                have h3 : (⟨(keysOf t r).toArray⟩ : ByteArray).size = (keysOf t r).length := List.size_toArray
                refine (run_string_add_sum W _ _ (by omega)).trans ?_
                rw [cat_l, HIX.out]
              unfold Vl.agg at HFO
              clear hgc hgr HIX hib
              generalize ibegin t t.cols[j] r[j] = IB at *
              generalize r[j] = y at *
              obtain ⟨yn, ys⟩ := y
              simp only at HFO HCJ
              have HX2 : Hid (∀ W, Tch [] W0 W → (W.cell? ⟨w.heap.size, 0, none⟩ = some (.int .u8 t.name) ∧ W.cell? ⟨w.heap.size, 1, none⟩ = some (.slice (some ⟨b, o, none⟩) t.cols.length c) ∧ W.cell? ⟨w.heap.size, 2, none⟩ = some (.int .i64 t.keys) ∧ W.cell? ⟨w.heap.size, 3, none⟩ = some (.int .i64 t.idx)) ∧ W.cell? ⟨rb, ro + j * 2, none⟩ = some (.int .i64 yn) ∧ W.cell? ⟨rb, ro + j * 2 + 1, none⟩ = some (.string ys)) := fun W T => ⟨(HX.out W T).1, HCJ.out W T⟩
              have HJ := Lib.hid hj
              unfold RfX at HX
              rw [hj] at HX HX2 HFO
              have HIXN := Lib.hid hix
              obtain ⟨⟨x0, x1, x2, x3⟩, ⟨y0, y1⟩, ⟨z0, z1⟩, f0, f1, hg1⟩ := HX.out W1 (HT1.out)
              clear hix hj HCJ
              go_upto_region 26 with fail
              clear x0 x1 x2 x3 y0 y1 z0 z1 f0 f1 hg1
              have td : Tch [] W1 W1.drew := (Tch.refl _ _).drew
              go_region_held3 (fun W => (W.cell? ⟨w.heap.size, 0, none⟩ = some (.int .u8 t.name) ∧ W.cell? ⟨w.heap.size, 1, none⟩ = some (.slice (some ⟨b, o, none⟩) t.cols.length c) ∧ W.cell? ⟨w.heap.size, 2, none⟩ = some (.int .i64 t.keys) ∧ W.cell? ⟨w.heap.size, 3, none⟩ = some (.int .i64 (j : Int))) ∧ W.cell? ⟨rb, ro + j * 2, none⟩ = some (.int .i64 yn) ∧ W.cell? ⟨rb, ro + j * 2 + 1, none⟩ = some (.string ys))
                (first | exact HX2.out _ (HT1.out.trans td) | exact HX2.out _ (HT1.out.trans (td.trans t5)))
                (first | (go_at_call 23; (with_reducible refine (HFO.out _ (HT1.out.trans td)).mono ?_); rintro e w5 ⟨rfl, t5⟩))
              have HTP := Lib.hid (td.trans t5)
              have HT5 := Lib.hid (HT1.out.trans HTP.out)
              clear HFO HX2 td t5
              go_upto_region 28 with fail
              clear HAD2
              have HTn := Lib.hid (HT5.out)
              obtain ⟨p0, p1⟩ := HPC.out w5 (HTP.out)
              obtain ⟨⟨x0, x1, x2, x3⟩, ⟨y0, y1⟩, ⟨z0, z1⟩, f0, f1, hg1⟩ := HX.out w5 (HT5.out)
              have hsk : (⟨KE.toArray⟩ : ByteArray).size = KE.length := List.size_toArray
              have hsf : (⟨(fieldsOf t r).toArray⟩ : ByteArray).size = (fieldsOf t r).length := List.size_toArray
              have hsx : (⟨(indexOf t r).toArray⟩ : ByteArray).size = (indexOf t r).length := List.size_toArray
              by_cases g1 : (keysOf t r).length ≤ 46
              · by_cases g2 : (indexOf t r).length ≤ 48
                · by_cases g3 : (fieldsOf t r).length ≤ 200
                  · have HPS : Hid (pairsF t r = some (KE, fieldsOf t r, indexOf t r)) := by rw [HPF.out, HKE.out, decide_eq_true g1, decide_eq_true g2, decide_eq_true g3]; rfl
                    have k3 : KE.length ≤ 48 := by have := HKL.out; omega
                    obtain ⟨q0, q1⟩ := HQ.out w5 HTn.out (.string ⟨KE.toArray⟩) (.string ⟨(fieldsOf t r).toArray⟩)
                    have HE := Lib.hid (HYES.out w5 _ _ _ HPS.out HTn.out (.string ⟨KE.toArray⟩) (.string ⟨(fieldsOf t r).toArray⟩))
                    clear HNO HYES HPF HX HQ HCE HPC HTn HPS HKL HKE HOK
                    go_wp2_with fail
                    exact bodyPost_ret (v := .tuple #[.agg #[.string ⟨KE.toArray⟩, .string ⟨(fieldsOf t r).toArray⟩], .string ⟨(indexOf t r).toArray⟩, .bool true]) (by simp [results, Try.results8, go_sem, q0, q1]) rfl HE.out
                  · have k3 : KE.length ≤ 48 := by have := HKL.out; omega
                    have HPN := Lib.hid (show pairsF t r = none from by rw [HPF.out]; rw [decide_eq_false g3]; simp)
                    obtain ⟨q0, q1⟩ := HQ.out w5 HTn.out (.string ⟨#[]⟩) (.string ⟨#[]⟩)
                    have HE := Lib.hid (HNO.out w5 HPN.out HTn.out (.string ⟨#[]⟩) (.string ⟨#[]⟩))
                    clear HNO HYES HPF HX HQ HCE HPC HTn HPN HKL HKE HOK
                    go_wp2_with fail
                    exact bodyPost_ret (v := .tuple #[.agg #[.string ⟨#[]⟩, .string ⟨#[]⟩], .string ⟨#[]⟩, .bool false]) (by simp [results, Try.results8, go_sem, q0, q1]) rfl HE.out
                · have k3 : KE.length ≤ 48 := by have := HKL.out; omega
                  have HPN := Lib.hid (show pairsF t r = none from by rw [HPF.out]; rw [decide_eq_false g2]; simp)
                  obtain ⟨q0, q1⟩ := HQ.out w5 HTn.out (.string ⟨#[]⟩) (.string ⟨#[]⟩)
                  have HE := Lib.hid (HNO.out w5 HPN.out HTn.out (.string ⟨#[]⟩) (.string ⟨#[]⟩))
                  clear HNO HYES HPF HX HQ HCE HPC HTn HPN HKL HKE HOK
                  go_wp2_with fail
                  exact bodyPost_ret (v := .tuple #[.agg #[.string ⟨#[]⟩, .string ⟨#[]⟩], .string ⟨#[]⟩, .bool false]) (by simp [results, Try.results8, go_sem, q0, q1]) rfl HE.out
              · have k3 : 48 < KE.length := by have := HKL.out; omega
                have HPN := Lib.hid (show pairsF t r = none from by rw [HPF.out]; rw [decide_eq_false g1]; simp)
                obtain ⟨q0, q1⟩ := HQ.out w5 HTn.out (.string ⟨#[]⟩) (.string ⟨#[]⟩)
                have HE := Lib.hid (HNO.out w5 HPN.out HTn.out (.string ⟨#[]⟩) (.string ⟨#[]⟩))
                clear HNO HYES HPF HX HQ HCE HPC HTn HPN HKL HKE HOK
                go_wp2_with fail
                exact bodyPost_ret (v := .tuple #[.agg #[.string ⟨#[]⟩, .string ⟨#[]⟩], .string ⟨#[]⟩, .bool false]) (by simp [results, Try.results8, go_sem, q0, q1]) rfl HE.out
          | m + 1, hni =>
            have hi' : i < r.length := by omega
            have hlt : decide (i < r.length) = true := decide_eq_true hi'
            have hi1 : (i : Int) < (r.length : Int) := by omega
            have hic : i < t.cols.length := by have := HLN.out; omega
            have hi2 : (i : Int) < (t.cols.length : Int) := by omega
            have hgc : t.cols[i]? = some t.cols[i] := List.getElem?_eq_getElem hic
            have hgr : r[i]? = some r[i] := List.getElem?_eq_getElem hi'
            have HGC := Lib.hid hgc
            have HGR := Lib.hid hgr
            have hyok := HOK.out _ (List.getElem_mem hi')
            have hkind := tfit_kind HTF.out hgc
            have hklen : (kUp t r i).length ≤ 1000000000 * 1000000100 := Nat.le_trans (kUp_len i HOK.out) (Nat.mul_le_mul_right _ (by have := HLN.out; omega))
            have hflen : (fUp t r i).length ≤ 1000000000 * 1000000100 := Nat.le_trans (fUp_len i HOK.out) (Nat.mul_le_mul_right _ (by have := HLN.out; omega))
            obtain ⟨⟨ha, hra⟩, c0, c1, c2⟩ := HCE.out wr T i _ _ hgc hgr
            subst ha hra
            clear hgc hgr HYES
            generalize t.cols[i] = kc at *
            generalize r[i] = y at *
            have hkfl := kform_len kc y hyok
            have hffl := fform_len kc y hyok
            have HBR := Lib.hid (fun (W : World) => bare_any y.s W hyok.2.2)
            have HFM := Lib.hid (fun (W : World) => rfform_any kc y W hyok)
            have HTX := Lib.hid (fun (W : World) => rtext_any y.s W hyok.2.2)
            have HIN := Lib.hid (fun (W : World) => rint_any y.n W hyok.1 hyok.2.1)
            have HADK : Hid (i < t.keys.toNat → ∀ W : World, (Op.stringOp .add ⟨(kUp t r i).toArray⟩ ⟨(kform kc y).toArray⟩).run Try.prog W = .ok (.string ⟨(kUp t r (i + 1)).toArray⟩) W) := fun h W => by
              have h2 : (⟨(kUp t r i).toArray⟩ : ByteArray).size = (kUp t r i).length := List.size_toArray
              have h3 : (⟨(kform kc y).toArray⟩ : ByteArray).size = (kform kc y).length := List.size_toArray
              refine (run_string_add_sum W _ _ (by omega)).trans ?_
              rw [cat_l, kUp_in HGC.out HGR.out h]
            have HADF : Hid (t.keys.toNat ≤ i → ∀ W : World, (Op.stringOp .add ⟨(fUp t r i).toArray⟩ ⟨(fform kc y).toArray⟩).run Try.prog W = .ok (.string ⟨(fUp t r (i + 1)).toArray⟩) W) := fun h W => by
              have h2 : (⟨(fUp t r i).toArray⟩ : ByteArray).size = (fUp t r i).length := List.size_toArray
              have h3 : (⟨(fform kc y).toArray⟩ : ByteArray).size = (fform kc y).length := List.size_toArray
              refine (run_string_add_sum W _ _ (by omega)).trans ?_
              rw [cat_l, fUp_out HGC.out HGR.out h]
            have HRK : Hid (i < t.keys.toNat → okV t i kc y = true → ∀ W, Tch [] W0 W → RfRel W0 t r m (.int .i64 ((i + 1 : Nat) : Int)) (.string ⟨(kUp t r (i + 1)).toArray⟩) (.string ⟨(fUp t r i).toArray⟩) W) := fun h h2 W t3 => ⟨i + 1, by omega, rfl, rfl, by rw [fUp_in h], okUp_step HGC.out HGR.out hup h2, t3⟩
            have HRF : Hid (t.keys.toNat ≤ i → okV t i kc y = true → ∀ W, Tch [] W0 W → RfRel W0 t r m (.int .i64 ((i + 1 : Nat) : Int)) (.string ⟨(kUp t r i).toArray⟩) (.string ⟨(fUp t r (i + 1)).toArray⟩) W) := fun h h2 W t3 => ⟨i + 1, by omega, rfl, by rw [kUp_out h], rfl, okUp_step HGC.out HGR.out hup h2, t3⟩
            have HBAD : Hid (okV t i kc y = false → pairsF t r = none) := fun h => pairsF_bad (hasV_bad HGC.out HGR.out h)
            have HOV : Hid (okV t i kc y = (!(inK t i && hasZ y.s) && if kc == 0 then y.s.toList.isEmpty else y.n == 0)) := rfl
            have HFF : Hid (fform kc y = if kc = 0 then ub (zz y.n) else tx y.s) := rfl
            clear hklen hflen hyok hkfl hffl hup
            generalize okV t i kc y = OV at *
            generalize kform kc y = KF at *
            generalize fform kc y = FF at *
            obtain ⟨yn, ys⟩ := y
            unfold Vl.agg at HFM
            simp only at c1 c2 HBR HFM HTX HIN HOV HFF
            generalize hz : hasZ ys = z at HBR HOV
            clear hz
            rcases hkind with hk0 | hk1
            · subst hk0
              obtain ⟨⟨x0, x1, x2, x3⟩, ⟨y0, y1⟩, ⟨z0, z1⟩, f0, f1, hg1⟩ := HX.out wr (T)
              by_cases hs : ys.toList = []
              · skip
                by_cases hki : i < t.keys.toNat
                · have hik : (i : Int) < t.keys := by have := HK1.out; omega
                  have hin : inK t i = true := by unfold inK; rw [decide_eq_true hik]; rfl
                  rcases z with _ | _
                  · have hov : OV = true := by rw [HOV.out, hin]; simp [hs]
                    go_wp2_with fail
                    refine (HBR.out _).mono ?_
                    rintro e w5 ⟨rfl, t5⟩
                    have HT5 := Lib.hid (T.trans t5)
                    clear x0 x1 x2 x3 y0 y1 z0 z1 f0 f1 hg1 c0 c1 c2 t5
                    obtain ⟨_, c0, c1, c2⟩ := HCE.out w5 (HT5.out) i _ _ HGC.out HGR.out
                    simp only at c0 c1 c2
                    obtain ⟨⟨x0, x1, x2, x3⟩, ⟨y0, y1⟩, ⟨z0, z1⟩, f0, f1, hg1⟩ := HX.out w5 (HT5.out)
                    have HAK := HADK.out hki
                    have HR := Lib.hid (HRK.out hki hov)
                    go_upto_region 17 with fail
                    clear x0 x1 x2 x3 y0 y1 z0 z1 f0 f1 hg1 c0 c1 c2
                    have td : Tch [] w5 w5.drew := (Tch.refl _ _).drew
                    have HX2 : Hid (∀ W, Tch [] W0 W → (W.cell? ⟨w.heap.size, 0, none⟩ = some (.int .u8 t.name) ∧ W.cell? ⟨w.heap.size, 1, none⟩ = some (.slice (some ⟨b, o, none⟩) t.cols.length c) ∧ W.cell? ⟨w.heap.size, 2, none⟩ = some (.int .i64 t.keys) ∧ W.cell? ⟨w.heap.size, 3, none⟩ = some (.int .i64 t.idx)) ∧ W.cell? ⟨b, o + i, none⟩ = some (.int .i64 0) ∧ W.cell? ⟨rb, ro + i * 2, none⟩ = some (.int .i64 yn) ∧ W.cell? ⟨rb, ro + i * 2 + 1, none⟩ = some (.string ys)) := fun W T => ⟨(HX.out W T).1, (HCE.out W T i _ _ HGC.out HGR.out).2⟩
                    go_region_held3 (fun W => (W.cell? ⟨w.heap.size, 0, none⟩ = some (.int .u8 t.name) ∧ W.cell? ⟨w.heap.size, 1, none⟩ = some (.slice (some ⟨b, o, none⟩) t.cols.length c) ∧ W.cell? ⟨w.heap.size, 2, none⟩ = some (.int .i64 t.keys) ∧ W.cell? ⟨w.heap.size, 3, none⟩ = some (.int .i64 t.idx)) ∧ W.cell? ⟨b, o + i, none⟩ = some (.int .i64 0) ∧ W.cell? ⟨rb, ro + i * 2, none⟩ = some (.int .i64 yn) ∧ W.cell? ⟨rb, ro + i * 2 + 1, none⟩ = some (.string ys))
                      (first | exact HX2.out _ (HT5.out.trans td) | exact HX2.out _ (HT5.out.trans (td.trans t6)))
                      (first | (go_at_call 20; (with_reducible refine (HFM.out _).mono ?_); rintro e w6 ⟨rfl, t6⟩))
                    have HT6 := Lib.hid (HT5.out.trans (td.trans t6))
                    clear td t6 HNO HBAD HQ HCE HBR HFM HTX HIN HADK HADF HRK HRF HOV HFF HKB HOK HX HX2
                    go_wp2_with fail
                    go_roundg m
                    case measure => omega
                    case rel => exact HR.out _ HT6.out
                  · go_wp2_with fail
                    refine (HBR.out _).mono ?_
                    rintro e w5 ⟨rfl, t5⟩
                    have HT5 := Lib.hid (T.trans t5)
                    clear x0 x1 x2 x3 y0 y1 z0 z1 f0 f1 hg1 c0 c1 c2 t5
                    obtain ⟨_, c0, c1, c2⟩ := HCE.out w5 (HT5.out) i _ _ HGC.out HGR.out
                    simp only at c0 c1 c2
                    obtain ⟨⟨x0, x1, x2, x3⟩, ⟨y0, y1⟩, ⟨z0, z1⟩, f0, f1, hg1⟩ := HX.out w5 (HT5.out)
                    have HPN : Hid (pairsF t r = none) := HBAD.out (by rw [HOV.out]; rw [hin]; simp)
                    obtain ⟨q0, q1⟩ := HQ.out w5 (HT5.out) (.string ⟨#[]⟩) (.string ⟨#[]⟩)
                    have HE := Lib.hid (HNO.out w5 HPN.out (HT5.out) (.string ⟨#[]⟩) (.string ⟨#[]⟩))
                    clear HNO HPN HBAD HQ HBR HFM HTX HIN HADK HADF HRK HRF HOV HFF HKB HOK HGC HGR
                    go_wp2_with fail
                    exact bodyPost_ret (v := .tuple #[.agg #[.string ⟨#[]⟩, .string ⟨#[]⟩], .string ⟨#[]⟩, .bool false]) (by simp [results, Try.results8, go_sem, q0, q1]) rfl HE.out
                · have hkf : t.keys.toNat ≤ i := by omega
                  have hik : ¬ (i : Int) < t.keys := by have := HK1.out; omega
                  have hik2 : t.keys ≤ (i : Int) := by omega
                  by_cases hix : (i : Int) = t.idx
                  · have hixb : ((i : Int) == t.idx) = true := by rw [hix]; simp
                    have hin : inK t i = true := by unfold inK; rw [hixb, Bool.or_true]
                    clear hix
                    rcases z with _ | _
                    · have hov : OV = true := by rw [HOV.out, hin]; simp [hs]
                      go_wp2_with fail
                      refine (HBR.out _).mono ?_
                      rintro e w5 ⟨rfl, t5⟩
                      have HT5 := Lib.hid (T.trans t5)
                      clear x0 x1 x2 x3 y0 y1 z0 z1 f0 f1 hg1 c0 c1 c2 t5
                      obtain ⟨_, c0, c1, c2⟩ := HCE.out w5 (HT5.out) i _ _ HGC.out HGR.out
                      simp only at c0 c1 c2
                      obtain ⟨⟨x0, x1, x2, x3⟩, ⟨y0, y1⟩, ⟨z0, z1⟩, f0, f1, hg1⟩ := HX.out w5 (HT5.out)
                      have HAF := HADF.out hkf
                      have HR := Lib.hid (HRF.out hkf hov)
                      go_wp2_with fail
                      refine (HTX.out _).mono ?_
                      rintro e w6 ⟨rfl, t6⟩
                      have HT6 := Lib.hid ((HT5.out).trans t6)
                      clear x0 x1 x2 x3 y0 y1 z0 z1 f0 f1 hg1 c0 c1 c2 t6
                      obtain ⟨_, c0, c1, c2⟩ := HCE.out w6 (HT6.out) i _ _ HGC.out HGR.out
                      simp only at c0 c1 c2
                      obtain ⟨⟨x0, x1, x2, x3⟩, ⟨y0, y1⟩, ⟨z0, z1⟩, f0, f1, hg1⟩ := HX.out w6 (HT6.out)
                      have hff := HFF.out
                      first | rw [if_pos rfl] at hff | rw [if_pos trivial] at hff
                      subst hff
                      clear HNO HBAD HQ HCE HBR HFM HTX HADK HADF HRK HRF HOV HFF HKB HOK
                      go_wp2_with fail
                      refine (HIN.out _).mono ?_
                      rintro e w7 ⟨rfl, t7⟩
                      have HT7 := Lib.hid (HT6.out.trans t7)
                      clear x0 x1 x2 x3 y0 y1 z0 z1 f0 f1 hg1 c0 c1 c2 t7 HIN HX
                      go_wp2_with fail
                      go_roundg m
                      case measure => omega
                      case rel => exact HR.out _ HT7.out
                    · go_wp2_with fail
                      refine (HBR.out _).mono ?_
                      rintro e w5 ⟨rfl, t5⟩
                      have HT5 := Lib.hid (T.trans t5)
                      clear x0 x1 x2 x3 y0 y1 z0 z1 f0 f1 hg1 c0 c1 c2 t5
                      obtain ⟨_, c0, c1, c2⟩ := HCE.out w5 (HT5.out) i _ _ HGC.out HGR.out
                      simp only at c0 c1 c2
                      obtain ⟨⟨x0, x1, x2, x3⟩, ⟨y0, y1⟩, ⟨z0, z1⟩, f0, f1, hg1⟩ := HX.out w5 (HT5.out)
                      have HPN : Hid (pairsF t r = none) := HBAD.out (by rw [HOV.out]; rw [hin]; simp)
                      obtain ⟨q0, q1⟩ := HQ.out w5 (HT5.out) (.string ⟨#[]⟩) (.string ⟨#[]⟩)
                      have HE := Lib.hid (HNO.out w5 HPN.out (HT5.out) (.string ⟨#[]⟩) (.string ⟨#[]⟩))
                      clear HNO HPN HBAD HQ HBR HFM HTX HIN HADK HADF HRK HRF HOV HFF HKB HOK HGC HGR
                      go_wp2_with fail
                      exact bodyPost_ret (v := .tuple #[.agg #[.string ⟨#[]⟩, .string ⟨#[]⟩], .string ⟨#[]⟩, .bool false]) (by simp [results, Try.results8, go_sem, q0, q1]) rfl HE.out
                  · have hixb : ((i : Int) == t.idx) = false := beq_false_of_ne hix
                    have hin : inK t i = false := by unfold inK; rw [hixb, decide_eq_false hik]; rfl
                    have hov : OV = true := by rw [HOV.out, hin]; simp [hs]
                    clear hix
                    have HAF := HADF.out hkf
                    have HR := Lib.hid (HRF.out hkf hov)
                    go_wp2_with fail
                    refine (HTX.out _).mono ?_
                    rintro e w6 ⟨rfl, t6⟩
                    have HT6 := Lib.hid ((T).trans t6)
                    clear x0 x1 x2 x3 y0 y1 z0 z1 f0 f1 hg1 c0 c1 c2 t6
                    obtain ⟨_, c0, c1, c2⟩ := HCE.out w6 (HT6.out) i _ _ HGC.out HGR.out
                    simp only at c0 c1 c2
                    obtain ⟨⟨x0, x1, x2, x3⟩, ⟨y0, y1⟩, ⟨z0, z1⟩, f0, f1, hg1⟩ := HX.out w6 (HT6.out)
                    have hff := HFF.out
                    first | rw [if_pos rfl] at hff | rw [if_pos trivial] at hff
                    subst hff
                    clear HNO HBAD HQ HCE HBR HFM HTX HADK HADF HRK HRF HOV HFF HKB HOK
                    go_wp2_with fail
                    refine (HIN.out _).mono ?_
                    rintro e w7 ⟨rfl, t7⟩
                    have HT7 := Lib.hid (HT6.out.trans t7)
                    clear x0 x1 x2 x3 y0 y1 z0 z1 f0 f1 hg1 c0 c1 c2 t7 HIN HX
                    go_wp2_with fail
                    go_roundg m
                    case measure => omega
                    case rel => exact HR.out _ HT7.out
              · have hse : ys.toList.isEmpty = false := by cases h : ys.toList with | nil => exact absurd h hs | cons _ _ => rfl
                have HPN : Hid (pairsF t r = none) := HBAD.out (by rw [HOV.out]; rw [hse]; simp)
                obtain ⟨q0, q1⟩ := HQ.out wr (T) (.string ⟨#[]⟩) (.string ⟨#[]⟩)
                have HE := Lib.hid (HNO.out wr HPN.out (T) (.string ⟨#[]⟩) (.string ⟨#[]⟩))
                clear HNO HPN HBAD HQ HBR HFM HTX HIN HADK HADF HRK HRF HOV HFF HKB HOK HGC HGR
                go_wp2_with fail
                exact bodyPost_ret (v := .tuple #[.agg #[.string ⟨#[]⟩, .string ⟨#[]⟩], .string ⟨#[]⟩, .bool false]) (by simp [results, Try.results8, go_sem, q0, q1]) rfl HE.out
            · subst hk1
              obtain ⟨⟨x0, x1, x2, x3⟩, ⟨y0, y1⟩, ⟨z0, z1⟩, f0, f1, hg1⟩ := HX.out wr (T)
              by_cases hs : yn = 0
              · subst hs
                by_cases hki : i < t.keys.toNat
                · have hik : (i : Int) < t.keys := by have := HK1.out; omega
                  have hin : inK t i = true := by unfold inK; rw [decide_eq_true hik]; rfl
                  rcases z with _ | _
                  · have hov : OV = true := by rw [HOV.out, hin]; simp
                    go_wp2_with fail
                    refine (HBR.out _).mono ?_
                    rintro e w5 ⟨rfl, t5⟩
                    have HT5 := Lib.hid (T.trans t5)
                    clear x0 x1 x2 x3 y0 y1 z0 z1 f0 f1 hg1 c0 c1 c2 t5
                    obtain ⟨_, c0, c1, c2⟩ := HCE.out w5 (HT5.out) i _ _ HGC.out HGR.out
                    simp only at c0 c1 c2
                    obtain ⟨⟨x0, x1, x2, x3⟩, ⟨y0, y1⟩, ⟨z0, z1⟩, f0, f1, hg1⟩ := HX.out w5 (HT5.out)
                    have HAK := HADK.out hki
                    have HR := Lib.hid (HRK.out hki hov)
                    go_upto_region 17 with fail
                    clear x0 x1 x2 x3 y0 y1 z0 z1 f0 f1 hg1 c0 c1 c2
                    have td : Tch [] w5 w5.drew := (Tch.refl _ _).drew
                    have HX2 : Hid (∀ W, Tch [] W0 W → (W.cell? ⟨w.heap.size, 0, none⟩ = some (.int .u8 t.name) ∧ W.cell? ⟨w.heap.size, 1, none⟩ = some (.slice (some ⟨b, o, none⟩) t.cols.length c) ∧ W.cell? ⟨w.heap.size, 2, none⟩ = some (.int .i64 t.keys) ∧ W.cell? ⟨w.heap.size, 3, none⟩ = some (.int .i64 t.idx)) ∧ W.cell? ⟨b, o + i, none⟩ = some (.int .i64 1) ∧ W.cell? ⟨rb, ro + i * 2, none⟩ = some (.int .i64 0) ∧ W.cell? ⟨rb, ro + i * 2 + 1, none⟩ = some (.string ys)) := fun W T => ⟨(HX.out W T).1, (HCE.out W T i _ _ HGC.out HGR.out).2⟩
                    go_region_held3 (fun W => (W.cell? ⟨w.heap.size, 0, none⟩ = some (.int .u8 t.name) ∧ W.cell? ⟨w.heap.size, 1, none⟩ = some (.slice (some ⟨b, o, none⟩) t.cols.length c) ∧ W.cell? ⟨w.heap.size, 2, none⟩ = some (.int .i64 t.keys) ∧ W.cell? ⟨w.heap.size, 3, none⟩ = some (.int .i64 t.idx)) ∧ W.cell? ⟨b, o + i, none⟩ = some (.int .i64 1) ∧ W.cell? ⟨rb, ro + i * 2, none⟩ = some (.int .i64 0) ∧ W.cell? ⟨rb, ro + i * 2 + 1, none⟩ = some (.string ys))
                      (first | exact HX2.out _ (HT5.out.trans td) | exact HX2.out _ (HT5.out.trans (td.trans t6)))
                      (first | (go_at_call 20; (with_reducible refine (HFM.out _).mono ?_); rintro e w6 ⟨rfl, t6⟩))
                    have HT6 := Lib.hid (HT5.out.trans (td.trans t6))
                    clear td t6 HNO HBAD HQ HCE HBR HFM HTX HIN HADK HADF HRK HRF HOV HFF HKB HOK HX HX2
                    go_wp2_with fail
                    go_roundg m
                    case measure => omega
                    case rel => exact HR.out _ HT6.out
                  · go_wp2_with fail
                    refine (HBR.out _).mono ?_
                    rintro e w5 ⟨rfl, t5⟩
                    have HT5 := Lib.hid (T.trans t5)
                    clear x0 x1 x2 x3 y0 y1 z0 z1 f0 f1 hg1 c0 c1 c2 t5
                    obtain ⟨_, c0, c1, c2⟩ := HCE.out w5 (HT5.out) i _ _ HGC.out HGR.out
                    simp only at c0 c1 c2
                    obtain ⟨⟨x0, x1, x2, x3⟩, ⟨y0, y1⟩, ⟨z0, z1⟩, f0, f1, hg1⟩ := HX.out w5 (HT5.out)
                    have HPN : Hid (pairsF t r = none) := HBAD.out (by rw [HOV.out]; rw [hin]; simp)
                    obtain ⟨q0, q1⟩ := HQ.out w5 (HT5.out) (.string ⟨#[]⟩) (.string ⟨#[]⟩)
                    have HE := Lib.hid (HNO.out w5 HPN.out (HT5.out) (.string ⟨#[]⟩) (.string ⟨#[]⟩))
                    clear HNO HPN HBAD HQ HBR HFM HTX HIN HADK HADF HRK HRF HOV HFF HKB HOK HGC HGR
                    go_wp2_with fail
                    exact bodyPost_ret (v := .tuple #[.agg #[.string ⟨#[]⟩, .string ⟨#[]⟩], .string ⟨#[]⟩, .bool false]) (by simp [results, Try.results8, go_sem, q0, q1]) rfl HE.out
                · have hkf : t.keys.toNat ≤ i := by omega
                  have hik : ¬ (i : Int) < t.keys := by have := HK1.out; omega
                  have hik2 : t.keys ≤ (i : Int) := by omega
                  by_cases hix : (i : Int) = t.idx
                  · have hixb : ((i : Int) == t.idx) = true := by rw [hix]; simp
                    have hin : inK t i = true := by unfold inK; rw [hixb, Bool.or_true]
                    clear hix
                    rcases z with _ | _
                    · have hov : OV = true := by rw [HOV.out, hin]; simp
                      go_wp2_with fail
                      refine (HBR.out _).mono ?_
                      rintro e w5 ⟨rfl, t5⟩
                      have HT5 := Lib.hid (T.trans t5)
                      clear x0 x1 x2 x3 y0 y1 z0 z1 f0 f1 hg1 c0 c1 c2 t5
                      obtain ⟨_, c0, c1, c2⟩ := HCE.out w5 (HT5.out) i _ _ HGC.out HGR.out
                      simp only at c0 c1 c2
                      obtain ⟨⟨x0, x1, x2, x3⟩, ⟨y0, y1⟩, ⟨z0, z1⟩, f0, f1, hg1⟩ := HX.out w5 (HT5.out)
                      have HAF := HADF.out hkf
                      have HR := Lib.hid (HRF.out hkf hov)
                      go_wp2_with fail
                      refine (HTX.out _).mono ?_
                      rintro e w6 ⟨rfl, t6⟩
                      have HT6 := Lib.hid ((HT5.out).trans t6)
                      clear x0 x1 x2 x3 y0 y1 z0 z1 f0 f1 hg1 c0 c1 c2 t6
                      obtain ⟨_, c0, c1, c2⟩ := HCE.out w6 (HT6.out) i _ _ HGC.out HGR.out
                      simp only at c0 c1 c2
                      obtain ⟨⟨x0, x1, x2, x3⟩, ⟨y0, y1⟩, ⟨z0, z1⟩, f0, f1, hg1⟩ := HX.out w6 (HT6.out)
                      have hff := HFF.out
                      rw [if_neg (by decide)] at hff
                      subst hff
                      clear HNO HBAD HQ HCE HBR HFM HTX HIN HADK HADF HRK HRF HOV HFF HKB HOK HX
                      go_wp2_with fail
                      go_roundg m
                      case measure => omega
                      case rel => exact HR.out _ HT6.out
                    · go_wp2_with fail
                      refine (HBR.out _).mono ?_
                      rintro e w5 ⟨rfl, t5⟩
                      have HT5 := Lib.hid (T.trans t5)
                      clear x0 x1 x2 x3 y0 y1 z0 z1 f0 f1 hg1 c0 c1 c2 t5
                      obtain ⟨_, c0, c1, c2⟩ := HCE.out w5 (HT5.out) i _ _ HGC.out HGR.out
                      simp only at c0 c1 c2
                      obtain ⟨⟨x0, x1, x2, x3⟩, ⟨y0, y1⟩, ⟨z0, z1⟩, f0, f1, hg1⟩ := HX.out w5 (HT5.out)
                      have HPN : Hid (pairsF t r = none) := HBAD.out (by rw [HOV.out]; rw [hin]; simp)
                      obtain ⟨q0, q1⟩ := HQ.out w5 (HT5.out) (.string ⟨#[]⟩) (.string ⟨#[]⟩)
                      have HE := Lib.hid (HNO.out w5 HPN.out (HT5.out) (.string ⟨#[]⟩) (.string ⟨#[]⟩))
                      clear HNO HPN HBAD HQ HBR HFM HTX HIN HADK HADF HRK HRF HOV HFF HKB HOK HGC HGR
                      go_wp2_with fail
                      exact bodyPost_ret (v := .tuple #[.agg #[.string ⟨#[]⟩, .string ⟨#[]⟩], .string ⟨#[]⟩, .bool false]) (by simp [results, Try.results8, go_sem, q0, q1]) rfl HE.out
                  · have hixb : ((i : Int) == t.idx) = false := beq_false_of_ne hix
                    have hin : inK t i = false := by unfold inK; rw [hixb, decide_eq_false hik]; rfl
                    have hov : OV = true := by rw [HOV.out, hin]; simp
                    clear hix
                    have HAF := HADF.out hkf
                    have HR := Lib.hid (HRF.out hkf hov)
                    go_wp2_with fail
                    refine (HTX.out _).mono ?_
                    rintro e w6 ⟨rfl, t6⟩
                    have HT6 := Lib.hid ((T).trans t6)
                    clear x0 x1 x2 x3 y0 y1 z0 z1 f0 f1 hg1 c0 c1 c2 t6
                    obtain ⟨_, c0, c1, c2⟩ := HCE.out w6 (HT6.out) i _ _ HGC.out HGR.out
                    simp only at c0 c1 c2
                    obtain ⟨⟨x0, x1, x2, x3⟩, ⟨y0, y1⟩, ⟨z0, z1⟩, f0, f1, hg1⟩ := HX.out w6 (HT6.out)
                    have hff := HFF.out
                    rw [if_neg (by decide)] at hff
                    subst hff
                    clear HNO HBAD HQ HCE HBR HFM HTX HIN HADK HADF HRK HRF HOV HFF HKB HOK HX
                    go_wp2_with fail
                    go_roundg m
                    case measure => omega
                    case rel => exact HR.out _ HT6.out
              · have hsb : (yn != 0) = true := by simpa using hs
                have hse : (yn == 0) = false := beq_false_of_ne hs
                clear hs
                have HPN : Hid (pairsF t r = none) := HBAD.out (by rw [HOV.out]; rw [hse]; simp)
                obtain ⟨q0, q1⟩ := HQ.out wr (T) (.string ⟨#[]⟩) (.string ⟨#[]⟩)
                have HE := Lib.hid (HNO.out wr HPN.out (T) (.string ⟨#[]⟩) (.string ⟨#[]⟩))
                clear HNO HPN HBAD HQ HBR HFM HTX HIN HADK HADF HRK HRF HOV HFF HKB HOK HGC HGR
                go_wp2_with fail
                exact bodyPost_ret (v := .tuple #[.agg #[.string ⟨#[]⟩, .string ⟨#[]⟩], .string ⟨#[]⟩, .bool false]) (by simp [results, Try.results8, go_sem, q0, q1]) rfl HE.out
end Go.Proofs.Ytenohgogfddniaa
