/-
  The law BusFull, walked.
-/
import Derived.Test.YtgdfbpgnknnkpaaBst
namespace Go.Proofs.Ytgdfbpgnknnkpaa
open Go.RowKit
set_option linter.unusedVariables false

/-- The letters that the law sends. -/
def fulL (k : Nat) : List Lt := (List.range k).map fun i => (wl (i : Nat)).num ((i : Nat) + 1)
def fulB (k : Nat) : Bs := ⟨fulL k, (k : Nat) + 1⟩
theorem fulL_len (k : Nat) : (fulL k).length = k := by simp [fulL]
theorem fulB_send (k : Nat) (h : k < 4096) : (fulB k).send (wl (k : Nat)) = fulB (k + 1) ∧ (fulB k).sendN = (k : Nat) + 1 ∧ (fulB k).sendE = 0 := by
  unfold Bs.send Bs.sendN Bs.sendE
  have hl : (fulB k).list.length < 4096 := by show (fulL k).length < _; rw [fulL_len]; exact h
  rw [if_pos hl, if_pos hl, if_pos hl]
  refine ⟨?_, rfl, rfl⟩
  unfold fulB fulL
  simp [List.range_succ]
theorem fulB_full (n : Nat) (h : 4096 ≤ n) (l : Lt) : (fulB n).send l = fulB n ∧ (fulB n).sendN = 0 ∧ (fulB n).sendE = 72 := by
  unfold Bs.send Bs.sendN Bs.sendE
  have hl : ¬ (fulB n).list.length < 4096 := by show ¬ (fulL n).length < _; rw [fulL_len]; omega
  rw [if_neg hl, if_neg hl, if_neg hl]
  exact ⟨rfl, rfl, rfl⟩
theorem fulB_has (n : Nat) (i : Int) (h0 : 0 ≤ i) (h1 : i < n) : (fulB n).has i := by
  refine ⟨h0, ?_⟩
  show i < ((fulL n).length : Int)
  rw [fulL_len]; exact h1
theorem fulB_dbl (n : Nat) (h : 4096 ≤ n) : (fulB n).dbl 3 = fulB n ∧ (fulB n).dblN 3 = 0 ∧ (fulB n).dblE 3 = 72 := by
  have hh := fulB_has n 3 (by decide) (by omega)
  unfold Bs.dbl Bs.dblN Bs.dblE
  rw [if_pos hh, if_pos hh, if_pos hh]
  exact ⟨(fulB_full n h _).1, (fulB_full n h lt0).2.1, (fulB_full n h lt0).2.2⟩
theorem fulL_get (k i : Nat) (h : i < k) : (fulL k).getD i lt0 = (wl (i : Nat)).num ((i : Nat) + 1) := by
  unfold fulL
  rw [List.getD_eq_getElem?_getD, List.getElem?_map, List.getElem?_range h]; rfl
theorem fulB_take (n : Nat) (h : 7 < n) : (fulB n).takeL 7 = (wl 7).num 8 ∧ (fulB n).takeE 7 = 0 := by
  have hh := fulB_has n 7 (by decide) (by omega)
  unfold Bs.takeL Bs.takeE
  rw [if_pos hh, if_pos hh]
  exact ⟨fulL_get n 7 h, rfl⟩
theorem fulB_last (n : Nat) (h7 : 7 < n) (hn : n ≤ 4096) : ((fulB n).take 7).dblN 0 = (n : Int) + 1 ∧ ((fulB n).take 7).dblE 0 = 0 ∧ (((fulB n).take 7).dbl 0).list.length = n := by
  have hh := fulB_has n 7 (by decide) (by omega)
  have ht : (fulB n).take 7 = ⟨(fulL n).eraseIdx 7, (n : Int) + 1⟩ := by unfold Bs.take; rw [if_pos hh]; rfl
  have hl : ((fulL n).eraseIdx 7).length = n - 1 := by rw [List.length_eraseIdx, if_pos (by rw [fulL_len]; exact h7), fulL_len]
  rw [ht]
  generalize (fulL n).eraseIdx 7 = L at *
  have h0 : (⟨L, (n : Int) + 1⟩ : Bs).has 0 := ⟨by decide, by show (0 : Int) < (L.length : Int); omega⟩
  have h1 : (⟨L, (n : Int) + 1⟩ : Bs).list.length < 4096 := by show L.length < _; omega
  unfold Bs.dblN Bs.dblE Bs.dbl
  rw [if_pos h0, if_pos h0, if_pos h0]
  unfold Bs.sendN Bs.sendE Bs.send
  rw [if_pos h1, if_pos h1, if_pos h1]
  refine ⟨rfl, rfl, ?_⟩
  show (L ++ [_]).length = _
  rw [List.length_append, hl]
  simp; omega
def FuRel (w : World) (bb : Nat) (v68 : Value) (wr : World) : Prop := ∃ (k : Nat) (v : Value), k ≤ 4096 ∧ v68 = .int .i64 k ∧ BSt w bb v (fulB k) wr
def FvRel (w : World) (bb n q : Nat) (v90 : Value) (wr : World) : Prop := ∃ (k : Nat) (v : Value), k ≤ q ∧ v90 = .int .i64 k ∧ BSt w bb v (fulB n) wr

set_option maxRecDepth 100000 in
set_option maxHeartbeats 4000000 in
theorem full_walk (more : Int) (w : World) (hw : (Lit.int .i64 more).wf = true) :
    Calls Try.prog 5 #[.int .i64 more] w (TchPost w) := by
  have hm := i64_of_wf hw
  obtain ⟨q, hq, hq4⟩ : ∃ q : Nat, (max 0 more) % 5 = (q : Int) ∧ q ≤ 4 := ⟨((max 0 more) % 5).toNat, by omega, by omega⟩
  have HQ := Lib.hid hq
  have HF : Hid (∀ W, Tch [] w W → TchPost w (.returned (.bool true)) W) := fun W t => ⟨rfl, t⟩
  generalize hQ : TchPost w = Q at HF ⊢
  clear hQ hq hw
  have HSN : Hid (∀ W, Calls Try.prog 16 #[.pointer none, .agg #[.int .i64 0, .int .i64 0, .int .i64 0, .int .i64 0, .int .i64 0, .int .i64 0, .int .i64 0, .string ⟨#[]⟩]] W fun e w' => e = .returned (.tuple #[.int .i64 0, .int .i64 1]) ∧ Tch [] W w') := fun W => bsend_nil lt0 W
  have HTN : Hid (∀ W, Calls Try.prog 17 #[.pointer none, .int .i64 0] W fun e w' => e = .returned (.tuple #[.agg #[.int .i64 0, .int .i64 0, .int .i64 0, .int .i64 0, .int .i64 0, .int .i64 0, .int .i64 0, .string ⟨#[]⟩], .int .i64 1]) ∧ Tch [] W w') := fun W => btake_nil 0 W
  have HDN : Hid (∀ W, Calls Try.prog 18 #[.pointer none, .int .i64 0] W fun e w' => e = .returned (.tuple #[.int .i64 0, .int .i64 1]) ∧ W = w') := fun W => bdbl_nil 0 W
  have HWK : Hid (∀ W, Calls Try.prog 9 #[] W (TchPost W)) := fun W => bwakes_any W
  go_enter Try.func5, Try.ntmps5
  go_wp2_with fail
  refine (HSN.out w).mono ?_
  rintro e w1 ⟨rfl, t1⟩
  go_wp2_with fail
  refine (HTN.out w1).mono ?_
  rintro e w2 ⟨rfl, t2⟩
  obtain ⟨W2a, hW2a⟩ : ∃ W, W = w2.alloc (.cells #[.int .i64 0, .int .i64 0, .int .i64 0, .int .i64 0, .int .i64 0, .int .i64 0, .int .i64 0, .string ⟨#[]⟩] 37) := ⟨_, rfl⟩
  have t2a : Tch [] w2 W2a := by rw [hW2a]; exact (Tch.refl _ _).alloc _
  have T2 := Lib.hid ((t1.trans t2).trans t2a)
  clear t1 t2 t2a HSN HTN
  go_upto_region 4 with fail
  rw [← hW2a]
  clear hW2a
  go_wp2_with fail
  refine (HDN.out W2a).mono ?_
  rintro e w3 ⟨rfl, rfl⟩
  clear HDN
  go_wp2_with fail
  refine (HWK.out W2a).mono ?_
  rintro e w4 ⟨rfl, t4⟩
  have T4 := Lib.hid (T2.out.trans t4)
  clear T2 t4 HWK
  go_wp2_with (first | (go_at_call 19; refine (blen_nil _).mono ?_; rintro e w5 ⟨rfl, rfl⟩) | (go_at_call 20; refine (bnext_nil _).mono ?_; rintro e w5 ⟨rfl, rfl⟩) | (go_at_call 21; refine (blist_nil _).mono ?_; rintro e w5 ⟨rfl, rfl⟩))
  have HN := Lib.hid (bst_new w w4 T4.out)
  refine HN.out.mono ?_
  rintro e w6 ⟨bb, v, rfl, s6⟩
  have S6 := Lib.hid s6
  clear s6 HN T4
  go_wp2_with fail
  go_loopw [68] (fun v68 wr => FuRel w bb v68 wr) (fun v68 _ => 4096 - (intOf v68).toNat)
  case atStart => exact ⟨0, v, by omega, rfl, S6.out⟩
  case round =>
    clear S6
    obtain ⟨k, v, hk, rfl, st⟩ := hrel
    by_cases hkl : k < 4096
    · have hd : decide (k < 4096) = true := decide_eq_true hkl
      have hdi : decide ((k : Int) < 4096) = true := decide_eq_true (by omega)
      obtain ⟨e1, e2, e3⟩ := fulB_send k hkl
      have HS : Hid (Calls Try.prog 16 #[.pointer (some ⟨bb, 0, none⟩), .agg #[.int .i64 0, .int .i64 0, .int .i64 (k : Nat), .int .i64 0, .int .i64 0, .int .i64 0, .int .i64 0, .string ⟨#[]⟩]] wr (StPost w bb (fulB (k + 1)) (.tuple #[.int .i64 ((k : Nat) + 1), .int .i64 0]))) := by
        have := st.send (wl (k : Nat)) (wl_ok _) (by show ((k : Nat) : Int) + 1 ≤ _; omega)
        rw [e1, e2, e3] at this
        exact this
      have f1 : ((k : Int) + 1 == (k : Int) + 1) = true := by simp
      have f2 : ((k : Int) + 1 != (k : Int) + 1) = false := by simp
      clear st e1 e2 e3
      go_wp2_with fail
      refine HS.out.mono ?_
      rintro e w7 ⟨v7, rfl, s7⟩
      have HR : Hid (FuRel w bb (.int .i64 ((k + 1 : Nat) : Int)) w7) := ⟨k + 1, v7, by omega, rfl, s7⟩
      clear HS s7
      go_wp2_with fail
      go_roundw
      case rel => exact HR.out
      case measure => simp [intOf]; omega
    · have hd : decide (k < 4096) = false := decide_eq_false hkl
      have hdi : decide ((k : Int) < 4096) = false := decide_eq_false (by omega)
      have S1 := Lib.hid st
      have hk2 : 4096 ≤ k := by omega
      clear st hkl
      have HSF : Hid (∀ W v, BSt w bb v (fulB k) W → Calls Try.prog 16 #[.pointer (some ⟨bb, 0, none⟩), .agg #[.int .i64 0, .int .i64 0, .int .i64 0, .int .i64 0, .int .i64 0, .int .i64 0, .int .i64 0, .string ⟨#[]⟩]] W (StPost w bb (fulB k) (.tuple #[.int .i64 0, .int .i64 72]))) := fun W v s => by
        obtain ⟨e1, e2, e3⟩ := fulB_full k hk2 lt0
        have := s.send lt0 (wl_ok 0) (by show ((k : Nat) : Int) + 1 ≤ _; omega)
        rw [e1, e2, e3] at this
        exact this
      have HDF : Hid (∀ W v, BSt w bb v (fulB k) W → Calls Try.prog 18 #[.pointer (some ⟨bb, 0, none⟩), .int .i64 3] W (StPost w bb (fulB k) (.tuple #[.int .i64 0, .int .i64 72]))) := fun W v s => by
        obtain ⟨e1, e2, e3⟩ := fulB_dbl k hk2
        have := s.dbl 3 (by show ((k : Nat) : Int) + 1 ≤ _; omega)
        rw [e1, e2, e3] at this
        exact this
      have HTF : Hid (∀ W v, BSt w bb v (fulB k) W → Calls Try.prog 17 #[.pointer (some ⟨bb, 0, none⟩), .int .i64 7] W (StPost w bb ((fulB k).take 7) (.tuple #[.agg #[.int .i64 8, .int .i64 0, .int .i64 7, .int .i64 0, .int .i64 0, .int .i64 0, .int .i64 0, .string ⟨#[]⟩], .int .i64 0]))) := fun W v s => by
        obtain ⟨e1, e2⟩ := fulB_take k (by omega)
        have := s.take 7
        rw [e1, e2] at this
        exact this
      have HLF : Hid (∀ W v, BSt w bb v ((fulB k).take 7) W → Calls Try.prog 18 #[.pointer (some ⟨bb, 0, none⟩), .int .i64 0] W fun e w' => e = .returned (.tuple #[.int .i64 4097, .int .i64 0]) ∧ (∃ v', BSt w bb v' (((fulB k).take 7).dbl 0) w') ∧ Tch (dom bb v) W w') := fun W v s => by
        obtain ⟨e1, e2, _⟩ := fulB_last k (by omega) (by omega)
        refine (bdbl_any bb v ((fulB k).take 7) 0 W s.p s.g (by rw [Bs.take_next]; show ((k : Nat) : Int) + 1 ≤ _; omega)).mono ?_
        rintro e w' ⟨v', he, h2, t2, n2⟩
        rw [e1, e2, show ((k : Nat) : Int) + 1 = 4097 from by omega] at he
        exact ⟨he, ⟨v', s.step (s.g.dbl 0) h2 t2 n2⟩, t2⟩
      have HLE : Hid (∀ W v, BSt w bb v (((fulB k).take 7).dbl 0) W → Calls Try.prog 19 #[.pointer (some ⟨bb, 0, none⟩)] W fun e w' => e = .returned (.int .i64 4096) ∧ W = w') := fun W v s => by
        obtain ⟨_, _, e3⟩ := fulB_last k (by omega) (by omega)
        have := s.len
        rw [e3, show ((k : Nat) : Int) = 4096 from by omega] at this
        exact this
      have HLS : Hid (∀ W v, BSt w bb v (fulB k) W → Calls Try.prog 21 #[.pointer (some ⟨bb, 0, none⟩)] W (CopPost 37 W (fulL k))) := fun W v s => blist_any bb v (fulB k) W s.p s.g
      have HFL := fulL_len k
      generalize fulL k = L at *
      generalize ((fulB k).take 7).dbl 0 = b5 at *
      generalize (fulB k).take 7 = b4 at *
      go_wp2_with fail
      rw [HQ.out]
      clear HQ hm
      go_loopw [90] (fun v90 wr => FvRel w bb k q v90 wr) (fun v90 _ => q - (intOf v90).toNat)
      case atStart => exact ⟨0, v, by omega, rfl, S1.out⟩
      case round =>
        clear S1
        obtain ⟨j, v, hj, rfl, st⟩ := hrel
        by_cases hjq : j < q
        · have hd : decide (j < q) = true := decide_eq_true hjq
          have HC1 := Lib.hid (HSF.out _ _ st)
          clear st
          go_wp2_with fail
          refine HC1.out.mono ?_
          rintro e w7 ⟨v7, rfl, s7⟩
          have HC2 := Lib.hid (HDF.out _ _ s7)
          clear s7 HC1
          go_wp2_with fail
          refine HC2.out.mono ?_
          rintro e w8 ⟨v8, rfl, s8⟩
          have HR : Hid (FvRel w bb k q (.int .i64 ((j + 1 : Nat) : Int)) w8) := ⟨j + 1, v8, by omega, rfl, s8⟩
          clear s8 HC2
          go_wp2_with fail
          go_roundw
          case rel => exact HR.out
          case measure => simp [intOf]; omega
        · have hd : decide (j < q) = false := decide_eq_false hjq
          have HC1 := Lib.hid (HLS.out _ _ st)
          have S1 := Lib.hid st
          clear st hjq hj HSF HDF HLS
          go_wp2_with fail
          refine HC1.out.mono ?_
          rintro e w7 ⟨vl, rfl, ⟨g1, t7⟩⟩
          obtain ⟨g, cap, hvl, hgn, cur, hgb, hcs, hcap⟩ : ∃ g cap, vl = .slice (some ⟨g, 0, none⟩) k cap ∧ wr.heap.size ≤ g ∧ ∃ cur : Array Value, w7.heap[g]? = some (.cells cur 37 (0, 0)) ∧ cur.size = cap * 8 ∧ k ≤ cap := by
            rcases g1.2 with ⟨_, h0⟩ | ⟨g, cap, cur, hv, hg, hb, hc, _, hcs, _⟩
            · omega
            · exact ⟨g, cap, by rw [hv, HFL], hg, cur, hb, hcs, by omega⟩
          subst hvl
          have p58 : w7.cell? ⟨g, 58, none⟩ = some (cur[58]'(by omega)) := by rw [blk_cell hgb]; exact Array.getElem?_eq_getElem _
          have z58 := blk_free hgb 58
          generalize cur[58]'(by omega) = c58 at p58
          have hgl : g < w7.heap.size := lt_of_block hgb
          have s8 : BSt w bb v (fulB k) (w7.setCell ⟨g, 58, none⟩ (.int .i64 (-7))) := by
            have s7 := S1.out.keep t7
            have tt : Tch [g] w7 (w7.setCell ⟨g, 58, none⟩ (.int .i64 (-7))) := (Tch.refl _ _).setCell (by simp) _
            refine ⟨s7.p.keep tt (fun q hq hm => ?_), s7.g, s7.n, s7.t.transNew tt (fun m hm => Or.inr ?_)⟩
            · simp only [List.mem_singleton] at hm
              have := S1.out.p.dom_lt q hq
              omega
            · simp only [List.mem_singleton] at hm
              have := S1.out.t.size
              omega
          have HC2 := Lib.hid (HTF.out _ _ s8)
          have hk7 : 7 < k := by omega
          have hk7i : (7 : Int) < (k : Int) := by omega
          clear s8 g1 t7 hgb hcs S1 HC1 HTF
          go_wp2_with fail
          refine HC2.out.mono ?_
          rintro e w9 ⟨v9, rfl, s9⟩
          obtain ⟨W9, hW9⟩ : ∃ W, W = w9.alloc (.cells #[.int .i64 8, .int .i64 0, .int .i64 7, .int .i64 0, .int .i64 0, .int .i64 0, .int .i64 0, .string ⟨#[]⟩] 37) := ⟨_, rfl⟩
          have t9 : Tch [] w9 W9 := by rw [hW9]; exact (Tch.refl _ _).alloc _
          have hb9 : W9.heap[w9.heap.size]? = some (.cells #[.int .i64 8, .int .i64 0, .int .i64 7, .int .i64 0, .int .i64 0, .int .i64 0, .int .i64 0, .string ⟨#[]⟩] 37 (0, 0)) := by rw [hW9]; exact blk_new _ _
          have HC3 := Lib.hid (HLF.out _ _ (s9.keep t9))
          have hnd : ∀ q ∈ dom bb v9, q ≠ w9.heap.size := fun q hq => by have := s9.p.dom_lt q hq; omega
          have HX9 : Hid (∀ W, Tch (dom bb v9) W9 W → W.cell? ⟨w9.heap.size, 2, none⟩ = some (.int .i64 7)) := fun W t => by
            rw [blk_cell (t.keep hb9 (fun hq => hnd _ hq rfl))]; rfl
          clear s9 t9 hb9 hnd HLF HC2
          go_upto_region 25 with fail
          rw [← hW9]
          clear hW9
          go_wp2_with fail
          refine HC3.out.mono ?_
          rintro e w10 ⟨rfl, ⟨v10, s10⟩, t10⟩
          have x2 := HX9.out w10 t10
          have HC4 := Lib.hid (HLE.out _ _ s10)
          have HE := Lib.hid (HF.out w10 s10.t)
          clear s10 t10 HC3 HX9 HLE HF
          go_wp2_with fail
          refine HC4.out.mono ?_
          rintro e w11 ⟨rfl, rfl⟩
          clear HC4
          go_wp2_with fail
          first | exact HE.out | (go_ret; exact HE.out)
end Go.Proofs.Ytgdfbpgnknnkpaa
