/-
  (*Bus).List, Len, Next, refusal, Send, Double: each as a contract on a bus in memory. Conditions: the bus is as one made by the package's own calls; the letter's text is in reach.
-/
import Derived.Test.YtgdfbpgnknnkpaaBcp
import Derived.WalkSpells
namespace Go.Proofs.Ytgdfbpgnknnkpaa
open Go.RowKit
set_option linter.unusedVariables false

/-- A bus of the program. -/
abbrev PBus (w : World) (bb : Nat) (v : Value) (b : Bs) : Prop := IsBus 63 37 w bb v b
theorem blen_any (bb : Nat) (v : Value) (b : Bs) (w : World) (h : PBus w bb v b) :
    Calls Try.prog 19 #[.pointer (some ⟨bb, 0, none⟩)] w fun e w' => e = .returned (.int .i64 (b.list.length : Nat)) ∧ w = w' := by
  have c0 := h.c0
  obtain ⟨y, c, rfl, hc⟩ := h.slice
  clear h
  go_enter Try.func19, Try.ntmps19
  go_wp2
  go_ret
  exact ⟨rfl, rfl⟩
theorem blen_nil (w : World) : Calls Try.prog 19 #[.pointer none] w fun e w' => e = .returned (.int .i64 0) ∧ w = w' := by
  go_enter Try.func19, Try.ntmps19
  go_wp2
  go_ret
  exact ⟨rfl, rfl⟩
theorem bnext_any (bb : Nat) (v : Value) (b : Bs) (w : World) (h : PBus w bb v b) :
    Calls Try.prog 20 #[.pointer (some ⟨bb, 0, none⟩)] w fun e w' => e = .returned (.int .i64 b.next) ∧ w = w' := by
  have c1 := h.c1
  clear h
  go_enter Try.func20, Try.ntmps20
  go_wp2
  go_ret
  exact ⟨rfl, rfl⟩
theorem bnext_nil (w : World) : Calls Try.prog 20 #[.pointer none] w fun e w' => e = .returned (.int .i64 0) ∧ w = w' := by
  go_enter Try.func20, Try.ntmps20
  go_wp2
  go_ret
  exact ⟨rfl, rfl⟩
theorem blist_nil (w : World) : Calls Try.prog 21 #[.pointer none] w fun e w' => e = .returned (.slice none 0 0) ∧ w = w' := by
  go_enter Try.func21, Try.ntmps21
  go_wp2
  go_ret
  exact ⟨rfl, rfl⟩
theorem blist_any (bb : Nat) (v : Value) (b : Bs) (w : World) (h : PBus w bb v b) (hg : b.Good) :
    Calls Try.prog 21 #[.pointer (some ⟨bb, 0, none⟩)] w (CopPost 37 w b.list) := by
  have c0 := h.c0
  obtain ⟨y, c, rb, ro, rfl, hr, _⟩ := h.row
  have HC := Lib.hid (bcopies_any y b.list.length c rb ro b.list w hr (by have := hg.len; omega) hg.ok)
  have HF : Hid (∀ v W, NewRow 37 w b.list v W → CopPost 37 w b.list (.returned v) W) := fun v W h => ⟨v, rfl, h⟩
  generalize hQ : CopPost 37 w b.list = Q at HF ⊢
  clear h hr hg hQ
  go_enter Try.func21, Try.ntmps21
  go_wp2_with fail
  refine HC.out.mono ?_
  rintro e w' ⟨v2, rfl, hn⟩
  have HE := Lib.hid (HF.out _ _ hn)
  clear hn HF HC
  go_wp2_with fail
  first | exact HE.out | (go_ret; exact HE.out)
theorem brefusal_nil (at_ : Int) (w : World) : Calls Try.prog 28 #[.pointer none, .int .i64 at_] w fun e w' => e = .returned (.int .i64 1) ∧ w = w' := by
  go_enter Try.func28, Try.ntmps28
  go_wp2
  go_ret
  exact ⟨rfl, rfl⟩
theorem brefusal_any (bb : Nat) (v : Value) (b : Bs) (at_ : Int) (w : World) (h : PBus w bb v b) :
    Calls Try.prog 28 #[.pointer (some ⟨bb, 0, none⟩), .int .i64 at_] w fun e w' => e = .returned (.int .i64 (b.takeE at_)) ∧ w = w' := by
  have c0 := h.c0
  obtain ⟨y, c, rfl, hc⟩ := h.slice
  have HE : Hid (b.takeE at_ = if 0 ≤ at_ ∧ at_ < (b.list.length : Int) then 0 else 70) := by unfold Hid; unfold Bs.takeE Bs.has; rfl
  generalize b.takeE at_ = E at *
  generalize b.list.length = n at *
  clear h
  by_cases h0 : at_ < 0
  · go_enter Try.func28, Try.ntmps28
    go_wp2
    go_ret
    exact ⟨by rw [HE.out, if_neg (by omega)]; rfl, rfl⟩
  · have hd0 : decide (at_ < 0) = false := decide_eq_false h0
    by_cases h1 : (n : Int) ≤ at_
    · go_enter Try.func28, Try.ntmps28
      go_wp2
      go_ret
      exact ⟨by rw [HE.out, if_neg (by omega)]; rfl, rfl⟩
    · have hd1 : decide ((n : Int) ≤ at_) = false := decide_eq_false h1
      go_enter Try.func28, Try.ntmps28
      go_wp2
      go_ret
      exact ⟨by rw [HE.out, if_pos (by omega)]; rfl, rfl⟩
theorem bsend_nil (l : Lt) (w : World) : Calls Try.prog 16 #[.pointer none, .agg #[.int .i64 l.id, .int .i64 l.dst, .int .i64 l.ord, .int .i64 l.step, .int .i64 l.tr, .int .i64 l.kind, .int .i64 l.code, .string l.verb]] w fun e w' => e = .returned (.tuple #[.int .i64 0, .int .i64 1]) ∧ Tch [] w w' := by
  generalize l.id = lid at *
  generalize l.dst = ldst at *
  generalize l.ord = lord at *
  generalize l.step = lstep at *
  generalize l.tr = ltr at *
  generalize l.kind = lkind at *
  generalize l.code = lcode at *
  generalize l.verb = lverb at *
  have T : Hid (Tch [] w (w.alloc (.cells #[.int .i64 lid, .int .i64 ldst, .int .i64 lord, .int .i64 lstep, .int .i64 ltr, .int .i64 lkind, .int .i64 lcode, .string lverb] 37))) := (Tch.refl _ _).alloc _
  go_enter Try.func16, Try.ntmps16
  go_wp2
  go_ret2
  exact ⟨rfl, T.out⟩
/-- What a call on a bus answers and leaves. -/
def BusPost (TB TL : TypeId) (w : World) (bb : Nat) (v : Value) (b' : Bs) (r : Value) (e : Ending) (w' : World) : Prop :=
  ∃ v', e = .returned r ∧ IsBus TB TL w' bb v' b' ∧ Tch (dom bb v) w w' ∧ Nearer w.heap.size (dom bb v) (dom bb v')

set_option maxRecDepth 100000 in
set_option maxHeartbeats 2000000 in
theorem bsend_any (bb : Nat) (v : Value) (b : Bs) (l : Lt) (w : World) (h : PBus w bb v b) (hl : l.Ok) (hn0 : 0 ≤ b.next) (hn1 : b.next ≤ 4611686018427387904) :
    Calls Try.prog 16 #[.pointer (some ⟨bb, 0, none⟩), .agg #[.int .i64 l.id, .int .i64 l.dst, .int .i64 l.ord, .int .i64 l.step, .int .i64 l.tr, .int .i64 l.kind, .int .i64 l.code, .string l.verb]] w (BusPost 63 37 w bb v (b.send l) (.tuple #[.int .i64 (b.sendN), .int .i64 (b.sendE)])) := by
  have HCO : Hid (∀ W, Calls Try.prog 27 #[.agg #[.int .i64 l.id, .int .i64 l.dst, .int .i64 l.ord, .int .i64 l.step, .int .i64 l.tr, .int .i64 l.kind, .int .i64 l.code, .string l.verb]] W fun e w' => e = .returned (.agg #[.int .i64 l.id, .int .i64 l.dst, .int .i64 l.ord, .int .i64 l.step, .int .i64 l.tr, .int .i64 l.kind, .int .i64 l.code, .string l.verb]) ∧ Tch [] W w') := fun W => bcopyOf_any l W hl
  have hbs := lt_of_block h.blk
  obtain ⟨y, c, hv, hc⟩ := h.slice
  by_cases hlen : b.list.length < 4096
  · have HF : Hid (∀ v' W, PBus W bb v' ⟨b.list ++ [l.num b.next], b.next + 1⟩ → Tch (dom bb v) w W → Nearer w.heap.size (dom bb v) (dom bb v') → BusPost 63 37 w bb v (b.send l) (.tuple #[.int .i64 (b.sendN), .int .i64 (b.sendE)]) (.returned (.tuple #[.int .i64 b.next, .int .i64 0])) W) := fun v' W h1 h2 h3 => by
      refine ⟨v', ?_, ?_, h2, h3⟩
      · unfold Bs.sendN Bs.sendE; rw [if_pos hlen, if_pos hlen]
      · unfold Bs.send; rw [if_pos hlen]; exact h1
    generalize BusPost 63 37 w bb v (b.send l) (.tuple #[.int .i64 (b.sendN), .int .i64 (b.sendE)]) = Q at *
    have HNM : Hid (fLt (l.num b.next) = [.int .i64 b.next, .int .i64 l.dst, .int .i64 l.ord, .int .i64 l.step, .int .i64 l.tr, .int .i64 l.kind, .int .i64 l.code, .string l.verb]) := rfl
    obtain ⟨lst, nx⟩ := b
    simp only at *
    generalize l.num nx = ln at *
    generalize l.id = lid at *
    generalize l.dst = ldst at *
    generalize l.ord = lord at *
    generalize l.step = lstep at *
    generalize l.tr = ltr at *
    generalize l.kind = lkind at *
    generalize l.code = lcode at *
    generalize l.verb = lverb at *
    obtain ⟨n, hn⟩ : ∃ n, lst.length = n := ⟨_, rfl⟩
    have HN := Lib.hid hn
    rw [hn] at hv hc hlen
    clear hn
    subst hv
    have hg1 : decide (4096 ≤ n) = false := decide_eq_false (by omega)
    have hg2 : decide ((4096 : Int) ≤ (n : Int)) = false := decide_eq_false (by omega)
    have HB := Lib.hid h
    obtain ⟨W1, hW1⟩ : ∃ W1, W1 = w.alloc (.cells #[.int .i64 lid, .int .i64 ldst, .int .i64 lord, .int .i64 lstep, .int .i64 ltr, .int .i64 lkind, .int .i64 lcode, .string lverb] 37) := ⟨_, rfl⟩
    have t1 : Tch [] w W1 := by rw [hW1]; exact (Tch.refl _ _).alloc _
    have hb1 : W1.heap[w.heap.size]? = some (.cells #[.int .i64 lid, .int .i64 ldst, .int .i64 lord, .int .i64 lstep, .int .i64 ltr, .int .i64 lkind, .int .i64 lcode, .string lverb] 37 (0, 0)) := by rw [hW1]; exact blk_new _ _
    have c0 := (h.keep0 t1).c0
    have HT1 := Lib.hid t1
    have HB1 := Lib.hid hb1
    clear h t1
    go_enter Try.func16, Try.ntmps16
    go_upto_region 1 with fail
    rw [← hW1]
    clear hW1
    have q0 := blk_cell hb1 0
    have q1 := blk_cell hb1 1
    have q2 := blk_cell hb1 2
    have q3 := blk_cell hb1 3
    have q4 := blk_cell hb1 4
    have q5 := blk_cell hb1 5
    have q6 := blk_cell hb1 6
    have q7 := blk_cell hb1 7
    simp only [List.getElem?_toArray, List.getElem?_cons_zero, List.getElem?_cons_succ] at q0 q1 q2 q3 q4 q5 q6 q7
    clear hb1
    go_wp2_with fail
    refine (HCO.out W1).mono ?_
    rintro e W2 ⟨rfl, t2⟩
    clear q0 q1 q2 q3 q4 q5 q6 q7 c0
    have hb2 := t2.keep HB1.out (by simp)
    have q0 := blk_cell hb2 0
    have q1 := blk_cell hb2 1
    have q2 := blk_cell hb2 2
    have q3 := blk_cell hb2 3
    have q4 := blk_cell hb2 4
    have q5 := blk_cell hb2 5
    have q6 := blk_cell hb2 6
    have q7 := blk_cell hb2 7
    simp only [List.getElem?_toArray, List.getElem?_cons_zero, List.getElem?_cons_succ] at q0 q1 q2 q3 q4 q5 q6 q7
    have zq0 := blk_free hb2 0
    have zq1 := blk_free hb2 1
    have zq2 := blk_free hb2 2
    have zq3 := blk_free hb2 3
    have zq4 := blk_free hb2 4
    have zq5 := blk_free hb2 5
    have zq6 := blk_free hb2 6
    have zq7 := blk_free hb2 7
    have HT2 := Lib.hid (HT1.out.trans t2)
    have HB2 := Lib.hid hb2
    clear hb2 t2 HB1 HT1 HCO
    go_upto_region 6 with fail
    obtain ⟨W3, hW3⟩ : ∃ W3, W3 = (((((((W2.setCell ⟨w.heap.size, 0, none⟩ (.int .i64 lid)).setCell ⟨w.heap.size, 1, none⟩ (.int .i64 ldst)).setCell ⟨w.heap.size, 2, none⟩ (.int .i64 lord)).setCell ⟨w.heap.size, 3, none⟩ (.int .i64 lstep)).setCell ⟨w.heap.size, 4, none⟩ (.int .i64 ltr)).setCell ⟨w.heap.size, 5, none⟩ (.int .i64 lkind)).setCell ⟨w.heap.size, 6, none⟩ (.int .i64 lcode)).setCell ⟨w.heap.size, 7, none⟩ (.string lverb) := ⟨_, rfl⟩
    rw [← hW3]
    clear q0 q1 q2 q3 q4 q5 q6 q7 zq0 zq1 zq2 zq3 zq4 zq5 zq6 zq7
    have hb3 : W3.heap[w.heap.size]? = some (.cells #[.int .i64 lid, .int .i64 ldst, .int .i64 lord, .int .i64 lstep, .int .i64 ltr, .int .i64 lkind, .int .i64 lcode, .string lverb] 37 (0, 0)) := by rw [hW3]; exact blk_set8 HB2.out _ _ _ _ _ _ _ _
    have t3 : Tch [] w W3 := HT2.out.transNew (by rw [hW3]; exact tch_set8 W2 w.heap.size _ _ _ _ _ _ _ _) (by simp)
    clear hW3 HT2 HB2
    have h3 := HB.out.keep0 t3
    have c1 := h3.c1
    have q0 := blk_cell hb3 0
    have zq0 := blk_free hb3 0
    have z1 := blk_free h3.blk 1
    simp only [List.getElem?_toArray, List.getElem?_cons_zero] at q0
    obtain ⟨W5, hW5⟩ : ∃ W5, W5 = (W3.setCell ⟨w.heap.size, 0, none⟩ (.int .i64 nx)).setCell ⟨bb, 1, none⟩ (.int .i64 (nx + 1)) := ⟨_, rfl⟩
    have hb5 : W5.heap[w.heap.size]? = some (.cells #[.int .i64 nx, .int .i64 ldst, .int .i64 lord, .int .i64 lstep, .int .i64 ltr, .int .i64 lkind, .int .i64 lcode, .string lverb] 37 (0, 0)) := by
      rw [hW5]
      refine blk_other ?_ (by omega) _ _
      have := blk_set hb3 0 (.int .i64 nx)
      simpa using this
    have hu5 : W5.heap[bb]? = some (.cells #[.slice y n c, .int .i64 (nx + 1)] 63 (0, 0)) := by
      rw [hW5]
      have := blk_set (blk_other (c := w.heap.size) h3.blk (by omega) 0 (.int .i64 nx)) 1 (.int .i64 (nx + 1))
      simpa using this
    have t5 : Tch [bb] w W5 := by
      rw [hW5]
      exact ((t3.mono (by simp)).setNew (p := ⟨w.heap.size, 0, none⟩) (by simp) _).setCell (by simp) _
    have ho5 : W5.ownsRow 0 37 8 (.slice y n c) n (lst.flatMap fLt) := by
      have := HB.out.own
      rw [HN.out] at this
      exact own_keep this t5 (fun k hk hm => by simp only [List.mem_singleton] at hm; subst hm; exact own_neT this HB.out.blk (by decide) hk)
    have H5 := Lib.hid (And.intro hb5 (And.intro hu5 (And.intro t5 ho5)))
    clear hb3 t3 h3 hb5 hu5 t5 ho5
    go_upto_region 8 with fail
    rw [← hW5]
    clear hW5 q0 zq0 z1 c1
    obtain ⟨i0, hi, hz0, hz1, hz2⟩ := info_parts Try.info_lt
    unfold zLt at hz0
    have S5 : Hid (∀ W, Tch [] W5 W → W.cell? ⟨w.heap.size, 0, none⟩ = some (.int .i64 nx) ∧ W.cell? ⟨w.heap.size, 1, none⟩ = some (.int .i64 ldst)) := fun W t => by
      have := t.keep H5.out.1 (by simp)
      exact ⟨by rw [blk_cell this]; rfl, by rw [blk_cell this]; rfl⟩
    have hb5 := H5.out.1
    have hu5 := H5.out.2.1
    have q0 := blk_cell hb5 0
    have q1 := blk_cell hb5 1
    have q2 := blk_cell hb5 2
    have q3 := blk_cell hb5 3
    have q4 := blk_cell hb5 4
    have q5 := blk_cell hb5 5
    have q6 := blk_cell hb5 6
    have q7 := blk_cell hb5 7
    simp only [List.getElem?_toArray, List.getElem?_cons_zero, List.getElem?_cons_succ] at q0 q1 q2 q3 q4 q5 q6 q7
    have c0 := blk_cell hu5 0
    simp only [List.getElem?_toArray, List.getElem?_cons_zero] at c0
    have hs5 : w.heap.size < W5.heap.size := lt_of_block hb5
    have hbs5 : bb < W5.heap.size := by omega
    have HOW : Hid (∀ W', Tch [] W5 W' → W'.ownsRow 0 37 8 (.slice y n c) n (lst.flatMap fLt) ∧ W'.heap[bb]? = some (.cells #[.slice y n c, .int .i64 (nx + 1)] 63 (0, 0))) := fun W' t => ⟨own_keep H5.out.2.2.2 t (fun _ _ => by simp), t.keep hu5 (by simp)⟩
    have HS : Hid (∀ v' W', W'.ownsRow 0 37 8 v' (n + 1) (lst.flatMap fLt ++ [.int .i64 nx, .int .i64 ldst, .int .i64 lord, .int .i64 lstep, .int .i64 ltr, .int .i64 lkind, .int .i64 lcode, .string lverb]) → (W5.alloc (.cells #[.int .i64 nx, .int .i64 ldst, .int .i64 lord, .int .i64 lstep, .int .i64 ltr, .int .i64 lkind, .int .i64 lcode, .string lverb] 37)).drew.grownBy W' (Value.slice y n c).ownBlock → Moved (W5.alloc (.cells #[.int .i64 nx, .int .i64 ldst, .int .i64 lord, .int .i64 lstep, .int .i64 ltr, .int .i64 lkind, .int .i64 lcode, .string lverb] 37)).drew.heap.size (.slice y n c) v' →
        W'.frozen? ⟨bb, 0, none⟩ = false ∧ W'.cell? ⟨bb, 0, none⟩ = some (.slice y n c) ∧ (W'.setCell ⟨bb, 0, none⟩ v').cell? ⟨w.heap.size, 0, none⟩ = some (.int .i64 nx) ∧ Q (.returned (.tuple #[.int .i64 nx, .int .i64 0])) (W'.setCell ⟨bb, 0, none⟩ v')) := fun v' W' h1 h2 h3 => by
      have ta : Tch [] W5 (W5.alloc (.cells #[.int .i64 nx, .int .i64 ldst, .int .i64 lord, .int .i64 lstep, .int .i64 ltr, .int .i64 lkind, .int .i64 lcode, .string lverb] 37)).drew := ((Tch.refl [] W5).alloc _).drew
      obtain ⟨ho, hu⟩ := HOW.out _ ta
      have hl := HN.out
      obtain ⟨g1, g2, g3⟩ := IsBus.sent (TB := 63) (TL := 37) (x := ln) (l := lst) (by decide) hu (by rw [hl]; exact ho) (by rw [hl, HNM.out]; exact h1) h2 h3
      have hbl : (W'.setCell ⟨bb, 0, none⟩ v').heap[w.heap.size]? = some (.cells #[.int .i64 nx, .int .i64 ldst, .int .i64 lord, .int .i64 lstep, .int .i64 ltr, .int .i64 lkind, .int .i64 lcode, .string lverb] 37 (0, 0)) := by
        refine g2.keep (ta.keep H5.out.1 (by simp)) (fun hk => ?_)
        have := HB.out.dom_lt _ hk
        omega
      have t6 : Tch (dom bb (.slice y n c)) w (W'.setCell ⟨bb, 0, none⟩ v') := ((H5.out.2.2.1.mono (fun k hk => by simp only [List.mem_singleton] at hk; subst hk; exact mem_dom.2 (Or.inl rfl))).trans (ta.mono (by simp))).trans g2
      refine ⟨blk_free g3 0, by rw [blk_cell g3]; rfl, by rw [blk_cell hbl]; rfl, HF.out v' _ g1 t6 ?_⟩
      have hsz := H5.out.2.2.1.size
      refine Moved.nearer ?_ bb
      rcases h3 with h3 | ⟨k, h4, h5⟩
      · exact Or.inl h3
      · exact Or.inr ⟨k, h4, by have := ta.size; omega⟩
    clear hb5 hu5 H5 HB HF S5
    go_region_law (first
      | ((refine step_appd (by rfl) _ _ 32 (by rfl) 0 37 i0 _ 8 72 Try.underlying32 hi hz0 hz1 hz2 rfl (by decide) (.slice y n c) n (lst.flatMap fLt) (by rfl) (HOW.out _ (((Tch.refl [] W5).alloc _).drew)).1 ⟨W5.heap.size, 0, none⟩ 1 1 [.int .i64 nx, .int .i64 ldst, .int .i64 lord, .int .i64 lstep, .int .i64 ltr, .int .i64 lkind, .int .i64 lcode, .string lverb] (by rfl) rfl (cells_new _ _ _) (fLt_one ⟨nx, ldst, lord, lstep, ltr, lkind, lcode, lverb⟩) (by omega) (by unfold maxLen; omega) (by omega) (by simp) ?_); intro v' w4 hown4 hg4 hp4; obtain ⟨f1, f2, f3, f4⟩ := HS.out v' w4 hown4 hg4 hp4; obtain ⟨x2, c2, rfl⟩ := own_slice hown4))
    all_goals
      have HE := Lib.hid f4
      clear f4 hown4 hg4 hp4
      go_wp2_with fail
      first | exact HE.out | (go_ret2; exact HE.out)
  · have HF : Hid (∀ W, Tch [] w W → BusPost 63 37 w bb v (b.send l) (.tuple #[.int .i64 (b.sendN), .int .i64 (b.sendE)]) (.returned (.tuple #[.int .i64 0, .int .i64 72])) W) := fun W h1 => by
      refine ⟨v, ?_, ?_, h1.mono (by simp), Nearer.refl _ _⟩
      · unfold Bs.sendN Bs.sendE; rw [if_neg hlen, if_neg hlen]
      · unfold Bs.send; rw [if_neg hlen]; exact h.keep0 h1
    have HE := Lib.hid (HF.out _ ((Tch.refl [] w).alloc (.cells #[.int .i64 l.id, .int .i64 l.dst, .int .i64 l.ord, .int .i64 l.step, .int .i64 l.tr, .int .i64 l.kind, .int .i64 l.code, .string l.verb] 37)))
    generalize BusPost 63 37 w bb v (b.send l) (.tuple #[.int .i64 (b.sendN), .int .i64 (b.sendE)]) = Q at *
    clear HF HCO
    generalize l.id = lid at *
    generalize l.dst = ldst at *
    generalize l.ord = lord at *
    generalize l.step = lstep at *
    generalize l.tr = ltr at *
    generalize l.kind = lkind at *
    generalize l.code = lcode at *
    generalize l.verb = lverb at *
    generalize b.list.length = n at *
    subst hv
    have hg1 : decide (4096 ≤ n) = true := decide_eq_true (by omega)
    have hg2 : decide ((4096 : Int) ≤ (n : Int)) = true := decide_eq_true (by omega)
    have c0 := (h.keep0 ((Tch.refl [] w).alloc (.cells #[.int .i64 lid, .int .i64 ldst, .int .i64 lord, .int .i64 lstep, .int .i64 ltr, .int .i64 lkind, .int .i64 lcode, .string lverb] 37))).c0
    clear h
    go_enter Try.func16, Try.ntmps16
    go_wp2_with fail
    first | exact HE.out | (go_ret2; exact HE.out)
end Go.Proofs.Ytgdfbpgnknnkpaa
