/-
  The document's bus (chandlerref07): Send, Double, Take, and the law's 'ref'. Conditions: the number of the next letter is within an int's reach, the letters are no more than 10^9.
-/
import Derived.Test.YtgdfbpgnknnkpaaBrs
import Derived.Deep.QuietTactic
import Derived.BigQuiet
namespace Go.Proofs.Ytgdfbpgnknnkpaa
open Go.RowKit
set_option linter.unusedVariables false

abbrev RBus (w : World) (bb : Nat) (v : Value) (b : Bs) : Prop := IsBus 30 38 w bb v b
theorem Try.info_rlt : (Try.prog.info? 38).map (fun i => (i.zero, i.size, i.bytes)) = some (some zLt, 8, 72) := by kernel_rfl

set_option maxRecDepth 100000 in
set_option maxHeartbeats 1000000 in
/-- 'ref' of the law: a letter as the document's, its cells the same. -/
theorem bref_any (l : Lt) (w : World) : Calls Try.prog 13 #[.agg #[.int .i64 l.id, .int .i64 l.dst, .int .i64 l.ord, .int .i64 l.step, .int .i64 l.tr, .int .i64 l.kind, .int .i64 l.code, .string l.verb]] w fun e w' => e = .returned (.agg #[.int .i64 l.id, .int .i64 l.dst, .int .i64 l.ord, .int .i64 l.step, .int .i64 l.tr, .int .i64 l.kind, .int .i64 l.code, .string l.verb]) ∧ Tch [] w w' := by
  generalize l.id = lid at *
  generalize l.dst = ldst at *
  generalize l.ord = lord at *
  generalize l.step = lstep at *
  generalize l.tr = ltr at *
  generalize l.kind = lkind at *
  generalize l.code = lcode at *
  generalize l.verb = lverb at *
  obtain ⟨W1, hW1⟩ : ∃ W1, W1 = (w.alloc (.cells #[.int .i64 lid, .int .i64 ldst, .int .i64 lord, .int .i64 lstep, .int .i64 ltr, .int .i64 lkind, .int .i64 lcode, .string lverb] 37)).alloc (.cells #[.int .i64 0, .int .i64 0, .int .i64 0, .int .i64 0, .int .i64 0, .int .i64 0, .int .i64 0, .string ⟨#[]⟩] 38) := ⟨_, rfl⟩
  have T1 : Tch [] w W1 := by rw [hW1]; exact ((Tch.refl _ _).alloc _).alloc _
  have hb : W1.heap[w.heap.size]? = some (.cells #[.int .i64 lid, .int .i64 ldst, .int .i64 lord, .int .i64 lstep, .int .i64 ltr, .int .i64 lkind, .int .i64 lcode, .string lverb] 37 (0, 0)) := by rw [hW1]; exact blk_alloc (blk_new _ _) _
  have hr : W1.heap[w.heap.size + 1]? = some (.cells #[.int .i64 0, .int .i64 0, .int .i64 0, .int .i64 0, .int .i64 0, .int .i64 0, .int .i64 0, .string ⟨#[]⟩] 38 (0, 0)) := by
    rw [hW1]
    have := blk_new (w.alloc (.cells #[.int .i64 lid, .int .i64 ldst, .int .i64 lord, .int .i64 lstep, .int .i64 ltr, .int .i64 lkind, .int .i64 lcode, .string lverb] 37)) (.cells #[.int .i64 0, .int .i64 0, .int .i64 0, .int .i64 0, .int .i64 0, .int .i64 0, .int .i64 0, .string ⟨#[]⟩] 38)
    rwa [World.size_alloc] at this
  go_enter Try.func13, Try.ntmps13
  go_upto_region 1 with fail
  rw [← hW1]
  clear hW1
  have q0 := blk_cell hb 0
  have q1 := blk_cell hb 1
  have q2 := blk_cell hb 2
  have q3 := blk_cell hb 3
  have q4 := blk_cell hb 4
  have q5 := blk_cell hb 5
  have q6 := blk_cell hb 6
  have q7 := blk_cell hb 7
  simp only [List.getElem?_toArray, List.getElem?_cons_zero, List.getElem?_cons_succ] at q0 q1 q2 q3 q4 q5 q6 q7
  have r0 := blk_cell hr 0
  have r1 := blk_cell hr 1
  have r2 := blk_cell hr 2
  have r3 := blk_cell hr 3
  have r4 := blk_cell hr 4
  have r5 := blk_cell hr 5
  have r6 := blk_cell hr 6
  have r7 := blk_cell hr 7
  simp only [List.getElem?_toArray, List.getElem?_cons_zero, List.getElem?_cons_succ] at r0 r1 r2 r3 r4 r5 r6 r7
  have zr0 := blk_free hr 0
  have zr1 := blk_free hr 1
  have zr2 := blk_free hr 2
  have zr3 := blk_free hr 3
  have zr4 := blk_free hr 4
  have zr5 := blk_free hr 5
  have zr6 := blk_free hr 6
  have zr7 := blk_free hr 7
  have HT := Lib.hid T1
  clear hb hr T1
  go_wp2_with fail
  exact bodyPost_ret (v := .agg #[.int .i64 lid, .int .i64 ldst, .int .i64 lord, .int .i64 lstep, .int .i64 ltr, .int .i64 lkind, .int .i64 lcode, .string lverb]) (by simp [results, Try.results13, go_sem, r0, r1, r2, r3, r4, r5, r6, r7]) rfl ⟨rfl, HT.out.transNew (tch_set8 W1 (w.heap.size + 1) _ _ _ _ _ _ _ _) (by simp)⟩

set_option maxRecDepth 100000 in
set_option maxHeartbeats 2000000 in
theorem rbsend_any (bb : Nat) (v : Value) (b : Bs) (l : Lt) (w : World) (h : RBus w bb v b) (hn0 : 0 ≤ b.next) (hn1 : b.next ≤ 4611686018427387904) :
    Calls Try.prog 22 #[.pointer (some ⟨bb, 0, none⟩), .agg #[.int .i64 l.id, .int .i64 l.dst, .int .i64 l.ord, .int .i64 l.step, .int .i64 l.tr, .int .i64 l.kind, .int .i64 l.code, .string l.verb]] w (BusPost 30 38 w bb v (b.send l) (.tuple #[.int .i64 (b.sendN), .int .i64 (b.sendE)])) := by
  have hbs := lt_of_block h.blk
  obtain ⟨y, c, hv, hc⟩ := h.slice
  by_cases hlen : b.list.length < 4096
  · have HF : Hid (∀ v' W, RBus W bb v' ⟨b.list ++ [l.num b.next], b.next + 1⟩ → Tch (dom bb v) w W → Nearer w.heap.size (dom bb v) (dom bb v') → BusPost 30 38 w bb v (b.send l) (.tuple #[.int .i64 (b.sendN), .int .i64 (b.sendE)]) (.returned (.tuple #[.int .i64 b.next, .int .i64 0])) W) := fun v' W h1 h2 h3 => by
      refine ⟨v', ?_, ?_, h2, h3⟩
      · unfold Bs.sendN Bs.sendE; rw [if_pos hlen, if_pos hlen]
      · unfold Bs.send; rw [if_pos hlen]; exact h1
    generalize BusPost 30 38 w bb v (b.send l) (.tuple #[.int .i64 (b.sendN), .int .i64 (b.sendE)]) = Q at *
    have HNM : Hid (fLt (l.num b.next) = [.int .i64 b.next, .int .i64 l.dst, .int .i64 l.ord, .int .i64 l.step, .int .i64 l.tr, .int .i64 l.kind, .int .i64 l.code, .string l.verb]) := rfl
    obtain ⟨lst, nx⟩ := b
    simp only at *
    generalize l.num nx = ln at *
    generalize l.id = lid at *
    generalize l.dst = ldst at *
    generalize l.ord = lord at *
    generalize l.step = lstep at *
    generalize l.tr = ltr at *
    generalize l.kind = lkind at *
    generalize l.code = lcode at *
    generalize l.verb = lverb at *
    obtain ⟨n, hn⟩ : ∃ n, lst.length = n := ⟨_, rfl⟩
    have HN := Lib.hid hn
    rw [hn] at hv hc hlen
    clear hn
    subst hv
    have hg1 : decide (4096 ≤ n) = false := decide_eq_false (by omega)
    have hg2 : decide ((4096 : Int) ≤ (n : Int)) = false := decide_eq_false (by omega)
    have HB := Lib.hid h
    obtain ⟨W1, hW1⟩ : ∃ W1, W1 = w.alloc (.cells #[.int .i64 lid, .int .i64 ldst, .int .i64 lord, .int .i64 lstep, .int .i64 ltr, .int .i64 lkind, .int .i64 lcode, .string lverb] 38) := ⟨_, rfl⟩
    have t1 : Tch [] w W1 := by rw [hW1]; exact (Tch.refl _ _).alloc _
    have hb1 : W1.heap[w.heap.size]? = some (.cells #[.int .i64 lid, .int .i64 ldst, .int .i64 lord, .int .i64 lstep, .int .i64 ltr, .int .i64 lkind, .int .i64 lcode, .string lverb] 38 (0, 0)) := by rw [hW1]; exact blk_new _ _
    have h1 := h.keep0 t1
    have c0 := h1.c0
    have c1 := h1.c1
    have q0 := blk_cell hb1 0
    have zq0 := blk_free hb1 0
    have z1 := blk_free h1.blk 1
    simp only [List.getElem?_toArray, List.getElem?_cons_zero] at q0
    obtain ⟨W5, hW5⟩ : ∃ W5, W5 = (W1.setCell ⟨w.heap.size, 0, none⟩ (.int .i64 nx)).setCell ⟨bb, 1, none⟩ (.int .i64 (nx + 1)) := ⟨_, rfl⟩
    have hb5 : W5.heap[w.heap.size]? = some (.cells #[.int .i64 nx, .int .i64 ldst, .int .i64 lord, .int .i64 lstep, .int .i64 ltr, .int .i64 lkind, .int .i64 lcode, .string lverb] 38 (0, 0)) := by
      rw [hW5]
      refine blk_other ?_ (by omega) _ _
      have := blk_set hb1 0 (.int .i64 nx)
      simpa using this
    have t5 : Tch [bb] w W5 := by
      rw [hW5]
      exact ((t1.mono (by simp)).setNew (p := ⟨w.heap.size, 0, none⟩) (by simp) _).setCell (by simp) _
    have hu5 : RBus W5 bb (.slice y n c) ⟨lst, nx + 1⟩ := by
      refine ⟨?_, own_keep h.own t5 (fun k hk hm => by simp only [List.mem_singleton] at hm; subst hm; exact own_neT h.own h.blk (by decide) hk)⟩
      rw [hW5]
      have := blk_set (blk_other (c := w.heap.size) h1.blk (by omega) 0 (.int .i64 nx)) 1 (.int .i64 (nx + 1))
      simpa using this
    have H5 := Lib.hid (And.intro hb5 (And.intro hu5 t5))
    clear hb1 t1 h1 hb5 hu5 t5 h
    go_enter Try.func22, Try.ntmps22
    go_upto_region 1 with fail
    rw [← hW1]
    clear hW1
    go_upto_region 5 with fail
    rw [← hW5]
    clear hW5 q0 zq0 z1 c1 c0
    obtain ⟨i0, hi, hz0, hz1, hz2⟩ := info_parts Try.info_rlt
    unfold zLt at hz0
    have hb5 := H5.out.1
    have q0 := blk_cell hb5 0
    have q1 := blk_cell hb5 1
    have q2 := blk_cell hb5 2
    have q3 := blk_cell hb5 3
    have q4 := blk_cell hb5 4
    have q5 := blk_cell hb5 5
    have q6 := blk_cell hb5 6
    have q7 := blk_cell hb5 7
    simp only [List.getElem?_toArray, List.getElem?_cons_zero, List.getElem?_cons_succ] at q0 q1 q2 q3 q4 q5 q6 q7
    have c0 := H5.out.2.1.c0
    have hs5 : w.heap.size < W5.heap.size := lt_of_block hb5
    have hbs5 : bb < W5.heap.size := by omega
    have HOW : Hid (∀ W', Tch [] W5 W' → W'.ownsRow 0 38 8 (.slice y n c) n (lst.flatMap fLt)) := fun W' t => by
      have := (H5.out.2.1.keep0 t).own
      rw [HN.out] at this; exact this
    have HS : Hid (∀ v' W', W'.ownsRow 0 38 8 v' (n + 1) (lst.flatMap fLt ++ [.int .i64 nx, .int .i64 ldst, .int .i64 lord, .int .i64 lstep, .int .i64 ltr, .int .i64 lkind, .int .i64 lcode, .string lverb]) → ((W5.alloc (.cells #[.int .i64 nx, .int .i64 ldst, .int .i64 lord, .int .i64 lstep, .int .i64 ltr, .int .i64 lkind, .int .i64 lcode, .string lverb] 38)).drew).grownBy W' (Value.slice y n c).ownBlock → Moved ((W5.alloc (.cells #[.int .i64 nx, .int .i64 ldst, .int .i64 lord, .int .i64 lstep, .int .i64 ltr, .int .i64 lkind, .int .i64 lcode, .string lverb] 38)).drew).heap.size (.slice y n c) v' →
        W'.frozen? ⟨bb, 0, none⟩ = false ∧ W'.cell? ⟨bb, 0, none⟩ = some (.slice y n c) ∧ (W'.setCell ⟨bb, 0, none⟩ v').cell? ⟨w.heap.size, 0, none⟩ = some (.int .i64 nx) ∧ Q (.returned (.tuple #[.int .i64 nx, .int .i64 0])) (W'.setCell ⟨bb, 0, none⟩ v')) := fun v' W' h1 h2 h3 => by
      have hl := HN.out
      obtain ⟨g1, g2, g3, g4, g5⟩ := IsBus.step (TB := 30) (TL := 38) (by decide) ln H5.out.2.1 _ _ v' W' (by rw [hl, HNM.out]; exact h1) h2 h3
      have hbl := g4.keep H5.out.1 (fun hk => by have := HB.out.dom_lt _ hk; omega)
      refine ⟨g1, g2, by rw [blk_cell hbl]; rfl, HF.out v' _ g3 ((H5.out.2.2.mono (fun k hk => by simp only [List.mem_singleton] at hk; subst hk; exact mem_dom.2 (Or.inl rfl))).trans g4) (fun k hk => ?_)⟩
      rcases g5 k hk with h4 | h4
      · exact Or.inl h4
      · exact Or.inr (by omega)
    clear hb5 H5 HB HF
    go_region_law (first
      | ((refine step_appd (by rfl) _ _ 28 (by rfl) 0 38 i0 _ 8 72 Try.underlying28 hi hz0 hz1 hz2 rfl (by decide) (.slice y n c) n (lst.flatMap fLt) (by rfl) (HOW.out _ (((Tch.refl [] W5).alloc _).drew)) ⟨W5.heap.size, 0, none⟩ 1 1 [.int .i64 nx, .int .i64 ldst, .int .i64 lord, .int .i64 lstep, .int .i64 ltr, .int .i64 lkind, .int .i64 lcode, .string lverb] (by rfl) rfl (cells_new _ _ _) (fLt_one ⟨nx, ldst, lord, lstep, ltr, lkind, lcode, lverb⟩) (by omega) (by unfold maxLen; omega) (by omega) (by simp) ?_); intro v' w4 hown4 hg4 hp4; obtain ⟨f1, f2, f3, f4⟩ := HS.out v' w4 hown4 hg4 hp4; obtain ⟨x2, c2, rfl⟩ := own_slice hown4))
    all_goals
      have HE := Lib.hid f4
      clear f4 hown4 hg4 hp4
      go_wp2_with fail
      first | exact HE.out | (go_ret2; exact HE.out)
  · have HE : Hid (BusPost 30 38 w bb v (b.send l) (.tuple #[.int .i64 (b.sendN), .int .i64 (b.sendE)]) (.returned (.tuple #[.int .i64 0, .int .i64 72])) (w.alloc (.cells #[.int .i64 l.id, .int .i64 l.dst, .int .i64 l.ord, .int .i64 l.step, .int .i64 l.tr, .int .i64 l.kind, .int .i64 l.code, .string l.verb] 38))) := by
      have h1 : Tch [] w (w.alloc (.cells #[.int .i64 l.id, .int .i64 l.dst, .int .i64 l.ord, .int .i64 l.step, .int .i64 l.tr, .int .i64 l.kind, .int .i64 l.code, .string l.verb] 38)) := (Tch.refl [] w).alloc _
      refine ⟨v, ?_, ?_, h1.mono (by simp), Nearer.refl _ _⟩
      · unfold Bs.sendN Bs.sendE; rw [if_neg hlen, if_neg hlen]
      · unfold Bs.send; rw [if_neg hlen]; exact h.keep0 h1
    generalize BusPost 30 38 w bb v (b.send l) (.tuple #[.int .i64 (b.sendN), .int .i64 (b.sendE)]) = Q at *
    generalize l.id = lid at *
    generalize l.dst = ldst at *
    generalize l.ord = lord at *
    generalize l.step = lstep at *
    generalize l.tr = ltr at *
    generalize l.kind = lkind at *
    generalize l.code = lcode at *
    generalize l.verb = lverb at *
    generalize b.list.length = n at *
    subst hv
    have hg1 : decide (4096 ≤ n) = true := decide_eq_true (by omega)
    have hg2 : decide ((4096 : Int) ≤ (n : Int)) = true := decide_eq_true (by omega)
    have c0 := (h.keep0 ((Tch.refl [] w).alloc (.cells #[.int .i64 lid, .int .i64 ldst, .int .i64 lord, .int .i64 lstep, .int .i64 ltr, .int .i64 lkind, .int .i64 lcode, .string lverb] 38))).c0
    clear h
    go_enter Try.func22, Try.ntmps22
    go_wp2_with fail
    first | exact HE.out | (go_ret2; exact HE.out)

set_option maxRecDepth 100000 in
set_option maxHeartbeats 1000000 in
theorem rbdbl_any (bb : Nat) (v : Value) (b : Bs) (at_ : Int) (w : World) (h : RBus w bb v b) (hn0 : 0 ≤ b.next) (hn1 : b.next ≤ 4611686018427387904) :
    Calls Try.prog 24 #[.pointer (some ⟨bb, 0, none⟩), .int .i64 at_] w (BusPost 30 38 w bb v (b.dbl at_) (.tuple #[.int .i64 (b.dblN at_), .int .i64 (b.dblE at_)])) := by
  by_cases hh : b.has at_
  · obtain ⟨k, rfl⟩ := Int.eq_ofNat_of_zero_le hh.1
    have hkl : k < b.list.length := by have := hh.2; omega
    have hget := List.getElem?_eq_getElem hkl
    have hgd : b.list.getD (Int.toNat (k : Int)) lt0 = b.list[k] := by rw [Int.toNat_natCast, List.getD_eq_getElem?_getD, hget]; rfl
    have HF : Hid (∀ v' W, RBus W bb v' (b.send b.list[k]) → Tch (dom bb v) w W → Nearer w.heap.size (dom bb v) (dom bb v') → BusPost 30 38 w bb v (b.dbl k) (.tuple #[.int .i64 (b.dblN k), .int .i64 (b.dblE k)]) (.returned (.tuple #[.int .i64 b.sendN, .int .i64 b.sendE])) W) := fun v' W h1 h2 h3 => by
      refine ⟨v', ?_, ?_, h2, h3⟩
      · unfold Bs.dblN Bs.dblE; rw [if_pos hh, if_pos hh]
      · unfold Bs.dbl; rw [if_pos hh, hgd]; exact h1
    generalize BusPost 30 38 w bb v (b.dbl k) (.tuple #[.int .i64 (b.dblN k), .int .i64 (b.dblE k)]) = Q at *
    have HS := Lib.hid (rbsend_any bb v b b.list[k] w h hn0 hn1)
    have c0 := h.c0
    obtain ⟨y, c, rb, ro, hv, hr, _⟩ := h.row
    obtain ⟨p0, p1, p2, p3, p4, p5, p6, p7⟩ := lt_cells hr hget
    have hy := hr.some_ (by omega)
    subst hy
    generalize b.list[k] = x at *
    generalize x.id = xid at *
    generalize x.dst = xdst at *
    generalize x.ord = xord at *
    generalize x.step = xstep at *
    generalize x.tr = xtr at *
    generalize x.kind = xkind at *
    generalize x.code = xcode at *
    generalize x.verb = xverb at *
    generalize b.list.length = n at *
    generalize b.sendN = sn at *
    generalize b.sendE = se at *
    subst hv
    have hkI : (k : Int) < (n : Int) := by omega
    have hk0 : (0 : Int) ≤ (k : Int) := by omega
    have g1 : decide ((k : Int) < 0) = false := decide_eq_false (by omega)
    have g2 : decide (n ≤ k) = false := decide_eq_false (by omega)
    have g3 : decide ((n : Int) ≤ (k : Int)) = false := decide_eq_false (by omega)
    clear h hr hget hgd hh
    go_enter Try.func24, Try.ntmps24
    go_wp2_with fail
    refine HS.out.mono ?_
    rintro e w' ⟨v', rfl, h1, h2, h3⟩
    have HE := Lib.hid (HF.out _ _ h1 h2 h3)
    clear HS HF h1 h2 h3 p0 p1 p2 p3 p4 p5 p6 p7 c0
    go_wp2_with fail
    first | exact HE.out | (go_ret2; exact HE.out)
  · have HE : Hid (BusPost 30 38 w bb v (b.dbl at_) (.tuple #[.int .i64 (b.dblN at_), .int .i64 (b.dblE at_)]) (.returned (.tuple #[.int .i64 0, .int .i64 70])) w) := by
      refine ⟨v, ?_, ?_, Tch.refl _ _, Nearer.refl _ _⟩
      · unfold Bs.dblN Bs.dblE; rw [if_neg hh, if_neg hh]
      · unfold Bs.dbl; rw [if_neg hh]; exact h
    generalize BusPost 30 38 w bb v (b.dbl at_) (.tuple #[.int .i64 (b.dblN at_), .int .i64 (b.dblE at_)]) = Q at *
    have c0 := h.c0
    obtain ⟨y, c, hv, hc⟩ := h.slice
    unfold Bs.has at hh
    generalize b.list.length = n at *
    subst hv
    clear h
    by_cases h0 : at_ < 0
    · clear hh
      go_enter Try.func24, Try.ntmps24
      go_wp2_with fail
      first | exact HE.out | (go_ret2; exact HE.out)
    · have g1 : decide (at_ < 0) = false := decide_eq_false h0
      have h2 : (n : Int) ≤ at_ := by omega
      have g2 : decide ((n : Int) ≤ at_) = true := decide_eq_true h2
      clear hh
      go_enter Try.func24, Try.ntmps24
      go_wp2_with fail
      first | exact HE.out | (go_ret2; exact HE.out)
end Go.Proofs.Ytgdfbpgnknnkpaa
