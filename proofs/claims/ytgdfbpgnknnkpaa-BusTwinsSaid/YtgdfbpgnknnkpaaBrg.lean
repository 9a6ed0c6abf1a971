/-
  The document's bus (chandlerref07): Take, Restore. Conditions: the letters are no more than 10^9.
-/
import Derived.Test.YtgdfbpgnknnkpaaBrf
namespace Go.Proofs.Ytgdfbpgnknnkpaa
open Go.RowKit
set_option linter.unusedVariables false

theorem erase_skip (l : List Lt) (k : Nat) (x : Lt) (h : l[k]? = some x) : (l.take (k + 1)).eraseIdx k = (l.take k).eraseIdx k := by
  have hl := (List.getElem?_eq_some_iff.1 h).1
  have h2 : (l.take k).length = k := by rw [List.length_take]; omega
  rw [List.take_add_one, h, Option.toList_some, List.eraseIdx_append_of_length_le (by omega), h2, Nat.sub_self, List.eraseIdx_of_length_le (l := l.take k) (by omega)]
  simp
theorem erase_more (l : List Lt) (k i : Nat) (x : Lt) (h : l[k]? = some x) (hne : k ≠ i) : (l.take (k + 1)).eraseIdx i = (l.take k).eraseIdx i ++ [x] := by
  have hl := (List.getElem?_eq_some_iff.1 h).1
  have h2 : (l.take k).length = k := by rw [List.length_take]; omega
  rw [List.take_add_one, h, Option.toList_some]
  by_cases hi : i < k
  · rw [List.eraseIdx_append_of_lt_length (by omega)]
  · rw [List.eraseIdx_of_length_le (l := l.take k) (by omega), List.eraseIdx_of_length_le (by rw [List.length_append, h2]; simp; omega)]
/-- What holds at the head of each round. -/
def TakRel (base : Nat) (w : World) (l : List Lt) (i : Nat) (v7 v8 : Value) (wr : World) : Prop :=
  ∃ (k m : Nat) (x : Option Addr) (c : Nat), k ≤ l.length ∧ v8 = .int .i64 k ∧ v7 = .slice x m c ∧ wr.ownsRow base 38 8 (.slice x m c) m (((l.take k).eraseIdx i).flatMap fLt) ∧ m ≤ k ∧ Tch [] w wr

set_option maxRecDepth 100000 in
set_option maxHeartbeats 2000000 in
theorem rbtake_any (bb : Nat) (v : Value) (b : Bs) (at_ : Int) (w : World) (h : RBus w bb v b) (hlen : b.list.length ≤ 1000000000) :
    Calls Try.prog 23 #[.pointer (some ⟨bb, 0, none⟩), .int .i64 at_] w (BusPost 30 38 w bb v (b.take at_) (.tuple #[.agg #[.int .i64 (b.takeL at_).id, .int .i64 (b.takeL at_).dst, .int .i64 (b.takeL at_).ord, .int .i64 (b.takeL at_).step, .int .i64 (b.takeL at_).tr, .int .i64 (b.takeL at_).kind, .int .i64 (b.takeL at_).code, .string (b.takeL at_).verb], .int .i64 (b.takeE at_)])) := by
  obtain ⟨W0, hW0⟩ : ∃ W0, W0 = w.alloc (.cells #[.int .i64 0, .int .i64 0, .int .i64 0, .int .i64 0, .int .i64 0, .int .i64 0, .int .i64 0, .string ⟨#[]⟩] 38) := ⟨_, rfl⟩
  have T0 : Tch [] w W0 := by rw [hW0]; exact (Tch.refl _ _).alloc _
  have hb0 : W0.heap[w.heap.size]? = some (.cells #[.int .i64 0, .int .i64 0, .int .i64 0, .int .i64 0, .int .i64 0, .int .i64 0, .int .i64 0, .string ⟨#[]⟩] 38 (0, 0)) := by rw [hW0]; exact blk_new _ _
  have hbl : bb < w.heap.size := lt_of_block h.blk
  by_cases hh : b.has at_
  · obtain ⟨i, rfl⟩ := Int.eq_ofNat_of_zero_le hh.1
    have hil : i < b.list.length := by have := hh.2; omega
    have hget := List.getElem?_eq_getElem hil
    have hgd : b.takeL i = b.list[i] := by unfold Bs.takeL; rw [if_pos hh, Int.toNat_natCast, List.getD_eq_getElem?_getD, hget]; rfl
    have hE : b.takeE i = 0 := by unfold Bs.takeE; rw [if_pos hh]
    rw [hgd, hE]
    have HF : Hid (∀ v' W, W.heap[bb]? = some (.cells #[v', .int .i64 b.next] 30 (0, 0)) → W.ownsRow w.heap.size 38 8 v' (b.list.length - 1) ((b.list.eraseIdx i).flatMap fLt) → Tch [bb] w W →
        BusPost 30 38 w bb v (b.take i) (.tuple #[.agg #[.int .i64 b.list[i].id, .int .i64 b.list[i].dst, .int .i64 b.list[i].ord, .int .i64 b.list[i].step, .int .i64 b.list[i].tr, .int .i64 b.list[i].kind, .int .i64 b.list[i].code, .string b.list[i].verb], .int .i64 0]) (.returned (.tuple #[.agg #[.int .i64 b.list[i].id, .int .i64 b.list[i].dst, .int .i64 b.list[i].ord, .int .i64 b.list[i].step, .int .i64 b.list[i].tr, .int .i64 b.list[i].kind, .int .i64 b.list[i].code, .string b.list[i].verb], .int .i64 0])) W) := fun v' W h1 h2 h3 => by
      refine ⟨v', rfl, ?_, h3.mono (fun k hk => by simp only [List.mem_singleton] at hk; subst hk; exact mem_dom.2 (Or.inl rfl)), fun q hq => ?_⟩
      · unfold Bs.take
        rw [if_pos hh, Int.toNat_natCast]
        refine ⟨h1, ?_⟩
        show World.ownsRow _ _ _ _ _ (b.list.eraseIdx i).length _
        rw [List.length_eraseIdx, if_pos hil]; exact own_base h2 (Nat.zero_le _)
      · rcases mem_dom.1 hq with rfl | hq
        · exact Or.inl (mem_dom.2 (Or.inl rfl))
        · exact Or.inr (h2.lt q hq).1
    have hbus0 := h.keep0 T0
    have c0 := hbus0.c0
    obtain ⟨y, c, rb, ro, hv2, hr, _⟩ := hbus0.row
    obtain ⟨p0, p1, p2, p3, p4, p5, p6, p7⟩ := lt_cells hr hget
    have hy := hr.some_ (by omega)
    subst hy
    have HSK := Lib.hid (erase_skip b.list)
    have HMO := Lib.hid (erase_more b.list)
    have HBU : Hid (∀ W, Tch [] W0 W → W.heap[bb]? = some (.cells #[v, .int .i64 b.next] 30 (0, 0)) ∧ IsR fLt 8 W (some ⟨rb, ro, none⟩) b.list.length rb ro b.list) := fun W t => ⟨t.keep hbus0.blk (by simp), hr.keep0 t⟩
    have HLE : Hid ((b.list.take b.list.length).eraseIdx i = b.list.eraseIdx i) := by show _ = _; rw [List.take_length]
    have HEL : Hid ((b.list.eraseIdx i).length = b.list.length - 1) := by show _ = _; rw [List.length_eraseIdx, if_pos hil]
    generalize b.list[i] = x at *
    generalize x.id = xid at *
    generalize x.dst = xdst at *
    generalize x.ord = xord at *
    generalize x.step = xstep at *
    generalize x.tr = xtr at *
    generalize x.kind = xkind at *
    generalize x.code = xcode at *
    generalize x.verb = xverb at *
    generalize BusPost 30 38 w bb v (b.take i) (.tuple #[.agg #[.int .i64 xid, .int .i64 xdst, .int .i64 xord, .int .i64 xstep, .int .i64 xtr, .int .i64 xkind, .int .i64 xcode, .string xverb], .int .i64 0]) = Q at *
    generalize b.next = nx at *
    generalize b.list = l at *
    subst hv2
    have hiI : (i : Int) < (l.length : Int) := by omega
    have hi0 : (0 : Int) ≤ (i : Int) := by omega
    have g1 : decide ((i : Int) < 0) = false := decide_eq_false (by omega)
    have g2 : decide (l.length ≤ i) = false := decide_eq_false (by omega)
    have g3 : decide ((l.length : Int) ≤ (i : Int)) = false := decide_eq_false (by omega)
    obtain ⟨W1, hW1⟩ : ∃ W1, W1 = W0.alloc (.cells #[.int .i64 xid, .int .i64 xdst, .int .i64 xord, .int .i64 xstep, .int .i64 xtr, .int .i64 xkind, .int .i64 xcode, .string xverb] 38) := ⟨_, rfl⟩
    have t01 : Tch [] W0 W1 := by rw [hW1]; exact (Tch.refl _ _).alloc _
    have hb1 : W1.heap[W0.heap.size]? = some (.cells #[.int .i64 xid, .int .i64 xdst, .int .i64 xord, .int .i64 xstep, .int .i64 xtr, .int .i64 xkind, .int .i64 xcode, .string xverb] 38 (0, 0)) := by rw [hW1]; exact blk_new _ _
    have hr1 : W1.heap[w.heap.size]? = some (.cells #[.int .i64 0, .int .i64 0, .int .i64 0, .int .i64 0, .int .i64 0, .int .i64 0, .int .i64 0, .string ⟨#[]⟩] 38 (0, 0)) := by rw [hW1]; exact blk_alloc hb0 _
    have hsz0 : w.heap.size + 1 = W0.heap.size := by rw [hW0]; simp
    have H1 := Lib.hid (And.intro T0 (And.intro t01 (And.intro hb1 hr1)))
    have HSZ := Lib.hid hsz0
    have hbl0 : bb ≠ W0.heap.size := by omega
    have hbl1 : bb ≠ w.heap.size := by omega
    obtain ⟨i0, hi, hz0, hz1, hz2⟩ := info_parts Try.info_rlt
    unfold zLt at hz0
    have hlI : (l.length : Int) ≤ 1000000000 := by omega
    have HST : Hid (TakRel W1.heap.size W1 l i (.slice none 0 0) (.int .i64 0) W1) := ⟨0, 0, none, 0, by omega, rfl, rfl, World.ownsRow_nil _ _ _ _, by omega, Tch.refl _ _⟩
    clear h hr hget hgd hh hE hbus0 T0 hb0 t01 hb1 hr1 hsz0
    go_enter Try.func23, Try.ntmps23
    go_upto_region 1 with fail
    rw [← hW0]
    have HW1 := Lib.hid hW1
    clear hW0 hW1
    go_upto_region 4 with fail
    rw [← HW1.out]
    clear HW1 p0 p1 p2 p3 p4 p5 p6 p7 c0
    go_wp2_with fail
    go_loopw [7, 8] (fun v7 v8 wr => TakRel W1.heap.size W1 l i v7 v8 wr) (fun _ v8 _ => l.length - (intOf v8).toNat)
    case atStart => exact HST.out
    case round =>
      clear HST
      obtain ⟨k, m, x2, c2, hk, rfl, rfl, hown, hmk, T⟩ := hrel
      obtain ⟨hbw, hrw⟩ := HBU.out wr (H1.out.2.1.trans T)
      have c0 := blk_cell hbw 0
      simp only [List.getElem?_toArray, List.getElem?_cons_zero] at c0
      by_cases hkl : k < l.length
      · have hget := List.getElem?_eq_getElem hkl
        obtain ⟨p0, p1, p2, p3, p4, p5, p6, p7⟩ := lt_cells hrw hget
        have hd : decide (k < l.length) = true := decide_eq_true hkl
        have HT := Lib.hid T
        by_cases hki : k = i
        · have HR : Hid (TakRel W1.heap.size W1 l i (.slice x2 m c2) (.int .i64 ((k + 1 : Nat) : Int)) wr) := ⟨k + 1, m, x2, c2, by omega, rfl, rfl, by rw [← hki] at hown ⊢; rw [HSK.out k _ hget]; exact hown, by omega, T⟩
          have hke : ((k : Int) == (i : Int)) = true := by simp [hki]
          have hke2 : (k == i) = true := by simp [hki]
          clear hown T hget p0 p1 p2 p3 p4 p5 p6 p7 hrw hbw hki
          go_wp2_with fail
          go_roundw
          case rel => exact HR.out
          case measure => simp [intOf]; omega
        · have hke : ((k : Int) == (i : Int)) = false := beq_false_of_ne (by omega)
          have hke2 : (k == i) = false := beq_false_of_ne hki
          have HSN := Lib.hid (congrArg (List.flatMap fLt) (HMO.out k i _ hget hki))
          generalize l[k] = y at *
          have HOW := Lib.hid hown
          have HY : Hid (fLt y = [.int .i64 y.id, .int .i64 y.dst, .int .i64 y.ord, .int .i64 y.step, .int .i64 y.tr, .int .i64 y.kind, .int .i64 y.code, .string y.verb]) := rfl
          generalize y.id = yid at *
          generalize y.dst = ydst at *
          generalize y.ord = yord at *
          generalize y.step = ystep at *
          generalize y.tr = ytr at *
          generalize y.kind = ykind at *
          generalize y.code = ycode at *
          generalize y.verb = yverb at *
          have hs1 := HT.out.size
          have hs0 := H1.out.2.1.size
          have hss := HSZ.out
          have hsz : w.heap.size ≤ wr.heap.size := by omega
          clear hown T hget hrw hbw hss hki
          go_wp2_with (at_builtin; refine wpList_appd _ rfl _ _ 28 rfl W1.heap.size 38 i0 _ 8 72 Try.underlying28 hi hz0 hz1 hz2 rfl (by decide) _ _ _ rfl (HOW.out.alloc _) ⟨wr.heap.size, 0, none⟩ 1 1 [.int .i64 yid, .int .i64 ydst, .int .i64 yord, .int .i64 ystep, .int .i64 ytr, .int .i64 ykind, .int .i64 ycode, .string yverb] rfl rfl (cells_new _ _ _) ?c2 (by decide) ?c3 ?c4 ?c5 ?_)
          case c2 => exact fLt_one ⟨yid, ydst, yord, ystep, ytr, ykind, ycode, yverb⟩
          case c3 => unfold maxLen; omega
          case c4 => omega
          case c5 => simp; omega
          intro v' w4 hown4 hgrow _
          have T4 : Tch [] W1 w4 := (HT.out.alloc (.cells #[.int .i64 yid, .int .i64 ydst, .int .i64 yord, .int .i64 ystep, .int .i64 ytr, .int .i64 ykind, .int .i64 ycode, .string yverb] 38)).own (HOW.out.alloc _) (Nat.le_refl _) hgrow
          obtain ⟨x3, c3, rfl⟩ := own_slice hown4
          have HR : Hid (TakRel W1.heap.size W1 l i (.slice x3 (m + 1) c3) (.int .i64 ((k + 1 : Nat) : Int)) w4) := ⟨k + 1, m + 1, x3, c3, by omega, rfl, rfl, by rw [HSN.out, List.flatMap_append, List.flatMap_cons, List.flatMap_nil, List.append_nil, HY.out]; exact hown4, by omega, T4⟩
          clear hown4 hgrow HOW T4 p0 p1 p2 p3 p4 p5 p6 p7
          go_wp2
          go_roundw
          case rel => exact HR.out
          case measure => simp [intOf]; omega
      · obtain rfl : k = l.length := by omega
        have hd : decide (l.length < l.length) = false := decide_eq_false hkl
        have hml : m = l.length - 1 := by
          have := hown.1
          rw [HLE.out, fm_len fLt_len, HEL.out] at this
          omega
        rw [HLE.out] at hown
        have d0 := blk_free hbw 0
        obtain ⟨W3, hW3⟩ : ∃ W3, W3 = wr.setCell ⟨bb, 0, none⟩ (.slice x2 m c2) := ⟨_, rfl⟩
        have t3 : Tch [bb] wr W3 := by rw [hW3]; exact (Tch.refl _ _).setCell (by simp) _
        have hbb3 : W3.heap[bb]? = some (.cells #[.slice x2 m c2, .int .i64 nx] 30 (0, 0)) := by
          rw [hW3]; have := blk_set hbw 0 (.slice x2 m c2); simpa using this
        have ho3 := own_keep hown t3 (fun q hq hm => by simp only [List.mem_singleton] at hm; have := (hown.lt q hq).1; have := H1.out.2.1.size; have := HSZ.out; omega)
        have T3 : Tch [bb] w W3 := (((H1.out.1.trans H1.out.2.1).trans T).mono (by simp)).trans t3
        have hx3 : W3.heap[W0.heap.size]? = some (.cells #[.int .i64 xid, .int .i64 xdst, .int .i64 xord, .int .i64 xstep, .int .i64 xtr, .int .i64 xkind, .int .i64 xcode, .string xverb] 38 (0, 0)) := t3.keep (T.keep H1.out.2.2.1 (by simp)) (by simp; omega)
        have hr3 : W3.heap[w.heap.size]? = some (.cells #[.int .i64 0, .int .i64 0, .int .i64 0, .int .i64 0, .int .i64 0, .int .i64 0, .int .i64 0, .string ⟨#[]⟩] 38 (0, 0)) := t3.keep (T.keep H1.out.2.2.2 (by simp)) (by simp; omega)
        have hs1 := H1.out.2.1.size
        have hss := HSZ.out
        have HS8 : Hid (∀ v0 v1 v2 v3 v4 v5 v6 v7, _) := fun v0 v1 v2 v3 v4 v5 v6 v7 => by
          have ts := tch_set8 W3 w.heap.size v0 v1 v2 v3 v4 v5 v6 v7
          refine HF.out (.slice x2 m c2) _ (ts.keep hbb3 (by simp; omega)) (own_base (own_keep (by rw [← hml]; exact ho3) ts (fun q hq hm => ?_)) (by omega)) (T3.transNew ts (by simp))
          simp only [List.mem_singleton] at hm
          have := (hown.lt q hq).1
          omega
        clear hown T hbw hrw t3 hbb3 ho3 T3 HF HBU H1 HSK HMO hml
        go_upto_region 11 with fail
        rw [← hW3]
        clear hW3 c0 d0
        have q0 := blk_cell hx3 0
        have q1 := blk_cell hx3 1
        have q2 := blk_cell hx3 2
        have q3 := blk_cell hx3 3
        have q4 := blk_cell hx3 4
        have q5 := blk_cell hx3 5
        have q6 := blk_cell hx3 6
        have q7 := blk_cell hx3 7
        simp only [List.getElem?_toArray, List.getElem?_cons_zero, List.getElem?_cons_succ] at q0 q1 q2 q3 q4 q5 q6 q7
        have r0 := blk_cell hr3 0
        have r1 := blk_cell hr3 1
        have r2 := blk_cell hr3 2
        have r3 := blk_cell hr3 3
        have r4 := blk_cell hr3 4
        have r5 := blk_cell hr3 5
        have r6 := blk_cell hr3 6
        have r7 := blk_cell hr3 7
        simp only [List.getElem?_toArray, List.getElem?_cons_zero, List.getElem?_cons_succ] at r0 r1 r2 r3 r4 r5 r6 r7
        have zr0 := blk_free hr3 0
        have zr1 := blk_free hr3 1
        have zr2 := blk_free hr3 2
        have zr3 := blk_free hr3 3
        have zr4 := blk_free hr3 4
        have zr5 := blk_free hr3 5
        have zr6 := blk_free hr3 6
        have zr7 := blk_free hr3 7
        clear hx3 hr3
        go_wp2_with fail
        exact bodyPost_ret (v := .tuple #[.agg #[.int .i64 xid, .int .i64 xdst, .int .i64 xord, .int .i64 xstep, .int .i64 xtr, .int .i64 xkind, .int .i64 xcode, .string xverb], .int .i64 0]) (by simp [results, Try.results23, go_sem, r0, r1, r2, r3, r4, r5, r6, r7]) rfl (HS8.out _ _ _ _ _ _ _ _)
  · have hE : b.takeE at_ = 70 := by unfold Bs.takeE; rw [if_neg hh]
    have hL : b.takeL at_ = lt0 := by unfold Bs.takeL; rw [if_neg hh]
    have HE : Hid (∀ W, Tch [] w W → BusPost 30 38 w bb v (b.take at_) (.tuple #[.agg #[.int .i64 (b.takeL at_).id, .int .i64 (b.takeL at_).dst, .int .i64 (b.takeL at_).ord, .int .i64 (b.takeL at_).step, .int .i64 (b.takeL at_).tr, .int .i64 (b.takeL at_).kind, .int .i64 (b.takeL at_).code, .string (b.takeL at_).verb], .int .i64 (b.takeE at_)]) (.returned (.tuple #[.agg #[.int .i64 0, .int .i64 0, .int .i64 0, .int .i64 0, .int .i64 0, .int .i64 0, .int .i64 0, .string ⟨#[]⟩], .int .i64 70])) W) := fun W t => by
      refine ⟨v, ?_, ?_, t.mono (by simp), Nearer.refl _ _⟩
      · rw [hE, hL]; rfl
      · unfold Bs.take; rw [if_neg hh]; exact h.keep0 t
    generalize BusPost 30 38 w bb v (b.take at_) (.tuple #[.agg #[.int .i64 (b.takeL at_).id, .int .i64 (b.takeL at_).dst, .int .i64 (b.takeL at_).ord, .int .i64 (b.takeL at_).step, .int .i64 (b.takeL at_).tr, .int .i64 (b.takeL at_).kind, .int .i64 (b.takeL at_).code, .string (b.takeL at_).verb], .int .i64 (b.takeE at_)]) = Q at *
    have HT := Lib.hid T0
    have c0 := (h.keep0 T0).c0
    obtain ⟨y, c, hv, hc⟩ := h.slice
    unfold Bs.has at hh
    generalize b.list.length = n at *
    subst hv
    clear h hE hL T0
    by_cases h0 : at_ < 0
    · clear hh
      go_enter Try.func23, Try.ntmps23
      go_upto_region 1 with fail
      rw [← hW0]
      clear hW0
      have r0 := blk_cell hb0 0
      have r1 := blk_cell hb0 1
      have r2 := blk_cell hb0 2
      have r3 := blk_cell hb0 3
      have r4 := blk_cell hb0 4
      have r5 := blk_cell hb0 5
      have r6 := blk_cell hb0 6
      have r7 := blk_cell hb0 7
      simp only [List.getElem?_toArray, List.getElem?_cons_zero, List.getElem?_cons_succ] at r0 r1 r2 r3 r4 r5 r6 r7
      have zr0 := blk_free hb0 0
      have zr1 := blk_free hb0 1
      have zr2 := blk_free hb0 2
      have zr3 := blk_free hb0 3
      have zr4 := blk_free hb0 4
      have zr5 := blk_free hb0 5
      have zr6 := blk_free hb0 6
      have zr7 := blk_free hb0 7
      go_wp2_with fail
      exact bodyPost_ret (v := .tuple #[.agg #[.int .i64 0, .int .i64 0, .int .i64 0, .int .i64 0, .int .i64 0, .int .i64 0, .int .i64 0, .string ⟨#[]⟩], .int .i64 70]) (by simp [results, Try.results23, go_sem, r0, r1, r2, r3, r4, r5, r6, r7]) rfl (HE.out _ (HT.out.transNew (tch_set8 W0 w.heap.size _ _ _ _ _ _ _ _) (by simp)))
    · have g1 : decide (at_ < 0) = false := decide_eq_false h0
      have h2 : (n : Int) ≤ at_ := by omega
      have g2 : decide ((n : Int) ≤ at_) = true := decide_eq_true h2
      clear hh
      go_enter Try.func23, Try.ntmps23
      go_upto_region 1 with fail
      rw [← hW0]
      clear hW0
      have r0 := blk_cell hb0 0
      have r1 := blk_cell hb0 1
      have r2 := blk_cell hb0 2
      have r3 := blk_cell hb0 3
      have r4 := blk_cell hb0 4
      have r5 := blk_cell hb0 5
      have r6 := blk_cell hb0 6
      have r7 := blk_cell hb0 7
      simp only [List.getElem?_toArray, List.getElem?_cons_zero, List.getElem?_cons_succ] at r0 r1 r2 r3 r4 r5 r6 r7
      have zr0 := blk_free hb0 0
      have zr1 := blk_free hb0 1
      have zr2 := blk_free hb0 2
      have zr3 := blk_free hb0 3
      have zr4 := blk_free hb0 4
      have zr5 := blk_free hb0 5
      have zr6 := blk_free hb0 6
      have zr7 := blk_free hb0 7
      go_wp2_with fail
      exact bodyPost_ret (v := .tuple #[.agg #[.int .i64 0, .int .i64 0, .int .i64 0, .int .i64 0, .int .i64 0, .int .i64 0, .int .i64 0, .string ⟨#[]⟩], .int .i64 70]) (by simp [results, Try.results23, go_sem, r0, r1, r2, r3, r4, r5, r6, r7]) rfl (HE.out _ (HT.out.transNew (tch_set8 W0 w.heap.size _ _ _ _ _ _ _ _) (by simp)))
end Go.Proofs.Ytgdfbpgnknnkpaa
