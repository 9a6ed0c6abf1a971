/-
  The law BusRestores, walked.
-/
import Derived.Test.YtgdfbpgnknnkpaaBst
import Derived.Laws.AppendOwnNone
namespace Go.Proofs.Ytgdfbpgnknnkpaa
open Go.RowKit
set_option linter.unusedVariables false

/-- 'append([]bus.Letter(nil), list...)', whatever the letters. -/
theorem wpList_append_lts {w : World} {ops : Array Oper} {rest : List Oper} {o : Oper} {ac : Act} {Q : Exit → Act → World → Prop} (hgd : o.guard = none) (s x : Operand)
    (ho : o.op = .call { callee := .builtin .append, args := #[s, x], argTypes := #[32, 32] }) (hs : ac.eval s = .slice none 0 0)
    (cs : List Lt) (a : Option Addr) (n cap b oo : Nat) (hx : ac.eval x = .slice a n cap) (hr : IsR fLt 8 w a n b oo cs) (hz : a = none → n = 0 ∧ cap = 0) (hl : n * 72 ≤ 140737488351232)
    (h : ∀ x1 c1 b1 o1 w1, IsR fLt 8 w1 x1 n b1 o1 cs → Tch [] w w1 → wpList Try.prog ops Q rest (ac.put o.dst (.slice x1 n c1)) w1) : wpList Try.prog ops Q (o :: rest) ac w := by
  obtain ⟨i0, hi, hz0, hz1, hz2⟩ := info_parts Try.info_lt
  cases a with
  | none =>
    obtain ⟨rfl, rfl⟩ := hz rfl
    have hc0 : cs = [] := List.length_eq_zero_iff.1 hr.hlen.symm
    refine wpList_append_own_none hgd s x _ ho w.heap.size 37 i0 8 Try.underlying32 hi (.slice none 0 0) 0 [] hs (World.ownsRow_nil _ _ _ _) hx ?_
    exact h none 0 0 0 w (by rw [hc0]; exact IsR.nil _ _ _ _) (Tch.refl _ _)
  | some y =>
    have hlen := fm_len fLt_len cs
    rw [← hr.hlen] at hlen
    unfold zLt at hz0
    refine wpList_append_own w hgd s x _ ho w.heap.size 37 i0 _ 8 72 Try.underlying32 hi hz0 hz1 hz2 rfl (by decide) (.slice none 0 0) 0 [] hs (World.ownsRow_nil _ _ _ _) y n cap (cs.flatMap fLt) hx hlen (hr.cells fLt_len) (fm_one fLt_one cs) (by unfold maxLen; omega) (by omega) (Nat.le_refl _) ?_
    intro v' w' ho' hg hiff
    rw [Nat.zero_add, List.nil_append] at ho'
    obtain ⟨x1, c1, rfl⟩ := own_slice ho'
    obtain ⟨b1, hR, hn, hb1⟩ := IsR.own fLt_len ho' hr.hlen
    clear hn
    exact h x1 c1 b1 0 w' hR ((Tch.refl [] w).own (World.ownsRow_nil w w.heap.size 37 8) (Nat.le_refl _) hg)
theorem IsR.ofNew {TL : TypeId} {w w' : World} {l : List Lt} {x : Option Addr} {n c : Nat} (h : w'.ownsRow w.heap.size TL 8 (.slice x n c) l.length (l.flatMap fLt)) : n = l.length ∧ ∃ lb lo, IsR fLt 8 w' x l.length lb lo l := by
  obtain ⟨lb, hr, hn, _⟩ := IsR.own fLt_len h rfl
  exact ⟨hn, lb, 0, hr⟩

set_option maxRecDepth 100000 in
set_option maxHeartbeats 4000000 in
theorem restores7_walk (next : Int) (a : Option Addr) (n cap lb0 lo0 : Nat) (l : List Lt) (a' : Option Addr) (n2 cap2 sb so : Nat) (ops : List POp) (w : World) (hnx : (Lit.int .i64 next).wf = true)
    (hr : IsR fLt 8 w a n lb0 lo0 l) (hok : ∀ x ∈ l, x.Ok) (hl : n * 72 ≤ 140737488351232) (hc : n ≤ cap) (hz : a = none → n = 0 ∧ cap = 0) (hs : IsR fOp 10 w a' n2 sb so ops) (hok2 : ∀ o ∈ ops, o.lt.Ok) (hl2 : n2 * 88 ≤ 140737488351232) (_hc2 : n2 ≤ cap2) :
    Calls Try.prog 4 #[.int .i64 next, .slice a n cap, .slice a' n2 cap2] w (TchPost w) := by
  obtain rfl := hr.hlen
  obtain rfl := hs.hlen
  have hla := hr
  have HC : Hid (∀ W, Tch [] w W → IsR fLt 8 W a l.length lb0 lo0 l) := fun W t => hr.keep0 t
  have HRY : Hid (restB next l = true → ∀ W x c lb lo, IsR fLt 8 W x l.length lb lo l → Calls Try.prog 12 #[.int .i64 next, .slice x l.length c] W (RestOk 63 37 W ⟨l, next⟩)) := fun h W x c lb lo hh => brest_yes x l.length c lb lo l next W hh h hok
  have HRN : Hid (restB next l = false → ∀ W x c lb lo, IsR fLt 8 W x l.length lb lo l → Calls Try.prog 12 #[.int .i64 next, .slice x l.length c] W (RestNo W)) := fun h W x c lb lo hh => brest_no x l.length c lb lo l next W hh h
  have HRR : Hid (∀ W x c lb lo, IsR fLt 8 W x l.length lb lo l → Calls Try.prog 14 #[.int .i64 next, .slice x l.length c] W (RbPost W next l)) := fun W x c lb lo hh => rbrest_any x l.length c lb lo l next W hh
  have HWK : Hid (∀ W, Calls Try.prog 9 #[] W (TchPost W)) := fun W => bwakes_any W
  have HREF : Hid (∀ (x : Lt) W, Calls Try.prog 13 #[.agg #[.int .i64 x.id, .int .i64 x.dst, .int .i64 x.ord, .int .i64 x.step, .int .i64 x.tr, .int .i64 x.kind, .int .i64 x.code, .string x.verb]] W fun e w' => e = .returned (.agg #[.int .i64 x.id, .int .i64 x.dst, .int .i64 x.ord, .int .i64 x.step, .int .i64 x.tr, .int .i64 x.kind, .int .i64 x.code, .string x.verb]) ∧ Tch [] W w') := fun x W => bref_any x W
  have HGD : Hid (restB next l = true → (⟨l, next⟩ : Bs).Good ∧ next ≤ 1152921504606846976) := fun h => ⟨good_rest h hok, by unfold restB at h; simp only [Bool.and_eq_true, decide_eq_true_eq] at h; exact h.1.1.2⟩
  have HPL : Hid (∀ bb v rb rv W, PlSt W (dom bb v) (dom rb rv) bb v rb rv ⟨l, next⟩ W → next ≤ 1152921504606846976 → Tch [] w W → (∀ q ∈ dom bb v ++ dom rb rv, w.heap.size ≤ q) → Calls Try.prog 10 #[.pointer (some ⟨bb, 0, none⟩), .pointer (some ⟨rb, 0, none⟩), .slice a' ops.length cap2] W (TchPost w)) := fun bb v rb rv W s hle t hq => by
    refine (bplay_any bb rb v rv ⟨l, next⟩ ops a' ops.length cap2 sb so W _ _ s (hs.keep0 t) (fun h0 hm => by have := hq _ hm; have := hs.lt h0; omega) hok2 (by show next + _ ≤ _; omega) (by omega)).mono ?_
    rintro e w' ⟨rfl, bb', v', rv', b', s', _, _⟩
    exact ⟨rfl, t.transNew s'.t (fun m hm => Or.inr (hq m hm))⟩
  have HF : Hid (∀ W, Tch [] w W → TchPost w (.returned (.bool true)) W) := fun W t => ⟨rfl, t⟩
  generalize hQ : TchPost w = Q at HF ⊢
  obtain ⟨i0, hi, hz0, hz1, hz2⟩ := info_parts Try.info_rlt
  unfold zLt at hz0
  have hnI : (l.length : Int) ≤ 10000000000000 := by omega
  have HZ := Lib.hid hz
  have HLL := Lib.hid hl
  clear hQ hok hs hok2 hl2 hnx hr hz hl
  go_enter Try.func4, Try.ntmps4
  go_wp2_with (at_builtin; refine wpList_append_lts rfl _ _ rfl rfl l a l.length cap lb0 lo0 rfl hla HZ.out HLL.out ?_)
  intro x1 c1 b1 o1 w1 hr1 t1
  clear hla HZ
  -- the program's Restore
  rcases hrb : restB next l with _ | _
  · have HC1 := Lib.hid (HRN.out hrb w1 x1 c1 b1 o1 hr1)
    have HRB := Lib.hid hrb
    have HT1 := Lib.hid t1
    clear hr1 hrb t1 HRY HRN HGD HPL
    go_wp2_with fail
    refine HC1.out.mono ?_
    rintro e w2 ⟨rfl, t2⟩
    have HT2 := Lib.hid (HT1.out.trans t2)
    have HST : Hid (CopRel 38 w2 l (.slice none 0 0) (.int .i64 0) w2) := ⟨0, none, 0, by omega, rfl, rfl, World.ownsRow_nil _ _ _ _, Tch.refl _ _⟩
    clear HC1 t2 HT1
    go_wp2_with fail
    go_loopw [9, 23] (fun v9 v23 wr => CopRel 38 w2 l v9 v23 wr) (fun _ v23 _ => l.length - (intOf v23).toNat)
    case atStart => exact HST.out
    case round =>
      clear HST
      obtain ⟨k, x, c, hk, rfl, rfl, hown, T⟩ := hrel
      by_cases hkl : k < l.length
      · have hcw := HC.out wr (HT2.out.trans T)
        have hget := List.getElem?_eq_getElem hkl
        obtain ⟨p0, p1, p2, p3, p4, p5, p6, p7⟩ := lt_cells hcw hget
        have hla := hcw.some_ (by omega)
        subst hla
        have HSN : Hid ((l.take (k + 1)).flatMap fLt = (l.take k).flatMap fLt ++ [.int .i64 l[k].id, .int .i64 l[k].dst, .int .i64 l[k].ord, .int .i64 l[k].step, .int .i64 l[k].tr, .int .i64 l[k].kind, .int .i64 l[k].code, .string l[k].verb]) := fm_snoc l k _ hget
        have HCK := Lib.hid (fun W => HREF.out l[k] W)
        have hd : decide (k < l.length) = true := decide_eq_true hkl
        generalize l[k] = y at *
        generalize y.id = yid at *
        generalize y.dst = ydst at *
        generalize y.ord = yord at *
        generalize y.step = ystep at *
        generalize y.tr = ytr at *
        generalize y.kind = ykind at *
        generalize y.code = ycode at *
        generalize y.verb = yverb at *
        have HOW := Lib.hid hown
        have HT := Lib.hid T
        clear hcw hget hown T
        go_upto_region 6 with fail
        obtain ⟨W2, hW2⟩ : ∃ W2, W2 = wr.alloc (.cells #[.int .i64 yid, .int .i64 ydst, .int .i64 yord, .int .i64 ystep, .int .i64 ytr, .int .i64 ykind, .int .i64 ycode, .string yverb] 37) := ⟨_, rfl⟩
        rw [← hW2]
        have hb2 : W2.heap[wr.heap.size]? = some (.cells #[.int .i64 yid, .int .i64 ydst, .int .i64 yord, .int .i64 ystep, .int .i64 ytr, .int .i64 ykind, .int .i64 ycode, .string yverb] 37 (0, 0)) := by rw [hW2]; exact blk_new _ _
        have t2 : Tch [] wr W2 := by rw [hW2]; exact (Tch.refl _ _).alloc _
        clear hW2 p0 p1 p2 p3 p4 p5 p6 p7
        have q0 := blk_cell hb2 0
        have q1 := blk_cell hb2 1
        have q2 := blk_cell hb2 2
        have q3 := blk_cell hb2 3
        have q4 := blk_cell hb2 4
        have q5 := blk_cell hb2 5
        have q6 := blk_cell hb2 6
        have q7 := blk_cell hb2 7
        simp only [List.getElem?_toArray, List.getElem?_cons_zero, List.getElem?_cons_succ] at q0 q1 q2 q3 q4 q5 q6 q7
        clear hb2
        have HT3 := Lib.hid t2
        clear t2
        go_wp2_with fail
        refine (HCK.out W2).mono ?_
        rintro e W3 ⟨rfl, t3⟩
        have hs3 := t3.size
        have hs2 := HT3.out.size
        have hs1 := HT.out.size
        have HO3 := Lib.hid (own_keep HOW.out (HT3.out.trans t3) (fun _ _ => by simp))
        have T3 := Lib.hid ((HT.out.trans HT3.out).trans t3)
        have hl9 := HLL.out
        clear t3
        go_wp2_with (at_builtin; refine wpList_appd _ rfl _ _ 28 rfl w2.heap.size 38 i0 _ 8 72 Try.underlying28 hi hz0 hz1 hz2 rfl (by decide) _ _ _ rfl (HO3.out.alloc _) ⟨W3.heap.size, 0, none⟩ 1 1 [.int .i64 yid, .int .i64 ydst, .int .i64 yord, .int .i64 ystep, .int .i64 ytr, .int .i64 ykind, .int .i64 ycode, .string yverb] rfl rfl (cells_new _ _ _) ?c2 (by decide) ?c3 ?c4 ?c5 ?_)
        case c2 => exact fLt_one ⟨yid, ydst, yord, ystep, ytr, ykind, ycode, yverb⟩
        case c3 => unfold maxLen; omega
        case c4 => omega
        case c5 => simp; omega
        intro v' w4 hown4 hgrow _
        have T4 := (T3.out.alloc (.cells #[.int .i64 yid, .int .i64 ydst, .int .i64 yord, .int .i64 ystep, .int .i64 ytr, .int .i64 ykind, .int .i64 ycode, .string yverb] 38)).own (HO3.out.alloc _) (Nat.le_refl _) hgrow
        obtain ⟨x2, c2, rfl⟩ := own_slice hown4
        rw [← HSN.out] at hown4
        have HO := Lib.hid hown4
        clear hown4 hgrow HOW HO3 T3 q0 q1 q2 q3 q4 q5 q6 q7
        go_wp2
        go_roundw
        case rel => exact ⟨k + 1, x2, c2, by omega, by go_num, rfl, HO.out, T4⟩
        case measure => simp [intOf]; omega
      · obtain rfl : k = l.length := by omega
        have hd : decide (l.length < l.length) = false := decide_eq_false hkl
        rw [List.take_length] at hown
        obtain ⟨_, lb, lo, hr3⟩ := IsR.ofNew hown
        have HC3 := Lib.hid (HRR.out wr x c lb lo hr3)
        have T2 := Lib.hid (HT2.out.trans T)
        clear hown T hr3 hkl HC HREF HT2 HRR
        go_wp2_with fail
        refine HC3.out.mono ?_
        rintro e w5 (⟨h1, _⟩ | ⟨_, rfl, t5⟩)
        · rw [HRB.out] at h1; cases h1
        have HC4 := Lib.hid (HWK.out w5)
        have T5 := Lib.hid (T2.out.trans t5)
        clear t5 HC3 T2 HWK
        go_wp2_with fail
        refine HC4.out.mono ?_
        rintro e w6 ⟨rfl, t6⟩
        have HE := Lib.hid (HF.out w6 (T5.out.trans t6))
        clear t6 T5 HC4 HF
        go_wp2_with fail
        first | exact HE.out | (go_ret; exact HE.out)
  · have HC1 := Lib.hid (HRY.out hrb w1 x1 c1 b1 o1 hr1)
    have HRB := Lib.hid hrb
    have HT1 := Lib.hid t1
    clear hr1 hrb t1 HRY HRN
    go_wp2_with fail
    refine HC1.out.mono ?_
    rintro e w2 ⟨bb, bv, rfl, hp2, hn2, t2⟩
    have HT2 := Lib.hid (HT1.out.trans t2)
    have HP2 := Lib.hid (And.intro hp2 (fun q hq => Nat.le_trans HT1.out.size (hn2 q hq)))
    have HST : Hid (CopRel 38 w2 l (.slice none 0 0) (.int .i64 0) w2) := ⟨0, none, 0, by omega, rfl, rfl, World.ownsRow_nil _ _ _ _, Tch.refl _ _⟩
    clear HC1 t2 HT1 hp2 hn2
    go_wp2_with fail
    go_loopw [9, 23] (fun v9 v23 wr => CopRel 38 w2 l v9 v23 wr) (fun _ v23 _ => l.length - (intOf v23).toNat)
    case atStart => exact HST.out
    case round =>
      clear HST
      obtain ⟨k, x, c, hk, rfl, rfl, hown, T⟩ := hrel
      by_cases hkl : k < l.length
      · have hcw := HC.out wr (HT2.out.trans T)
        have hget := List.getElem?_eq_getElem hkl
        obtain ⟨p0, p1, p2, p3, p4, p5, p6, p7⟩ := lt_cells hcw hget
        have hla := hcw.some_ (by omega)
        subst hla
        have HSN : Hid ((l.take (k + 1)).flatMap fLt = (l.take k).flatMap fLt ++ [.int .i64 l[k].id, .int .i64 l[k].dst, .int .i64 l[k].ord, .int .i64 l[k].step, .int .i64 l[k].tr, .int .i64 l[k].kind, .int .i64 l[k].code, .string l[k].verb]) := fm_snoc l k _ hget
        have HCK := Lib.hid (fun W => HREF.out l[k] W)
        have hd : decide (k < l.length) = true := decide_eq_true hkl
        generalize l[k] = y at *
        generalize y.id = yid at *
        generalize y.dst = ydst at *
        generalize y.ord = yord at *
        generalize y.step = ystep at *
        generalize y.tr = ytr at *
        generalize y.kind = ykind at *
        generalize y.code = ycode at *
        generalize y.verb = yverb at *
        have HOW := Lib.hid hown
        have HT := Lib.hid T
        clear hcw hget hown T
        go_upto_region 6 with fail
        obtain ⟨W2, hW2⟩ : ∃ W2, W2 = wr.alloc (.cells #[.int .i64 yid, .int .i64 ydst, .int .i64 yord, .int .i64 ystep, .int .i64 ytr, .int .i64 ykind, .int .i64 ycode, .string yverb] 37) := ⟨_, rfl⟩
        rw [← hW2]
        have hb2 : W2.heap[wr.heap.size]? = some (.cells #[.int .i64 yid, .int .i64 ydst, .int .i64 yord, .int .i64 ystep, .int .i64 ytr, .int .i64 ykind, .int .i64 ycode, .string yverb] 37 (0, 0)) := by rw [hW2]; exact blk_new _ _
        have t2 : Tch [] wr W2 := by rw [hW2]; exact (Tch.refl _ _).alloc _
        clear hW2 p0 p1 p2 p3 p4 p5 p6 p7
        have q0 := blk_cell hb2 0
        have q1 := blk_cell hb2 1
        have q2 := blk_cell hb2 2
        have q3 := blk_cell hb2 3
        have q4 := blk_cell hb2 4
        have q5 := blk_cell hb2 5
        have q6 := blk_cell hb2 6
        have q7 := blk_cell hb2 7
        simp only [List.getElem?_toArray, List.getElem?_cons_zero, List.getElem?_cons_succ] at q0 q1 q2 q3 q4 q5 q6 q7
        clear hb2
        have HT3 := Lib.hid t2
        clear t2
        go_wp2_with fail
        refine (HCK.out W2).mono ?_
        rintro e W3 ⟨rfl, t3⟩
        have hs3 := t3.size
        have hs2 := HT3.out.size
        have hs1 := HT.out.size
        have HO3 := Lib.hid (own_keep HOW.out (HT3.out.trans t3) (fun _ _ => by simp))
        have T3 := Lib.hid ((HT.out.trans HT3.out).trans t3)
        have hl9 := HLL.out
        clear t3
        go_wp2_with (at_builtin; refine wpList_appd _ rfl _ _ 28 rfl w2.heap.size 38 i0 _ 8 72 Try.underlying28 hi hz0 hz1 hz2 rfl (by decide) _ _ _ rfl (HO3.out.alloc _) ⟨W3.heap.size, 0, none⟩ 1 1 [.int .i64 yid, .int .i64 ydst, .int .i64 yord, .int .i64 ystep, .int .i64 ytr, .int .i64 ykind, .int .i64 ycode, .string yverb] rfl rfl (cells_new _ _ _) ?c2 (by decide) ?c3 ?c4 ?c5 ?_)
        case c2 => exact fLt_one ⟨yid, ydst, yord, ystep, ytr, ykind, ycode, yverb⟩
        case c3 => unfold maxLen; omega
        case c4 => omega
        case c5 => simp; omega
        intro v' w4 hown4 hgrow _
        have T4 := (T3.out.alloc (.cells #[.int .i64 yid, .int .i64 ydst, .int .i64 yord, .int .i64 ystep, .int .i64 ytr, .int .i64 ykind, .int .i64 ycode, .string yverb] 38)).own (HO3.out.alloc _) (Nat.le_refl _) hgrow
        obtain ⟨x2, c2, rfl⟩ := own_slice hown4
        rw [← HSN.out] at hown4
        have HO := Lib.hid hown4
        clear hown4 hgrow HOW HO3 T3 q0 q1 q2 q3 q4 q5 q6 q7
        go_wp2
        go_roundw
        case rel => exact ⟨k + 1, x2, c2, by omega, by go_num, rfl, HO.out, T4⟩
        case measure => simp [intOf]; omega
      · obtain rfl : k = l.length := by omega
        have hd : decide (l.length < l.length) = false := decide_eq_false hkl
        rw [List.take_length] at hown
        obtain ⟨_, lb, lo, hr3⟩ := IsR.ofNew hown
        have HC3 := Lib.hid (HRR.out wr x c lb lo hr3)
        have T2 := Lib.hid (HT2.out.trans T)
        have HTW := Lib.hid T
        clear hown T hr3 hkl HC HREF HT2 HRR
        go_wp2_with fail
        refine HC3.out.mono ?_
        rintro e w5 (⟨_, rb, rv, rfl, hrb5, hn5, t5⟩ | ⟨h1, _⟩)
        rotate_left
        · rw [HRB.out] at h1; cases h1
        have HC4 := Lib.hid (HWK.out w5)
        have T5 := Lib.hid (T2.out.trans t5)
        have HPW : Hid (∀ W, Tch [] w5 W → PlSt W (dom bb bv) (dom rb rv) bb bv rb rv ⟨l, next⟩ W) := fun W t => by
          have hp := HP2.out.1.keep0 (HTW.out.trans t5)
          refine ⟨hp.keep0 t, hrb5.keep0 t, (HGD.out HRB.out).1, fun q h1 h2 => ?_, Nearer.refl _ _, Nearer.refl _ _, Tch.refl _ _⟩
          have := (HP2.out.1.keep0 HTW.out).dom_lt q h1
          have := hn5 q h2
          omega
        have HQQ : Hid (∀ q ∈ dom bb bv ++ dom rb rv, w.heap.size ≤ q) := fun q hq => by
          rcases List.mem_append.1 hq with h | h
          · exact HP2.out.2 q h
          · exact Nat.le_trans T2.out.size (hn5 q h)
        clear t5 HC3 T2 HWK hrb5 hn5 HP2 HTW
        go_wp2_with fail
        refine HC4.out.mono ?_
        rintro e w6 ⟨rfl, t6⟩
        have s6 := HPW.out w6 t6
        have HA := Lib.hid (balike_yes bb rb bv rv ⟨l, next⟩ w6 s6.p s6.r s6.g)
        have HT6 := Lib.hid t6
        clear t6 HC4 s6
        go_wp2_with fail
        refine HA.out.mono ?_
        rintro e w7 ⟨rfl, t7⟩
        have T7 := HT6.out.trans t7
        have HP := Lib.hid (HPL.out bb bv rb rv w7 (HPW.out w7 T7) (HGD.out HRB.out).2 (T5.out.trans T7) HQQ.out)
        clear t7 T7 HA HT6 T5 HPW HQQ HPL HGD HRB
        go_wp2_with fail
        refine HP.out.mono ?_
        rintro e w8 ⟨rfl, t8⟩
        have HE := Lib.hid (HF.out w8 t8)
        clear t8 HP HF
        go_wp2_with fail
        first | exact HE.out | (go_ret; exact HE.out)
end Go.Proofs.Ytgdfbpgnknnkpaa
