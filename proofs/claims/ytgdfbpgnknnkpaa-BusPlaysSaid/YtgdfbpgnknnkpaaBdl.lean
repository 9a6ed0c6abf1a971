/-
  slices.Delete of one letter, (*Bus).Double, Take. Conditions: the bus is as one made by the package's own calls.
-/
import Derived.Test.YtgdfbpgnknnkpaaBsd
import Derived.Deep.RegionLaw
import Derived.Outline
namespace Go.Proofs.Ytgdfbpgnknnkpaa
open Go.RowKit
set_option linter.unusedVariables false

theorem fm_take (l : List Lt) : ∀ i, (l.flatMap fLt).take (i * 8) = (l.take i).flatMap fLt := by
  induction l with
  | nil => intro i; simp
  | cons x l ih =>
    intro i
    cases i with
    | zero => simp
    | succ i =>
      rw [List.flatMap_cons, List.take_succ_cons, List.flatMap_cons, List.take_append, ← ih i, fLt_len, show (i + 1) * 8 - 8 = i * 8 from by omega, List.take_of_length_le (by rw [fLt_len]; omega)]
theorem fm_drop (l : List Lt) : ∀ i, (l.flatMap fLt).drop (i * 8) = (l.drop i).flatMap fLt := by
  induction l with
  | nil => intro i; simp
  | cons x l ih =>
    intro i
    cases i with
    | zero => simp
    | succ i =>
      rw [List.flatMap_cons, List.drop_succ_cons, ← ih i, List.drop_append, fLt_len, show (i + 1) * 8 - 8 = i * 8 from by omega, List.drop_eq_nil_of_le (by rw [fLt_len]; omega), List.nil_append]
theorem z8_lt : (Builtin.zeroCells zLt.cells 1).toList = fLt lt0 := by kernel_rfl
theorem z8_size : (Builtin.zeroCells zLt.cells 1).size = 8 := by kernel_rfl
theorem zero_lt (w : World) : (zeroValue 37).run Try.prog w = .ok zLt w := by kernel_rfl

set_option maxRecDepth 100000 in
set_option maxHeartbeats 2000000 in
theorem bdelete_any (g cap i : Nat) (l : List Lt) (w : World) (h : w.ownsRow 0 37 8 (.slice (some ⟨g, 0, none⟩) l.length cap) l.length (l.flatMap fLt)) (hi : i < l.length) :
    Calls Try.prog 29 #[.slice (some ⟨g, 0, none⟩) l.length cap, .int .i64 i, .int .i64 ((i + 1 : Nat) : Int)] w fun e w' => e = .returned (.slice (some ⟨g, 0, none⟩) (l.length - 1) cap) ∧
      (w'.ownsRow 0 37 8 (.slice (some ⟨g, 0, none⟩) (l.length - 1) cap) (l.length - 1) ((l.eraseIdx i).flatMap fLt) ∧ Tch [g] w w') := by
  obtain ⟨i0, hi0, hz0, hz1, hz2⟩ := info_parts Try.info_lt
  obtain ⟨cur, _, hb, hnc, hcm, hcs, htk⟩ := own_cut h
  clear h
  unfold maxLen at hcm
  obtain ⟨n, hn⟩ : ∃ n, n = l.length := ⟨_, rfl⟩
  obtain ⟨j, hj⟩ : ∃ j, j = i + 1 := ⟨_, rfl⟩
  -- the cells that are moved to the left
  obtain ⟨news, hnews⟩ : ∃ news, news = (l.drop j).flatMap fLt := ⟨_, rfl⟩
  have hlen : news.length = (n - j) * 8 := by rw [hnews, fm_len fLt_len, List.length_drop, hn]
  have hdr : ∀ t u, news[t]? = some u → w.drew.cell? ⟨g, j * 8 + t, none⟩ = some u := fun t u hu => by
    have ht := (List.getElem?_eq_some_iff.1 hu).1
    rw [hlen] at ht
    rw [hnews, ← fm_drop, List.getElem?_drop, ← htk, List.getElem?_take, if_pos (by omega), Array.getElem?_toList] at hu
    show w.cell? _ = _
    rw [blk_cell hb]; exact hu
  obtain ⟨A, hA, hsrc⟩ : ∃ A : Addr, (if cap = j then some (⟨g, 0, none⟩ : Addr) else some ⟨g, j * 8, none⟩) = some A ∧ Hid (∀ t u, news[t]? = some u → w.drew.cell? (A.add t) = some u) := by
    by_cases hc : cap = j
    · refine ⟨⟨g, 0, none⟩, by simp [hc], fun t u hu => ?_⟩
      have h0 : news.length = 0 := by rw [hlen]; omega
      rw [List.length_eq_zero_iff.1 h0] at hu
      simp at hu
    · refine ⟨⟨g, j * 8, none⟩, by simp [hc], fun t u hu => ?_⟩
      rw [add_mk]; exact hdr t u hu
  have s2 : Hid (∀ u ∈ news, u.oneCell' = true) := by show ∀ u ∈ news, _; rw [hnews]; exact fm_one fLt_one _
  have s3 : Hid (∀ t, t < news.length → (w.drew.cell? ⟨g, 0 + i * 8 + t, none⟩).isSome = true ∧ w.drew.frozen? ⟨g, 0 + i * 8 + t, none⟩ = false) := fun t ht => by
    rw [hlen] at ht
    refine ⟨?_, blk_free (w := w) hb _⟩
    show (w.cell? _).isSome = true
    rw [blk_cell hb, Array.getElem?_eq_getElem (by omega)]; rfl
  obtain ⟨W1, hW1⟩ : ∃ W1, W1 = w.drew.setCells g (0 + i * 8) news := ⟨_, rfl⟩
  have hb1 : W1.heap[g]? = some (.cells (cur.toList.take (i * 8) ++ news ++ cur.toList.drop (i * 8 + news.length)).toArray 37 (0, 0)) := by
    rw [hW1, Nat.zero_add]
    exact setCells_blk news (i * 8) w.drew cur hb (by rw [hlen]; omega)
  have t1 : Tch [g] w W1 := by rw [hW1]; exact ((Tch.refl [g] w).drew).trans (tch_setCells g _ _ _)
  have hcur1 : (cur.toList.take (i * 8) ++ news ++ cur.toList.drop (i * 8 + news.length)).toArray.size = cap * 8 := by
    simp; omega
  have hk1 : (cur.toList.take (i * 8) ++ news ++ cur.toList.drop (i * 8 + news.length)).toArray.toList.take ((n - 1) * 8) = (l.eraseIdx i).flatMap fLt := by
    rw [List.eraseIdx_eq_take_drop_succ, List.flatMap_append, ← hj, ← hnews, ← fm_take, ← htk, List.take_take, Nat.min_eq_left (by omega)]
    show (cur.toList.take (i * 8) ++ news ++ _).take _ = _
    exact List.take_left' (by simp; omega)
  generalize (cur.toList.take (i * 8) ++ news ++ cur.toList.drop (i * 8 + news.length)).toArray = cur1 at hb1 hcur1 hk1
  have hcl : ∀ ty, (Builtin.clear_ #[32] ty #[.slice (some ⟨g, (n - 1) * 8, none⟩) 1 (cap - (n - 1))]).run Try.prog W1 = .ok (.tuple #[]) (W1.setCells g ((n - 1) * 8) (Builtin.zeroCells zLt.cells 1).toList) :=
    fun ty => run_clear_part W1 _ _ ty _ Try.underlying32 zero_lt g _ 1 _ (by decide) (by rw [z8_lt]; exact fLt_one lt0)
      (fun t ht => by rw [z8_size] at ht; rw [blk_cell hb1, Array.getElem?_eq_getElem (by omega)]; rfl) (fun t ht => blk_free hb1 _)
  obtain ⟨W2, hW2⟩ : ∃ W2, W2 = W1.setCells g ((n - 1) * 8) (Builtin.zeroCells zLt.cells 1).toList := ⟨_, rfl⟩
  have hfin : Hid (W2.ownsRow 0 37 8 (.slice (some ⟨g, 0, none⟩) (n - 1) cap) (n - 1) ((l.eraseIdx i).flatMap fLt) ∧ Tch [g] w W2) := by
    have hz8 : (Builtin.zeroCells zLt.cells 1).toList.length = 8 := by rw [z8_lt]; rfl
    have hb2 := setCells_blk (Builtin.zeroCells zLt.cells 1).toList ((n - 1) * 8) W1 cur1 hb1 (by rw [hz8]; omega)
    rw [← hW2] at hb2
    refine ⟨⟨?_, Or.inr ⟨g, cap, _, rfl, by omega, hb2, by omega, by unfold maxLen; omega, ?_, ?_⟩⟩, by rw [hW2]; exact t1.trans (tch_setCells g _ _ _)⟩
    · rw [fm_len fLt_len, List.length_eraseIdx, if_pos (by omega), hn]
    · simp [hz8]; omega
    · rw [← hk1]
      show (cur1.toList.take _ ++ _ ++ _).take _ = _
      rw [List.append_assoc]
      exact List.take_left' (by simp; omega)
  rw [← hW2] at hcl
  have hcl2 : ∀ ty, (Builtin.clear_ #[32] ty #[.slice (some ⟨g, (i + (n - j)) * 8, none⟩) (n - (i + (n - j))) (cap - (i + (n - j)))]).run Try.prog W1 = .ok (.tuple #[]) W2 := fun ty => by
    rw [show i + (n - j) = n - 1 from by omega, show n - (n - 1) = 1 from by omega]; exact hcl ty
  clear hcl
  have HW := Lib.hid hW1
  have hjn : j ≤ n := by omega
  have hjc : j ≤ cap := by omega
  have hic : i ≤ cap := by omega
  have hij : i < j := by omega
  have e1 : Hid (i + (n - j) = n - 1) := by show _ = _; omega
  rw [← hn, ← hj]
  have hin : i < n := by omega
  have s1 := Lib.hid hlen
  have hne : ((i : Int) == (j : Int)) = false := by simp; omega
  have hnc2 : n ≤ cap := by omega
  have hne2 : (i == j) = false := by simp; omega
  have hne3 : ¬ (i = j) := by omega
  have HA := Lib.hid hA
  clear hb1 t1 hcur1 hk1 hW1 hdr hlen hnews hcs htk hb hW2 hz0 hz2 hn hj hi
  go_enter Try.func29, Try.ntmps29
  go_upto_region 5 with fail
  have hA := HA.out
  go_region_law (refine step_append_room rfl (.tmp 22) (.tmp 25) 32 rfl 37 i0 8 Try.underlying32 hi0 hz1 g 0 i cap (by simp [Act.eval, Act.put]) A (n - j) (cap - j) news (by simp [Act.eval, Act.put]) s1.out hsrc.out s2.out (by omega) s3.out ?_; rw [← HW.out])
  go_wp2
  go_ret
  exact ⟨by rw [← e1.out]; rfl, hfin.out⟩
/-- The eight cells of a letter of a row. -/
theorem lt_cells {w : World} {a : Option Addr} {len b o : Nat} {l : List Lt} (h : IsR fLt 8 w a len b o l) {k : Nat} {x : Lt} (hg : l[k]? = some x) :
    w.cell? ⟨b, o + k * 8, none⟩ = some (.int .i64 x.id) ∧ w.cell? ⟨b, o + k * 8 + 1, none⟩ = some (.int .i64 x.dst) ∧ w.cell? ⟨b, o + k * 8 + 2, none⟩ = some (.int .i64 x.ord) ∧ w.cell? ⟨b, o + k * 8 + 3, none⟩ = some (.int .i64 x.step) ∧
    w.cell? ⟨b, o + k * 8 + 4, none⟩ = some (.int .i64 x.tr) ∧ w.cell? ⟨b, o + k * 8 + 5, none⟩ = some (.int .i64 x.kind) ∧ w.cell? ⟨b, o + k * 8 + 6, none⟩ = some (.int .i64 x.code) ∧ w.cell? ⟨b, o + k * 8 + 7, none⟩ = some (.string x.verb) :=
  ⟨h.c0 hg rfl, h.c hg 1 rfl, h.c hg 2 rfl, h.c hg 3 rfl, h.c hg 4 rfl, h.c hg 5 rfl, h.c hg 6 rfl, h.c hg 7 rfl⟩
theorem bdbl_nil (at_ : Int) (w : World) : Calls Try.prog 18 #[.pointer none, .int .i64 at_] w fun e w' => e = .returned (.tuple #[.int .i64 0, .int .i64 1]) ∧ w = w' := by
  have HR := Lib.hid (brefusal_nil at_ w)
  go_enter Try.func18, Try.ntmps18
  go_wp2_with fail
  refine HR.out.mono ?_
  rintro e w' ⟨rfl, rfl⟩
  go_wp2_with fail
  go_ret2
  exact ⟨rfl, rfl⟩
set_option maxRecDepth 100000 in
set_option maxHeartbeats 1000000 in
theorem bdbl_any (bb : Nat) (v : Value) (b : Bs) (at_ : Int) (w : World) (h : PBus w bb v b) (hg : b.Good) (hn1 : b.next ≤ 4611686018427387904) :
    Calls Try.prog 18 #[.pointer (some ⟨bb, 0, none⟩), .int .i64 at_] w (BusPost 63 37 w bb v (b.dbl at_) (.tuple #[.int .i64 (b.dblN at_), .int .i64 (b.dblE at_)])) := by
  have HR := Lib.hid (brefusal_any bb v b at_ w h)
  by_cases hh : b.has at_
  · obtain ⟨k, rfl⟩ := Int.eq_ofNat_of_zero_le hh.1
    have hkl : k < b.list.length := by have := hh.2; omega
    have hget := List.getElem?_eq_getElem hkl
    have hgd : b.list.getD (Int.toNat (k : Int)) lt0 = b.list[k] := by rw [Int.toNat_natCast, List.getD_eq_getElem?_getD, hget]; rfl
    have hE : b.takeE k = 0 := by unfold Bs.takeE; rw [if_pos hh]
    rw [hE] at HR
    have HF : Hid (∀ v' W, PBus W bb v' (b.send b.list[k]) → Tch (dom bb v) w W → Nearer w.heap.size (dom bb v) (dom bb v') → BusPost 63 37 w bb v (b.dbl k) (.tuple #[.int .i64 (b.dblN k), .int .i64 (b.dblE k)]) (.returned (.tuple #[.int .i64 b.sendN, .int .i64 b.sendE])) W) := fun v' W h1 h2 h3 => by
      refine ⟨v', ?_, ?_, h2, h3⟩
      · unfold Bs.dblN Bs.dblE; rw [if_pos hh, if_pos hh]
      · unfold Bs.dbl; rw [if_pos hh, hgd]; exact h1
    generalize BusPost 63 37 w bb v (b.dbl k) (.tuple #[.int .i64 (b.dblN k), .int .i64 (b.dblE k)]) = Q at *
    have HS := Lib.hid (bsend_any bb v b b.list[k] w h (hg.ok _ (List.getElem_mem hkl)) (by have := hg.lo; omega) hn1)
    have c0 := h.c0
    obtain ⟨y, c, rb, ro, hv, hr, _⟩ := h.row
    obtain ⟨p0, p1, p2, p3, p4, p5, p6, p7⟩ := lt_cells hr hget
    have hy := hr.some_ (by omega)
    subst hy
    generalize b.list[k] = x at *
    generalize x.id = xid at *
    generalize x.dst = xdst at *
    generalize x.ord = xord at *
    generalize x.step = xstep at *
    generalize x.tr = xtr at *
    generalize x.kind = xkind at *
    generalize x.code = xcode at *
    generalize x.verb = xverb at *
    generalize b.list.length = n at *
    generalize b.sendN = sn at *
    generalize b.sendE = se at *
    subst hv
    have hkI : (k : Int) < (n : Int) := by omega
    have hk0 : (0 : Int) ≤ (k : Int) := by omega
    clear h hr hget hgd hh hE hg
    go_enter Try.func18, Try.ntmps18
    go_wp2_with fail
    refine HR.out.mono ?_
    rintro e w' ⟨rfl, rfl⟩
    clear HR
    go_wp2_with fail
    refine HS.out.mono ?_
    rintro e w' ⟨v', rfl, h1, h2, h3⟩
    have HE := Lib.hid (HF.out _ _ h1 h2 h3)
    clear HS HF h1 h2 h3 p0 p1 p2 p3 p4 p5 p6 p7 c0
    go_wp2_with fail
    first | exact HE.out | (go_ret2; exact HE.out)
  · have hE : b.takeE at_ = 70 := by unfold Bs.takeE; rw [if_neg hh]
    rw [hE] at HR
    have HE : Hid (BusPost 63 37 w bb v (b.dbl at_) (.tuple #[.int .i64 (b.dblN at_), .int .i64 (b.dblE at_)]) (.returned (.tuple #[.int .i64 0, .int .i64 70])) w) := by
      refine ⟨v, ?_, ?_, Tch.refl _ _, Nearer.refl _ _⟩
      · unfold Bs.dblN Bs.dblE; rw [if_neg hh, if_neg hh]
      · unfold Bs.dbl; rw [if_neg hh]; exact h
    generalize BusPost 63 37 w bb v (b.dbl at_) (.tuple #[.int .i64 (b.dblN at_), .int .i64 (b.dblE at_)]) = Q at *
    clear h hh hE hg
    go_enter Try.func18, Try.ntmps18
    go_wp2_with fail
    refine HR.out.mono ?_
    rintro e w' ⟨rfl, rfl⟩
    go_wp2_with fail
    first | exact HE.out | (go_ret2; exact HE.out)
theorem btake_nil (at_ : Int) (w : World) : Calls Try.prog 17 #[.pointer none, .int .i64 at_] w fun e w' => e = .returned (.tuple #[.agg #[.int .i64 0, .int .i64 0, .int .i64 0, .int .i64 0, .int .i64 0, .int .i64 0, .int .i64 0, .string ⟨#[]⟩], .int .i64 1]) ∧ Tch [] w w' := by
  have HR := Lib.hid (fun W => brefusal_nil at_ W)
  obtain ⟨W0, hW0⟩ : ∃ W0, W0 = w.alloc (.cells #[.int .i64 0, .int .i64 0, .int .i64 0, .int .i64 0, .int .i64 0, .int .i64 0, .int .i64 0, .string ⟨#[]⟩] 37) := ⟨_, rfl⟩
  have T0 : Tch [] w W0 := by rw [hW0]; exact (Tch.refl _ _).alloc _
  have hb0 : W0.heap[w.heap.size]? = some (.cells #[.int .i64 0, .int .i64 0, .int .i64 0, .int .i64 0, .int .i64 0, .int .i64 0, .int .i64 0, .string ⟨#[]⟩] 37 (0, 0)) := by rw [hW0]; exact blk_new _ _
  have HT := Lib.hid T0
  clear T0
  go_enter Try.func17, Try.ntmps17
  go_upto_region 1 with fail
  rw [← hW0]
  clear hW0
  have r0 := blk_cell hb0 0
  have r1 := blk_cell hb0 1
  have r2 := blk_cell hb0 2
  have r3 := blk_cell hb0 3
  have r4 := blk_cell hb0 4
  have r5 := blk_cell hb0 5
  have r6 := blk_cell hb0 6
  have r7 := blk_cell hb0 7
  simp only [List.getElem?_toArray, List.getElem?_cons_zero, List.getElem?_cons_succ] at r0 r1 r2 r3 r4 r5 r6 r7
  have zr0 := blk_free hb0 0
  have zr1 := blk_free hb0 1
  have zr2 := blk_free hb0 2
  have zr3 := blk_free hb0 3
  have zr4 := blk_free hb0 4
  have zr5 := blk_free hb0 5
  have zr6 := blk_free hb0 6
  have zr7 := blk_free hb0 7
  go_wp2_with fail
  refine (HR.out W0).mono ?_
  rintro e w' ⟨rfl, rfl⟩
  go_wp2_with fail
  exact bodyPost_ret (v := .tuple #[.agg #[.int .i64 0, .int .i64 0, .int .i64 0, .int .i64 0, .int .i64 0, .int .i64 0, .int .i64 0, .string ⟨#[]⟩], .int .i64 1]) (by simp [results, Try.results17, go_sem, r0, r1, r2, r3, r4, r5, r6, r7]) rfl ⟨rfl, HT.out.transNew (tch_set8 W0 w.heap.size _ _ _ _ _ _ _ _) (by simp)⟩
set_option maxRecDepth 100000 in
set_option maxHeartbeats 2000000 in
theorem btake_any (bb : Nat) (v : Value) (b : Bs) (at_ : Int) (w : World) (h : PBus w bb v b) (hg : b.Good) :
    Calls Try.prog 17 #[.pointer (some ⟨bb, 0, none⟩), .int .i64 at_] w (BusPost 63 37 w bb v (b.take at_) (.tuple #[.agg #[.int .i64 (b.takeL at_).id, .int .i64 (b.takeL at_).dst, .int .i64 (b.takeL at_).ord, .int .i64 (b.takeL at_).step, .int .i64 (b.takeL at_).tr, .int .i64 (b.takeL at_).kind, .int .i64 (b.takeL at_).code, .string (b.takeL at_).verb], .int .i64 (b.takeE at_)])) := by
  obtain ⟨W0, hW0⟩ : ∃ W0, W0 = w.alloc (.cells #[.int .i64 0, .int .i64 0, .int .i64 0, .int .i64 0, .int .i64 0, .int .i64 0, .int .i64 0, .string ⟨#[]⟩] 37) := ⟨_, rfl⟩
  have T0 : Tch [] w W0 := by rw [hW0]; exact (Tch.refl _ _).alloc _
  have hb0 : W0.heap[w.heap.size]? = some (.cells #[.int .i64 0, .int .i64 0, .int .i64 0, .int .i64 0, .int .i64 0, .int .i64 0, .int .i64 0, .string ⟨#[]⟩] 37 (0, 0)) := by rw [hW0]; exact blk_new _ _
  have HR := Lib.hid (brefusal_any bb v b at_ W0 (h.keep0 T0))
  have hbl : bb < w.heap.size := lt_of_block h.blk
  by_cases hh : b.has at_
  · obtain ⟨k, rfl⟩ := Int.eq_ofNat_of_zero_le hh.1
    have hkl : k < b.list.length := by have := hh.2; omega
    have hget := List.getElem?_eq_getElem hkl
    have hgd : b.takeL k = b.list[k] := by unfold Bs.takeL; rw [if_pos hh, Int.toNat_natCast, List.getD_eq_getElem?_getD, hget]; rfl
    have hE : b.takeE k = 0 := by unfold Bs.takeE; rw [if_pos hh]
    have hlen := hg.len
    rw [hE] at HR
    rw [hgd, hE]
    have hown := h.own
    obtain ⟨g, cap, hv⟩ : ∃ g cap, v = .slice (some ⟨g, 0, none⟩) b.list.length cap := by
      rcases hown.2 with ⟨_, h0⟩ | ⟨g, cap, cur, hv, _⟩
      · omega
      · exact ⟨g, cap, hv⟩
    have hds : dom bb v = [bb, g] := by rw [hv]; rfl
    have hgl : g < w.heap.size := h.dom_lt g (by rw [hds]; simp)
    have hgb : g ≠ bb := fun e => own_neT hown h.blk (by decide) (by rw [hv, ← e]; rfl)
    have HF : Hid (∀ W, W.heap[bb]? = some (.cells #[.slice (some ⟨g, 0, none⟩) (b.list.length - 1) cap, .int .i64 b.next] 63 (0, 0)) → W.ownsRow 0 37 8 (.slice (some ⟨g, 0, none⟩) (b.list.length - 1) cap) (b.list.length - 1) ((b.list.eraseIdx k).flatMap fLt) → Tch [bb, g] w W →
        BusPost 63 37 w bb v (b.take k) (.tuple #[.agg #[.int .i64 b.list[k].id, .int .i64 b.list[k].dst, .int .i64 b.list[k].ord, .int .i64 b.list[k].step, .int .i64 b.list[k].tr, .int .i64 b.list[k].kind, .int .i64 b.list[k].code, .string b.list[k].verb], .int .i64 0]) (.returned (.tuple #[.agg #[.int .i64 b.list[k].id, .int .i64 b.list[k].dst, .int .i64 b.list[k].ord, .int .i64 b.list[k].step, .int .i64 b.list[k].tr, .int .i64 b.list[k].kind, .int .i64 b.list[k].code, .string b.list[k].verb], .int .i64 0])) W) := fun W h1 h2 h3 => by
      refine ⟨.slice (some ⟨g, 0, none⟩) (b.list.length - 1) cap, rfl, ?_, by rw [hds]; exact h3, fun q hq => Or.inl ?_⟩
      · unfold Bs.take
        rw [if_pos hh, Int.toNat_natCast]
        refine ⟨h1, ?_⟩
        show World.ownsRow _ _ _ _ _ (b.list.eraseIdx k).length _
        rw [List.length_eraseIdx, if_pos hkl]; exact h2
      · rw [hds]; exact hq
    have hbus0 := h.keep0 T0
    have c0 := hbus0.c0
    obtain ⟨y, c, rb, ro, hv2, hr, _⟩ := hbus0.row
    obtain ⟨p0, p1, p2, p3, p4, p5, p6, p7⟩ := lt_cells hr hget
    have hy := hr.some_ (by omega)
    subst hy
    rw [hv] at hv2
    simp only [Value.slice.injEq, Option.some.injEq, Addr.mk.injEq, true_and] at hv2
    obtain ⟨⟨rfl, h0ro, _⟩, rfl⟩ := hv2
    subst h0ro
    have hD : Hid (∀ W, Tch [] w W → Calls Try.prog 29 #[.slice (some ⟨g, 0, none⟩) b.list.length cap, .int .i64 k, .int .i64 ((k + 1 : Nat) : Int)] W fun e w' => e = .returned (.slice (some ⟨g, 0, none⟩) (b.list.length - 1) cap) ∧
      (w'.ownsRow 0 37 8 (.slice (some ⟨g, 0, none⟩) (b.list.length - 1) cap) (b.list.length - 1) ((b.list.eraseIdx k).flatMap fLt) ∧ Tch [g] W w')) := fun W t => bdelete_any g cap k b.list W (by have := (h.keep0 t).own; rw [hv] at this; exact this) hkl
    have HBB : Hid (∀ W, Tch [g] w W → W.heap[bb]? = some (.cells #[v, .int .i64 b.next] 63 (0, 0))) := fun W t => t.keep h.blk (by simp; exact fun e => hgb e.symm)
    generalize b.list.eraseIdx k = er at *
    generalize b.list[k] = x at *
    generalize x.id = xid at *
    generalize x.dst = xdst at *
    generalize x.ord = xord at *
    generalize x.step = xstep at *
    generalize x.tr = xtr at *
    generalize x.kind = xkind at *
    generalize x.code = xcode at *
    generalize x.verb = xverb at *
    generalize BusPost 63 37 w bb v (b.take k) (.tuple #[.agg #[.int .i64 xid, .int .i64 xdst, .int .i64 xord, .int .i64 xstep, .int .i64 xtr, .int .i64 xkind, .int .i64 xcode, .string xverb], .int .i64 0]) = Q at *
    generalize b.list.length = n at *
    generalize b.next = nx at *
    subst hv
    have hkI : (k : Int) < (n : Int) := by omega
    have hk0 : (0 : Int) ≤ (k : Int) := by omega
    simp only [Nat.zero_add] at p0 p1 p2 p3 p4 p5 p6 p7
    obtain ⟨W1, hW1⟩ : ∃ W1, W1 = W0.alloc (.cells #[.int .i64 xid, .int .i64 xdst, .int .i64 xord, .int .i64 xstep, .int .i64 xtr, .int .i64 xkind, .int .i64 xcode, .string xverb] 37) := ⟨_, rfl⟩
    have t1 : Tch [] w W1 := by rw [hW1]; exact T0.alloc _
    have hb1 : W1.heap[W0.heap.size]? = some (.cells #[.int .i64 xid, .int .i64 xdst, .int .i64 xord, .int .i64 xstep, .int .i64 xtr, .int .i64 xkind, .int .i64 xcode, .string xverb] 37 (0, 0)) := by rw [hW1]; exact blk_new _ _
    have hr1 : W1.heap[w.heap.size]? = some (.cells #[.int .i64 0, .int .i64 0, .int .i64 0, .int .i64 0, .int .i64 0, .int .i64 0, .int .i64 0, .string ⟨#[]⟩] 37 (0, 0)) := by rw [hW1]; exact blk_alloc hb0 _
    have c1 := blk_cell (HBB.out W1 (t1.mono (by simp))) 0
    simp only [List.getElem?_toArray, List.getElem?_cons_zero] at c1
    have hsz0 : w.heap.size + 1 = W0.heap.size := by rw [hW0]; simp
    have H1 := Lib.hid (And.intro t1 (And.intro hb1 hr1))
    have HSZ := Lib.hid hsz0
    have hgl0 : g ≠ W0.heap.size := by omega
    have hgl1 : g ≠ w.heap.size := by omega
    have hbl0 : bb ≠ W0.heap.size := by omega
    have hbl1 : bb ≠ w.heap.size := by omega
    clear h hr hget hgd hh hE hg hown hds hbus0 T0 hb0 t1 hb1 hr1 hsz0
    go_enter Try.func17, Try.ntmps17
    go_upto_region 1 with fail
    rw [← hW0]
    have HW1 := Lib.hid hW1
    clear hW0 hW1
    go_wp2_with fail
    refine HR.out.mono ?_
    rintro e w' ⟨rfl, rfl⟩
    clear HR
    go_upto_region 5 with fail
    rw [← HW1.out]
    clear HW1 p0 p1 p2 p3 p4 p5 p6 p7 c0
    go_wp2_with fail
    refine (hD.out W1 H1.out.1).mono ?_
    rintro e W2 ⟨rfl, ho2, t2⟩
    have hbb2 := HBB.out W2 ((H1.out.1.mono (by simp)).trans t2)
    have d0 := blk_cell hbb2 0
    have z0 := blk_free hbb2 0
    simp only [List.getElem?_toArray, List.getElem?_cons_zero] at d0
    obtain ⟨W3, hW3⟩ : ∃ W3, W3 = W2.setCell ⟨bb, 0, none⟩ (.slice (some ⟨g, 0, none⟩) (n - 1) cap) := ⟨_, rfl⟩
    have t3 : Tch [bb] W2 W3 := by rw [hW3]; exact (Tch.refl _ _).setCell (by simp) _
    have hbb3 : W3.heap[bb]? = some (.cells #[.slice (some ⟨g, 0, none⟩) (n - 1) cap, .int .i64 nx] 63 (0, 0)) := by
      rw [hW3]; have := blk_set hbb2 0 (.slice (some ⟨g, 0, none⟩) (n - 1) cap); simpa using this
    have ho3 := own_keep ho2 t3 (fun q hq hm => by simp only [Value.ownBlock, Option.some.injEq] at hq; simp only [List.mem_singleton] at hm; omega)
    have T3 : Tch [bb, g] w W3 := ((H1.out.1.mono (by simp)).trans (t2.mono (by simp))).trans (t3.mono (by simp))
    have hx3 : W3.heap[W0.heap.size]? = some (.cells #[.int .i64 xid, .int .i64 xdst, .int .i64 xord, .int .i64 xstep, .int .i64 xtr, .int .i64 xkind, .int .i64 xcode, .string xverb] 37 (0, 0)) := t3.keep (t2.keep H1.out.2.1 (by simp; omega)) (by simp; omega)
    have hr3 : W3.heap[w.heap.size]? = some (.cells #[.int .i64 0, .int .i64 0, .int .i64 0, .int .i64 0, .int .i64 0, .int .i64 0, .int .i64 0, .string ⟨#[]⟩] 37 (0, 0)) := t3.keep (t2.keep H1.out.2.2 (by simp; omega)) (by simp; omega)
    have HS8 : Hid (∀ v0 v1 v2 v3 v4 v5 v6 v7, _) := fun v0 v1 v2 v3 v4 v5 v6 v7 => by
      have ts := tch_set8 W3 w.heap.size v0 v1 v2 v3 v4 v5 v6 v7
      exact HF.out _ (ts.keep hbb3 (by simp; omega)) (own_keep ho3 ts (fun q hq hm => by simp only [Value.ownBlock, Option.some.injEq] at hq; simp only [List.mem_singleton] at hm; omega)) (T3.transNew ts (by simp))
    clear ho2 t2 hbb2 t3 hbb3 ho3 T3 HF hD HBB H1
    go_upto_region 6 with fail
    rw [← hW3]
    clear hW3 d0 z0 c1
    have q0 := blk_cell hx3 0
    have q1 := blk_cell hx3 1
    have q2 := blk_cell hx3 2
    have q3 := blk_cell hx3 3
    have q4 := blk_cell hx3 4
    have q5 := blk_cell hx3 5
    have q6 := blk_cell hx3 6
    have q7 := blk_cell hx3 7
    simp only [List.getElem?_toArray, List.getElem?_cons_zero, List.getElem?_cons_succ] at q0 q1 q2 q3 q4 q5 q6 q7
    have r0 := blk_cell hr3 0
    have r1 := blk_cell hr3 1
    have r2 := blk_cell hr3 2
    have r3 := blk_cell hr3 3
    have r4 := blk_cell hr3 4
    have r5 := blk_cell hr3 5
    have r6 := blk_cell hr3 6
    have r7 := blk_cell hr3 7
    simp only [List.getElem?_toArray, List.getElem?_cons_zero, List.getElem?_cons_succ] at r0 r1 r2 r3 r4 r5 r6 r7
    have zr0 := blk_free hr3 0
    have zr1 := blk_free hr3 1
    have zr2 := blk_free hr3 2
    have zr3 := blk_free hr3 3
    have zr4 := blk_free hr3 4
    have zr5 := blk_free hr3 5
    have zr6 := blk_free hr3 6
    have zr7 := blk_free hr3 7
    clear hx3 hr3
    go_wp2_with fail
    exact bodyPost_ret (v := .tuple #[.agg #[.int .i64 xid, .int .i64 xdst, .int .i64 xord, .int .i64 xstep, .int .i64 xtr, .int .i64 xkind, .int .i64 xcode, .string xverb], .int .i64 0]) (by simp [results, Try.results17, go_sem, r0, r1, r2, r3, r4, r5, r6, r7]) rfl (HS8.out _ _ _ _ _ _ _ _)
  · have hE : b.takeE at_ = 70 := by unfold Bs.takeE; rw [if_neg hh]
    have hL : b.takeL at_ = lt0 := by unfold Bs.takeL; rw [if_neg hh]
    rw [hE] at HR
    have HE : Hid (∀ W, Tch [] w W → BusPost 63 37 w bb v (b.take at_) (.tuple #[.agg #[.int .i64 (b.takeL at_).id, .int .i64 (b.takeL at_).dst, .int .i64 (b.takeL at_).ord, .int .i64 (b.takeL at_).step, .int .i64 (b.takeL at_).tr, .int .i64 (b.takeL at_).kind, .int .i64 (b.takeL at_).code, .string (b.takeL at_).verb], .int .i64 (b.takeE at_)]) (.returned (.tuple #[.agg #[.int .i64 0, .int .i64 0, .int .i64 0, .int .i64 0, .int .i64 0, .int .i64 0, .int .i64 0, .string ⟨#[]⟩], .int .i64 70])) W) := fun W t => by
      refine ⟨v, ?_, ?_, t.mono (by simp), Nearer.refl _ _⟩
      · rw [hE, hL]; rfl
      · unfold Bs.take; rw [if_neg hh]; exact h.keep0 t
    generalize BusPost 63 37 w bb v (b.take at_) (.tuple #[.agg #[.int .i64 (b.takeL at_).id, .int .i64 (b.takeL at_).dst, .int .i64 (b.takeL at_).ord, .int .i64 (b.takeL at_).step, .int .i64 (b.takeL at_).tr, .int .i64 (b.takeL at_).kind, .int .i64 (b.takeL at_).code, .string (b.takeL at_).verb], .int .i64 (b.takeE at_)]) = Q at *
    have HT := Lib.hid T0
    clear h hh hE hL hg T0
    go_enter Try.func17, Try.ntmps17
    go_upto_region 1 with fail
    rw [← hW0]
    clear hW0
    have r0 := blk_cell hb0 0
    have r1 := blk_cell hb0 1
    have r2 := blk_cell hb0 2
    have r3 := blk_cell hb0 3
    have r4 := blk_cell hb0 4
    have r5 := blk_cell hb0 5
    have r6 := blk_cell hb0 6
    have r7 := blk_cell hb0 7
    simp only [List.getElem?_toArray, List.getElem?_cons_zero, List.getElem?_cons_succ] at r0 r1 r2 r3 r4 r5 r6 r7
    have zr0 := blk_free hb0 0
    have zr1 := blk_free hb0 1
    have zr2 := blk_free hb0 2
    have zr3 := blk_free hb0 3
    have zr4 := blk_free hb0 4
    have zr5 := blk_free hb0 5
    have zr6 := blk_free hb0 6
    have zr7 := blk_free hb0 7
    go_wp2_with fail
    refine HR.out.mono ?_
    rintro e w' ⟨rfl, rfl⟩
    go_wp2_with fail
    exact bodyPost_ret (v := .tuple #[.agg #[.int .i64 0, .int .i64 0, .int .i64 0, .int .i64 0, .int .i64 0, .int .i64 0, .int .i64 0, .string ⟨#[]⟩], .int .i64 70]) (by simp [results, Try.results17, go_sem, r0, r1, r2, r3, r4, r5, r6, r7]) rfl (HE.out _ (HT.out.transNew (tch_set8 W0 w.heap.size _ _ _ _ _ _ _ _) (by simp)))
end Go.Proofs.Ytgdfbpgnknnkpaa
