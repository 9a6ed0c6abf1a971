/-
  The law BusOrder, walked.
-/
import Derived.Test.YtgdfbpgnknnkpaaBst
import Derived.Deep.CutBlock
namespace Go.Proofs.Ytgdfbpgnknnkpaa
open Go.RowKit
set_option linter.unusedVariables false

/-- What holds at the head of each round. -/
def OrRel (w : World) (bb : Nat) (ops : List POp) (v4 v16 : Value) (wr : World) : Prop :=
  ∃ (k : Nat) (v : Value) (b : Bs), k ≤ ops.length ∧ v16 = .int .i64 k ∧ (∃ last : Int, v4 = .int .i64 last ∧ last ≤ b.next) ∧ BSt w bb v b wr ∧ b.next ≤ 1 + (k : Int)
theorem BSt.step_send {w wr : World} {bb : Nat} {v : Value} {b : Bs} {N : Int} (h : b.next ≤ N) (l : Lt) : (b.send l).next ≤ N + 1 ∧ b.next ≤ (b.send l).next := by have := b.send_next l; omega

set_option maxRecDepth 100000 in
set_option maxHeartbeats 4000000 in
theorem order7_walk (a : Option Addr) (len cap sb so : Nat) (ops : List POp) (w : World) (hs : IsR fOp 10 w a len sb so ops) (hok : ∀ o ∈ ops, o.lt.Ok) (hl : len * 88 ≤ 140737488351232) (_hc : len ≤ cap) :
    Calls Try.prog 7 #[.slice a len cap] w (TchPost w) := by
  obtain rfl := hs.hlen
  have HW := Lib.hid (bwakes_any w)
  have HN : Hid (∀ W, Tch [] w W → Calls Try.prog 11 #[] W fun e w' => ∃ bb v, e = .returned (.pointer (some ⟨bb, 0, none⟩)) ∧ BSt w bb v ⟨[], 1⟩ w') := fun W t => bst_new w W t
  have HC : Hid (∀ W, Tch [] w W → IsR fOp 10 W a ops.length sb so ops) := fun W t => hs.keep0 t
  have HOK := Lib.hid hok
  have HF : Hid (∀ W, Tch [] w W → TchPost w (.returned (.bool true)) W) := fun W t => ⟨rfl, t⟩
  generalize hQ : TchPost w = Q at HF ⊢
  have hlI : (ops.length : Int) ≤ 10000000000000 := by omega
  clear hQ hs hok hl
  go_enter Try.func7, Try.ntmps7
  go_wp2_with fail
  refine HW.out.mono ?_
  rintro e w1 ⟨rfl, t1⟩
  have HN1 := Lib.hid (HN.out w1 t1)
  clear HW HN t1
  go_wp2_with fail
  refine HN1.out.mono ?_
  rintro e w2 ⟨bb, v, rfl, s2⟩
  have HST : Hid (OrRel w bb ops (.int .i64 1) (.int .i64 0) w2) := ⟨0, v, _, by omega, rfl, ⟨1, rfl, by decide⟩, s2, by decide⟩
  clear HN1 s2
  go_wp2_with fail
  go_loopw [4, 16] (fun v4 v16 wr => OrRel w bb ops v4 v16 wr) (fun _ v16 _ => ops.length - (intOf v16).toNat)
  case atStart => exact HST.out
  case round =>
    clear HST
    obtain ⟨k, v, b, hk, rfl, ⟨last, rfl, hlast⟩, st, hbn⟩ := hrel
    by_cases hkl : k < ops.length
    · have hd : decide (k < ops.length) = true := decide_eq_true hkl
      have hcw := HC.out wr st.t
      have ha := hcw.some_ (by omega)
      subst ha
      have hget := List.getElem?_eq_getElem hkl
      have p0 := hcw.c0 hget (v := .int .i64 ops[k].kind) rfl
      have p1 := hcw.c hget 1 (v := .int .i64 ops[k].at_) rfl
      have p2 := hcw.c hget 2 (v := .int .i64 ops[k].lt.id) rfl
      have p3 := hcw.c hget 3 (v := .int .i64 ops[k].lt.dst) rfl
      have p4 := hcw.c hget 4 (v := .int .i64 ops[k].lt.ord) rfl
      have p5 := hcw.c hget 5 (v := .int .i64 ops[k].lt.step) rfl
      have p6 := hcw.c hget 6 (v := .int .i64 ops[k].lt.tr) rfl
      have p7 := hcw.c hget 7 (v := .int .i64 ops[k].lt.kind) rfl
      have p8 := hcw.c hget 8 (v := .int .i64 ops[k].lt.code) rfl
      have p9 := hcw.c hget 9 (v := .string ops[k].lt.verb) rfl
      have hoko := HOK.out _ (List.getElem_mem hkl)
      generalize ops[k] = o at *
      obtain ⟨kind, at_, x⟩ := o
      simp only at p0 p1 p2 p3 p4 p5 p6 p7 p8 p9 hoko
      have HSE : Hid (∀ W, BSt w bb v b W → Calls Try.prog 16 #[.pointer (some ⟨bb, 0, none⟩), .agg #[.int .i64 x.id, .int .i64 x.dst, .int .i64 x.ord, .int .i64 x.step, .int .i64 x.tr, .int .i64 x.kind, .int .i64 x.code, .string x.verb]] W (StPost w bb (b.send x) (.tuple #[.int .i64 (b.sendN), .int .i64 (b.sendE)]))) := fun W s => s.send x hoko (by omega)
      have HTA : Hid (∀ W, BSt w bb v b W → Calls Try.prog 17 #[.pointer (some ⟨bb, 0, none⟩), .int .i64 at_] W (StPost w bb (b.take at_) (.tuple #[.agg #[.int .i64 (b.takeL at_).id, .int .i64 (b.takeL at_).dst, .int .i64 (b.takeL at_).ord, .int .i64 (b.takeL at_).step, .int .i64 (b.takeL at_).tr, .int .i64 (b.takeL at_).kind, .int .i64 (b.takeL at_).code, .string (b.takeL at_).verb], .int .i64 (b.takeE at_)]))) := fun W s => s.take at_
      have HDB : Hid (∀ W, BSt w bb v b W → Calls Try.prog 18 #[.pointer (some ⟨bb, 0, none⟩), .int .i64 at_] W (StPost w bb (b.dbl at_) (.tuple #[.int .i64 (b.dblN at_), .int .i64 (b.dblE at_)]))) := fun W s => s.dbl at_ (by omega)
      have HB1 : Hid ((b.send x).next ≤ 1 + ((k + 1 : Nat) : Int) ∧ last ≤ (b.send x).next) := by have := b.send_next x; exact ⟨by push_cast; omega, by omega⟩
      have HB2 : Hid ((b.take at_).next ≤ 1 + ((k + 1 : Nat) : Int) ∧ last ≤ (b.take at_).next) := by rw [b.take_next]; exact ⟨by push_cast; omega, hlast⟩
      have HB3 : Hid ((b.dbl at_).next ≤ 1 + ((k + 1 : Nat) : Int) ∧ last ≤ (b.dbl at_).next) := by have := b.dbl_next at_; exact ⟨by push_cast; omega, by omega⟩
      have HB4 : Hid (b.next ≤ 1 + ((k + 1 : Nat) : Int) ∧ last ≤ b.next) := ⟨by push_cast; omega, hlast⟩
      generalize b.takeL at_ = z at *
      obtain ⟨W1, hW1⟩ : ∃ W1, W1 = wr.alloc (.cells #[.int .i64 kind, .int .i64 at_, .int .i64 x.id, .int .i64 x.dst, .int .i64 x.ord, .int .i64 x.step, .int .i64 x.tr, .int .i64 x.kind, .int .i64 x.code, .string x.verb] 54) := ⟨_, rfl⟩
      have t1 : Tch [] wr W1 := by rw [hW1]; exact (Tch.refl _ _).alloc _
      have hb1 : W1.heap[wr.heap.size]? = some (.cells #[.int .i64 kind, .int .i64 at_, .int .i64 x.id, .int .i64 x.dst, .int .i64 x.ord, .int .i64 x.step, .int .i64 x.tr, .int .i64 x.kind, .int .i64 x.code, .string x.verb] 54 (0, 0)) := by rw [hW1]; exact blk_new _ _
      have S1 := Lib.hid (st.keep t1)
      clear hcw hget hoko st t1 hbn hlast
      go_upto_region 8 with fail
      rw [← hW1]
      clear hW1 p0 p1 p2 p3 p4 p5 p6 p7 p8 p9
      have q0 := blk_cell hb1 0
      have q1 := blk_cell hb1 1
      have q2 := blk_cell hb1 2
      have q3 := blk_cell hb1 3
      have q4 := blk_cell hb1 4
      have q5 := blk_cell hb1 5
      have q6 := blk_cell hb1 6
      have q7 := blk_cell hb1 7
      have q8 := blk_cell hb1 8
      have q9 := blk_cell hb1 9
      simp only [List.getElem?_toArray, List.getElem?_cons_zero, List.getElem?_cons_succ] at q0 q1 q2 q3 q4 q5 q6 q7 q8 q9
      clear hb1
      -- the three calls meet at the list
      go_upto_block 2 with (fail)
      go_cut [] from 22 to 39 (fun wx => ∃ v' b', BSt w bb v' b' wx ∧ b'.next ≤ 1 + ((k + 1 : Nat) : Int) ∧ last ≤ b'.next)
      case first =>
        by_cases hk1 : kind = 1
        · subst hk1
          go_wp2_with fail
          refine (HSE.out W1 S1.out).mono ?_
          rintro e W2 ⟨v2, rfl, s2⟩
          have HE : Hid (∃ v' b', BSt w bb v' b' W2 ∧ b'.next ≤ 1 + ((k + 1 : Nat) : Int) ∧ last ≤ b'.next) := ⟨v2, _, s2, HB1.out.1, HB1.out.2⟩
          clear s2
          go_wp2_with fail
          go_meet
          exact HE.out
        have b1 : (kind == 1) = false := beq_false_of_ne hk1
        by_cases hk3 : kind = 3
        · subst hk3
          go_wp2_with fail
          refine (HDB.out W1 S1.out).mono ?_
          rintro e W2 ⟨v2, rfl, s2⟩
          have HE : Hid (∃ v' b', BSt w bb v' b' W2 ∧ b'.next ≤ 1 + ((k + 1 : Nat) : Int) ∧ last ≤ b'.next) := ⟨v2, _, s2, HB3.out.1, HB3.out.2⟩
          clear s2
          go_wp2_with fail
          go_meet
          exact HE.out
        have b3 : (kind == 3) = false := beq_false_of_ne hk3
        by_cases hk2 : kind = 2
        · subst hk2
          go_wp2_with fail
          refine (HTA.out W1 S1.out).mono ?_
          rintro e W2 ⟨v2, rfl, s2⟩
          have HE : Hid (∃ v' b', BSt w bb v' b' W2 ∧ b'.next ≤ 1 + ((k + 1 : Nat) : Int) ∧ last ≤ b'.next) := ⟨v2, _, s2, HB2.out.1, HB2.out.2⟩
          clear s2
          go_wp2_with fail
          go_meet
          exact HE.out
        have b2 : (kind == 2) = false := beq_false_of_ne hk2
        have HE : Hid (∃ v' b', BSt w bb v' b' W1 ∧ b'.next ≤ 1 + ((k + 1 : Nat) : Int) ∧ last ≤ b'.next) := ⟨v, _, S1.out, HB4.out.1, HB4.out.2⟩
        go_wp2_with fail
        go_meet
        exact HE.out
      case rest =>
        clear HSE HTA HDB HB1 HB2 HB3 HB4 S1 q0 q1 q2 q3 q4 q5 q6 q7 q8 q9
        obtain ⟨v', b', s', hbn, hlast⟩ := hcut
        have HL := Lib.hid (s'.list)
        have SC := Lib.hid s'
        have HG := Lib.hid s'.g
        have HLST := Lib.hid hlast
        have hbnn := hbn
        have HBN := Lib.hid hbn
        clear s' hbn hlast hbnn
        go_wp2_with fail
        refine HL.out.mono ?_
        rintro e w5 ⟨lx, lc, lb, lo, rfl, hlr, hln, t5⟩
        have S5 := Lib.hid (SC.out.keep t5)
        have HR : Hid (∀ W, Tch [] w5 W → IsR fLt 8 W lx b'.list.length lb lo b'.list) := fun W t => hlr.keep0 t
        have HNX : Hid (∀ W, Tch [] w5 W → ∀ q, Calls Try.prog 20 #[.pointer (some ⟨bb, 0, none⟩)] (W.drewN q) fun e w' => e = .returned (.int .i64 b'.next) ∧ W.drewN q = w') := fun W t q => (S5.out.keep (tdrewN t q)).next
        have HLT := Lib.hid (numB_lt _ _ _ HG.out.num)
        have HRI := Lib.hid (numB_rise _ _ _ HG.out.num)
        have hll : (b'.list.length : Int) ≤ 4096 := by have := HG.out.len; omega
        clear hlr hln t5 HL SC
        go_wp2_with fail
        go_loopw [44] (fun v44 wq => CntRel w5 b'.list.length v44 wq) (fun v44 _ => b'.list.length - (intOf v44).toNat)
        case atStart => exact ⟨0, by omega, rfl, Tch.refl _ _⟩
        case round =>
          obtain ⟨i, hi, rfl, T⟩ := hrel
          by_cases hil : i < b'.list.length
          · have hd2 : decide (i < b'.list.length) = true := decide_eq_true hil
            have hrw := HR.out wr T
            have hx := hrw.some_ (by omega)
            subst hx
            have hgi := List.getElem?_eq_getElem hil
            have c0 := (lt_cells hrw hgi).1
            have HN2 := Lib.hid (fun q => HNX.out wr T q)
            obtain ⟨z1, z2⟩ := HLT.out _ (List.getElem_mem hil)
            have hprev : ∀ j, i = j + 1 → ∃ y : Int, wr.cell? ⟨lb, lo + j * 8, none⟩ = some (.int .i64 y) ∧ y < b'.list[i].id := fun j hj => by
              have hg := List.getElem?_eq_getElem (show j < b'.list.length by omega)
              exact ⟨_, (lt_cells hrw hg).1, HRI.out j i _ _ (by omega) hg hgi⟩
            generalize b'.list[i].id = yi at *
            generalize b'.next = nx at *
            have d1 : decide (yi < 1) = false := decide_eq_false (by omega)
            have d2 : decide (nx ≤ yi) = false := decide_eq_false (by omega)
            have hi0 : (0 : Int) ≤ (i : Int) := by omega
            have hi1 : (i : Int) < (b'.list.length : Int) := by omega
            have HG2 : Hid (∀ q, CntRel w5 b'.list.length (.int .i64 ((i + 1 : Nat) : Int)) (wr.drewN q)) := fun q => ⟨i + 1, by omega, rfl, tdrewN T q⟩
            clear hrw hgi T
            rcases Nat.eq_zero_or_pos i with h0 | h0
            · have d3 : decide (0 < i) = false := decide_eq_false (by omega)
              have d4 : decide ((0 : Int) < (i : Int)) = false := decide_eq_false (by omega)
              clear h0 hprev
              go_wp2_with fail
              go_quiet (first | (go_at_call 20; exact quietSame' (HN2.out _)))
              go_wp2_with fail
              go_roundw
              case rel => exact HG2.out _
              case measure => simp [intOf]; omega
            · obtain ⟨j, hj⟩ : ∃ j, i = j + 1 := ⟨i - 1, by omega⟩
              obtain ⟨y, c1, hy⟩ := hprev j hj
              have d3 : decide (0 < i) = true := decide_eq_true h0
              have d4 : decide ((0 : Int) < (i : Int)) = true := decide_eq_true (by omega)
              have d5 : decide (yi ≤ y) = false := decide_eq_false (by omega)
              have w1 : IntKind.i64.wrap ((i : Int) - 1) = (j : Int) := by rw [IntKind.wrap_i64]; omega
              have w2 : (i : Int) - 1 = (j : Int) := by omega
              have j0 : (0 : Int) ≤ (j : Int) := by omega
              have j1 : (j : Int) < (b'.list.length : Int) := by omega
              clear h0 hprev hj hy
              go_wp2_with fail
              go_quiet (first | (go_at_call 20; exact quietSame' (HN2.out _)))
              go_wp2_with fail
              go_roundw
              case rel => exact HG2.out _
              case measure => simp [intOf]; omega
          · have hd2 : decide (i < b'.list.length) = false := decide_eq_false hil
            have HN3 := Lib.hid ((S5.out.keep T).next)
            have HLS2 := HLST.out
            have d1 : decide (b'.next < last) = false := decide_eq_false (by omega)
            have HR2 : Hid (OrRel w bb ops (.int .i64 b'.next) (.int .i64 ((k + 1 : Nat) : Int)) wr) := ⟨k + 1, v', b', by omega, rfl, ⟨_, rfl, by omega⟩, S5.out.keep T, HBN.out⟩
            clear T HLS2 S5 HR HNX HLT HRI hil hi
            go_wp2_with (go_at_call 20; (with_reducible refine HN3.out.mono ?_); rintro e w9 ⟨rfl, rfl⟩)
            go_roundw
            case rel => exact HR2.out
            case measure => simp [intOf]; omega
    · have hd : decide (k < ops.length) = false := decide_eq_false hkl
      have HNX : Hid (∀ W, Tch [] wr W → Calls Try.prog 20 #[.pointer (some ⟨bb, 0, none⟩)] W fun e w' => e = .returned (.int .i64 b.next) ∧ W = w') := fun W t => (st.keep t).next
      have HLE : Hid (∀ W, Tch [] wr W → Calls Try.prog 19 #[.pointer (some ⟨bb, 0, none⟩)] W fun e w' => e = .returned (.int .i64 (b.list.length : Nat)) ∧ W = w') := fun W t => (st.keep t).len
      have HLI := Lib.hid st.list
      have HRE : Hid (∀ x c lb lo W, IsR fLt 8 W x b.list.length lb lo b.list → Calls Try.prog 12 #[.int .i64 b.next, .slice x b.list.length c] W (RestOk 63 37 W b)) := fun x c lb lo W h => brest_yes x b.list.length c lb lo b.list b.next W h (st.g.rest (by omega)) st.g.ok
      have HT := Lib.hid st.t
      clear st hbn hlast HC HOK
      go_wp2_with (go_at_call 20; (with_reducible refine (HNX.out _ (Tch.refl _ _)).mono ?_); rintro e w9 ⟨rfl, rfl⟩)
      refine HLI.out.mono ?_
      rintro e w5 ⟨lx, lc, lb, lo, rfl, hlr, hln, t5⟩
      have HR1 := Lib.hid (HRE.out lx lc lb lo w5 hlr)
      have HT5 := Lib.hid t5
      clear hlr hln t5 HLI HRE
      go_wp2_with fail
      refine HR1.out.mono ?_
      rintro e w6 ⟨cb, cv, rfl, h6, _, t6⟩
      have c6l := Lib.hid (blen_any cb cv b w6 h6)
      have c6n := Lib.hid (bnext_any cb cv b w6 h6)
      have t7 := HT5.out.trans t6
      have b6l := Lib.hid (HLE.out w6 t7)
      have b6n := Lib.hid (HNX.out w6 t7)
      have HE := Lib.hid (HF.out w6 (HT.out.trans t7))
      generalize b.list.length = n at *
      generalize b.next = nx at *
      have e1 : ((n : Int) == (n : Int)) = true := by simp
      have e2 : (nx == nx) = true := by simp
      clear h6 t6 t7 HNX HLE HT HT5 HF HR1
      go_wp2_with fail
      refine c6l.out.mono ?_
      rintro e w7 ⟨rfl, rfl⟩
      go_wp2_with fail
      refine b6l.out.mono ?_
      rintro e w7 ⟨rfl, rfl⟩
      go_wp2_with fail
      refine c6n.out.mono ?_
      rintro e w7 ⟨rfl, rfl⟩
      go_wp2_with fail
      refine b6n.out.mono ?_
      rintro e w7 ⟨rfl, rfl⟩
      clear c6l c6n b6l b6n
      go_wp2_with fail
      first | exact HE.out | (go_ret; exact HE.out)
end Go.Proofs.Ytgdfbpgnknnkpaa
