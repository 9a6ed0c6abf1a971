/-
  The document's Restore (chandlerref07), whatever list it is handed.
-/
import Derived.Test.YtgdfbpgnknnkpaaBrg
import Derived.Deep.CutRange
namespace Go.Proofs.Ytgdfbpgnknnkpaa
open Go.RowKit
set_option linter.unusedVariables false

/-- What holds at the head of each round. -/
def RbRel (w : World) (next : Int) (l : List Lt) (v7 : Value) (wr : World) : Prop :=
  ∃ (k : Nat) (last : Int) (v : Value), k ≤ l.length ∧ v7 = .int .i64 k ∧ RBus wr w.heap.size v ⟨l.take k, next⟩ ∧ (∀ q ∈ dom w.heap.size v, w.heap.size ≤ q) ∧ Tch [] w wr ∧ numB next 0 l = numB next last (l.drop k) ∧ (k = 0 → last = 0) ∧ (∀ j x, k = j + 1 → l[j]? = some x → last = x.id) ∧ (0 < k → 1 ≤ last)
def RbPost (w : World) (next : Int) (l : List Lt) (e : Ending) (w' : World) : Prop :=
  (restB next l = true ∧ RestOk 30 38 w ⟨l, next⟩ e w') ∨ (restB next l = false ∧ RestNo w e w')

set_option maxRecDepth 100000 in
set_option maxHeartbeats 2000000 in
theorem rbrest_any (a : Option Addr) (len cap b o : Nat) (l : List Lt) (next : Int) (w : World) (h : IsR fLt 8 w a len b o l) :
    Calls Try.prog 14 #[.int .i64 next, .slice a len cap] w (RbPost w next l) := by
  obtain rfl := h.hlen
  have HFN : Hid (∀ W, restB next l = false → Tch [] w W → RbPost w next l (.returned (.tuple #[.pointer none, .int .i64 2])) W) := fun W h1 h2 => Or.inr ⟨h1, rfl, h2⟩
  have HFY : Hid (∀ W v, restB next l = true → RBus W w.heap.size v ⟨l, next⟩ → (∀ q ∈ dom w.heap.size v, w.heap.size ≤ q) → Tch [] w W → RbPost w next l (.returned (.tuple #[.pointer (some ⟨w.heap.size, 0, none⟩), .int .i64 0])) W) := fun W v h1 h2 h3 h4 => Or.inl ⟨h1, _, v, rfl, h2, h3, h4⟩
  generalize hQ : RbPost w next l = Q at HFN HFY ⊢
  clear hQ
  by_cases h1 : next < 1
  · have HE := Lib.hid (HFN.out w (by unfold restB; rw [decide_eq_false (by omega : ¬ 1 ≤ next)]; rfl) (Tch.refl _ _))
    clear HFN HFY h
    go_enter Try.func14, Try.ntmps14
    go_wp2_with fail
    first | exact HE.out | (go_ret2; exact HE.out)
  have d1 : decide (next < 1) = false := decide_eq_false h1
  by_cases h2 : 1152921504606846976 < next
  · have HE := Lib.hid (HFN.out w (by unfold restB; rw [decide_eq_false (by omega : ¬ next ≤ 1152921504606846976)]; simp) (Tch.refl _ _))
    clear HFN HFY h
    go_enter Try.func14, Try.ntmps14
    go_wp2_with fail
    first | exact HE.out | (go_ret2; exact HE.out)
  have d2 : decide (1152921504606846976 < next) = false := decide_eq_false h2
  by_cases h3 : 4096 < l.length
  · have HE := Lib.hid (HFN.out w (by unfold restB; rw [decide_eq_false (by omega : ¬ l.length ≤ 4096)]; simp) (Tch.refl _ _))
    have d3 : decide (4096 < l.length) = true := decide_eq_true h3
    have d4 : decide ((4096 : Int) < (l.length : Int)) = true := decide_eq_true (by omega)
    clear HFN HFY h
    go_enter Try.func14, Try.ntmps14
    go_wp2_with fail
    first | exact HE.out | (go_ret2; exact HE.out)
  have d3 : decide (4096 < l.length) = false := decide_eq_false h3
  have d4 : decide ((4096 : Int) < (l.length : Int)) = false := decide_eq_false (by omega)
  have hrb : restB next l = numB next 0 l := by
    unfold restB
    rw [decide_eq_true (by omega : 1 ≤ next), decide_eq_true (by omega : next ≤ 1152921504606846976), decide_eq_true (by omega : l.length ≤ 4096)]
    simp
  rw [hrb] at HFN HFY
  have hlI : (l.length : Int) ≤ 4096 := by omega
  have HC : Hid (∀ W, Tch [] w W → IsR fLt 8 W a l.length b o l) := fun W t => h.keep0 t
  obtain ⟨i0, hi, hz0, hz1, hz2⟩ := info_parts Try.info_rlt
  unfold zLt at hz0
  have HST : Hid (RbRel w next l (.int .i64 0) (w.alloc (.cells #[.slice none 0 0, .int .i64 next] 30))) := by
    obtain ⟨q1, q2, q3⟩ := bus_new (TB := 30) (TL := 38) (w := w) (w1 := w) (l := []) (v := .slice none 0 0) next ⟨World.ownsRow_nil _ _ _ _, Tch.refl _ _⟩
    exact ⟨0, 0, _, by omega, rfl, by rw [List.take_zero]; exact q1, q2, q3, by rw [List.drop_zero], fun _ => rfl, fun j x hj => by omega, fun hk => by omega⟩
  clear h hrb h1 h2 h3
  go_enter Try.func14, Try.ntmps14
  go_wp2_with fail
  clear d1 d2 d3 d4
  go_loopw [7] (fun v7 wr => RbRel w next l v7 wr) (fun v7 _ => l.length - (intOf v7).toNat)
  case atStart => exact HST.out
  case round =>
    clear HST
    obtain ⟨k, last, v, hk, rfl, hbus, hdm, T, hnb, hl0, hlj, hl1⟩ := hrel
    by_cases hkl : k < l.length
    · have hd : decide (k < l.length) = true := decide_eq_true hkl
      have hcw := HC.out wr T
      have hla := hcw.some_ (by omega)
      subst hla
      have hget := List.getElem?_eq_getElem hkl
      obtain ⟨p0, p1, p2, p3, p4, p5, p6, p7⟩ := lt_cells hcw hget
      rw [List.drop_eq_getElem_cons hkl, numB] at hnb
      have HPC : Hid (∀ W, Tch [] wr W → W.cell? ⟨b, o + k * 8, none⟩ = some (.int .i64 l[k].id) ∧ W.cell? ⟨b, o + k * 8 + 1, none⟩ = some (.int .i64 l[k].dst) ∧ W.cell? ⟨b, o + k * 8 + 2, none⟩ = some (.int .i64 l[k].ord) ∧ W.cell? ⟨b, o + k * 8 + 3, none⟩ = some (.int .i64 l[k].step) ∧
          W.cell? ⟨b, o + k * 8 + 4, none⟩ = some (.int .i64 l[k].tr) ∧ W.cell? ⟨b, o + k * 8 + 5, none⟩ = some (.int .i64 l[k].kind) ∧ W.cell? ⟨b, o + k * 8 + 6, none⟩ = some (.int .i64 l[k].code) ∧ W.cell? ⟨b, o + k * 8 + 7, none⟩ = some (.string l[k].verb) ∧ b < W.heap.size) := fun W t => by
        obtain ⟨a0, a1, a2, a3, a4, a5, a6, a7⟩ := lt_cells (hcw.keep0 t) hget
        exact ⟨a0, a1, a2, a3, a4, a5, a6, a7, (hcw.keep0 t).lt (by omega)⟩
      have HTK : Hid (l.take (k + 1) = l.take k ++ [l[k]]) := by show _ = _; rw [List.take_add_one, hget]; rfl
      have HNXT : Hid (∀ j x, k + 1 = j + 1 → l[j]? = some x → l[k].id = x.id) := fun j x hj hx => by
        obtain rfl : k = j := by omega
        rw [hget] at hx; cases hx; rfl
      have HY : Hid (fLt l[k] = [.int .i64 l[k].id, .int .i64 l[k].dst, .int .i64 l[k].ord, .int .i64 l[k].step, .int .i64 l[k].tr, .int .i64 l[k].kind, .int .i64 l[k].code, .string l[k].verb]) := rfl
      have hprev : ∀ j, k = j + 1 → ∃ y : Lt, wr.cell? ⟨b, o + j * 8, none⟩ = some (.int .i64 y.id) ∧ last = y.id := fun j hj => by
        have hg := List.getElem?_eq_getElem (show j < l.length by omega)
        exact ⟨l[j], (lt_cells hcw hg).1, hlj j _ hj hg⟩
      generalize l[k] = x at *
      obtain ⟨xi, hxi⟩ : ∃ xi, x.id = xi := ⟨_, rfl⟩
      rw [hxi] at p0 hnb
      have HXI := Lib.hid hxi
      have HNB := Lib.hid hnb
      have HPREV := Lib.hid hprev
      have HBUS := Lib.hid hbus
      have HDM := Lib.hid hdm
      have HT := Lib.hid T
      have HL := Lib.hid (And.intro hl0 hl1)
      have hk0 : (0 : Int) ≤ (k : Int) := by omega
      have hk1 : (k : Int) < (l.length : Int) := by omega
      clear hcw hget hbus hdm T hnb hl0 hl1 hlj hprev hxi p1 p2 p3 p4 p5 p6 p7
      obtain ⟨tt, htt⟩ : ∃ tt : Bool, tt = decide (xi ≤ last ∨ next ≤ xi) := ⟨_, rfl⟩
      have HTT := Lib.hid htt
      clear htt
      go_upto_region 7 with fail
      go_cut [60] from 28 to 59 (fun v60 wx => v60 = .bool tt ∧ Tch [] wr wx)
      case first =>
        by_cases g1 : xi < 1
        · have HV : Hid (tt = true) := by
            show _ = _
            rw [HTT.out, decide_eq_true]
            left
            rcases Nat.eq_zero_or_pos k with h0 | h0
            · have := HL.out.1 h0; omega
            · have := HL.out.2 h0; omega
          have d1 : decide (xi < 1) = true := decide_eq_true g1
          go_wp2_with fail
          go_quiet (fail)
          go_wp2_with fail
          go_meet
          exact ⟨by rw [HV.out], tdrewN (Tch.refl _ _) _⟩
        have d1 : decide (xi < 1) = false := decide_eq_false g1
        by_cases g2 : next ≤ xi
        · have HV : Hid (tt = true) := by
            show _ = _
            rw [HTT.out, decide_eq_true (Or.inr g2)]
          have d2 : decide (next ≤ xi) = true := decide_eq_true g2
          go_wp2_with fail
          go_quiet (fail)
          go_wp2_with fail
          go_meet
          exact ⟨by rw [HV.out], tdrewN (Tch.refl _ _) _⟩
        have d2 : decide (next ≤ xi) = false := decide_eq_false g2
        rcases Nat.eq_zero_or_pos k with h0 | h0
        · have HV : Hid (tt = false) := by
            show _ = _
            rw [HTT.out]
            have := HL.out.1 h0
            exact decide_eq_false (by omega)
          have d3 : decide (0 < k) = false := decide_eq_false (by omega)
          have d4 : decide ((0 : Int) < (k : Int)) = false := decide_eq_false (by omega)
          clear h0
          go_wp2_with fail
          go_quiet (fail)
          go_wp2_with fail
          go_meet
          exact ⟨by rw [HV.out], tdrewN (Tch.refl _ _) _⟩
        · obtain ⟨j, hj⟩ : ∃ j, k = j + 1 := ⟨k - 1, by omega⟩
          obtain ⟨y, q0, hly⟩ := HPREV.out j hj
          have d3 : decide (0 < k) = true := decide_eq_true h0
          have d4 : decide ((0 : Int) < (k : Int)) = true := decide_eq_true (by omega)
          have w1 : IntKind.i64.wrap ((k : Int) - 1) = (j : Int) := by rw [IntKind.wrap_i64]; omega
          have w2 : (k : Int) - 1 = (j : Int) := by omega
          have j0 : (0 : Int) ≤ (j : Int) := by omega
          have j1 : (j : Int) < (l.length : Int) := by omega
          have HJ := Lib.hid hj
          by_cases g3 : xi ≤ y.id
          · have HV : Hid (tt = true) := by
              show _ = _
              rw [HTT.out, decide_eq_true]
              left; omega
            have d5 : decide (xi ≤ y.id) = true := decide_eq_true g3
            clear h0 hj hly
            go_wp2_with fail
            go_quiet (fail)
            go_wp2_with fail
            go_meet
            exact ⟨by rw [HV.out], tdrewN (Tch.refl _ _) _⟩
          · have HV : Hid (tt = false) := by
              show _ = _
              rw [HTT.out]
              exact decide_eq_false (by omega)
            have d5 : decide (xi ≤ y.id) = false := decide_eq_false g3
            clear h0 hj hly
            go_wp2_with fail
            go_quiet (fail)
            go_wp2_with fail
            go_meet
            exact ⟨by rw [HV.out], tdrewN (Tch.refl _ _) _⟩
      case rest =>
        obtain ⟨rfl, tc⟩ := hcut
        have hs5 := tc.size
        cases tt with
        | true =>
          have ht := of_decide_eq_true HTT.out.symm
          have HE := Lib.hid (HFN.out wc (by rw [HNB.out, if_pos ht]) (HT.out.trans tc))
          clear ht tc p0
          go_wp2_with fail
          first | exact HE.out | (go_ret2; exact HE.out)
        | false =>
          have ht := of_decide_eq_false HTT.out.symm
          have hbus := HBUS.out.keep0 tc
          obtain ⟨y, c, hv, hc⟩ := hbus.slice
          have hll : (⟨l.take k, next⟩ : Bs).list.length = k := by simp; omega
          rw [hll] at hv hc
          subst hv
          have c0 := hbus.c0
          clear p0
          obtain ⟨p0, p1, p2, p3, p4, p5, p6, p7, hbl⟩ := HPC.out wc tc
          have hbl2 := lt_of_block hbus.blk
          have HOW : Hid (∀ W', Tch [] wc W' → W'.ownsRow 0 38 8 (.slice y k c) k ((l.take k).flatMap fLt)) := fun W' t => by
            have := (hbus.keep0 t).own
            rw [hll] at this; exact this
          have hkt : (l.take k).length = k := by rw [List.length_take]; omega
          have HST : Hid (∀ cs v' W', W'.ownsRow 0 38 8 v' (k + 1) ((l.take k).flatMap fLt ++ [.int .i64 x.id, .int .i64 x.dst, .int .i64 x.ord, .int .i64 x.step, .int .i64 x.tr, .int .i64 x.kind, .int .i64 x.code, .string x.verb]) → ((wc.alloc (.cells cs 38)).drew).grownBy W' (Value.slice y k c).ownBlock → Moved ((wc.alloc (.cells cs 38)).drew).heap.size (.slice y k c) v' →
              W'.frozen? ⟨w.heap.size, 0, none⟩ = false ∧ W'.cell? ⟨w.heap.size, 0, none⟩ = some (.slice y k c) ∧ RBus (W'.setCell ⟨w.heap.size, 0, none⟩ v') w.heap.size v' ⟨l.take k ++ [x], next⟩ ∧ Tch (dom w.heap.size (.slice y k c)) wc (W'.setCell ⟨w.heap.size, 0, none⟩ v') ∧ Nearer wc.heap.size (dom w.heap.size (.slice y k c)) (dom w.heap.size v')) := fun cs v' W' h1 h2 h3 =>
            IsBus.step (TB := 30) (TL := 38) (by decide) x hbus 38 cs v' W' (by rw [hkt, HY.out]; exact h1) h2 h3
          have HRR : Hid (∀ v' W, RBus W w.heap.size v' ⟨l.take k ++ [x], next⟩ → Tch (dom w.heap.size (.slice y k c)) wc W → Nearer wc.heap.size (dom w.heap.size (.slice y k c)) (dom w.heap.size v') → RbRel w next l (.int .i64 ((k + 1 : Nat) : Int)) W) := fun v' W h1 h2 h3 => by
            refine ⟨k + 1, xi, v', by omega, rfl, by rw [HTK.out]; exact h1, h3.new HDM.out (by have := HT.out.size; omega), (HT.out.trans tc).bus h2 HDM.out, ?_, fun h => by omega, fun j z hj hz => by rw [← HXI.out]; exact HNXT.out j z hj hz, fun _ => ?_⟩
            · rw [HNB.out, if_neg ht]
            · rcases Nat.eq_zero_or_pos k with h0 | h0
              · have := HL.out.1 h0; omega
              · have := HL.out.2 h0; omega
          have HXI2 : Hid (x.id = xi) := HXI.out
          clear HBUS hbus HTT tc HPC hll HNB HT HNXT HTK HDM HPREV HL HXI HFN HFY ht hkt HY
          generalize x.id = xid at *
          generalize x.dst = xdst at *
          generalize x.ord = xord at *
          generalize x.step = xstep at *
          generalize x.tr = xtr at *
          generalize x.kind = xkind at *
          generalize x.code = xcode at *
          generalize x.verb = xverb at *
          go_upto_region 9 with fail
          go_region_law (first
            | ((refine step_appd (by rfl) _ _ 28 (by rfl) 0 38 i0 _ 8 72 Try.underlying28 hi hz0 hz1 hz2 rfl (by decide) (.slice y k c) k ((l.take k).flatMap fLt) (by rfl) (HOW.out _ (((Tch.refl [] wc).alloc _).drew)) ⟨wc.heap.size, 0, none⟩ 1 1 [.int .i64 xid, .int .i64 xdst, .int .i64 xord, .int .i64 xstep, .int .i64 xtr, .int .i64 xkind, .int .i64 xcode, .string xverb] (by rfl) rfl (cells_new _ _ _) (fLt_one ⟨xid, xdst, xord, xstep, xtr, xkind, xcode, xverb⟩) (by omega) (by unfold maxLen; omega) (by omega) (by simp) ?_); intro v' w4 hown4 hg4 hp4; obtain ⟨f1, f2, f3, f4, f5⟩ := HST.out _ v' w4 hown4 hg4 hp4; obtain ⟨x2, c2, rfl⟩ := own_slice hown4))
          all_goals
            have HE := Lib.hid (HRR.out _ _ f3 f4 f5)
            clear f3 f4 f5 hown4 hg4 hp4
            go_wp2_with fail
            go_roundw
            case rel => exact HE.out
            case measure => simp [intOf]; omega
    · have hd : decide (k < l.length) = false := decide_eq_false hkl
      obtain rfl : k = l.length := by omega
      rw [List.take_length] at hbus
      have HE := Lib.hid (HFY.out wr v (by rw [hnb, List.drop_length]; rfl) hbus hdm T)
      clear hbus hdm T hnb hl0 hlj hl1 HFY HFN HC
      go_wp2_with fail
      first | exact HE.out | (go_ret2; exact HE.out)
end Go.Proofs.Ytgdfbpgnknnkpaa
