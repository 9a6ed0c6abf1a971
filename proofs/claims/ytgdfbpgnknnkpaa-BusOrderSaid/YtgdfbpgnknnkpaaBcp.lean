/-
  bus.copyOf, bus.copies: letters in memory of their own; List, Len, Next, refusal. Condition: texts are in reach, and of the letters no more than 10^12.
-/
import Derived.Test.YtgdfbpgnknnkpaaBsm
import Derived.Test.YtgdfbpgnknnkpaaShelf
import Derived.Test.YtgdfbpgnknnkpaaRows
import Derived.Lib.Hide
import Derived.BigGuardPart
namespace Go.Proofs.Ytgdfbpgnknnkpaa
open Go.RowKit
set_option linter.unusedVariables false

theorem sclone_any (s : ByteArray) (w : World) (hs : s.size ≤ 140737488355328) :
    Calls Try.prog 30 #[.string s] w fun e w' => e = .returned (.string s) ∧ Tch [] w w' := by
  have HC := Lib.hid (Try.stringslite_Clone s w (by omega))
  go_enter Try.func30, Try.ntmps30
  go_wp2_with fail
  refine HC.out.mono ?_
  rintro e w1 ⟨rfl, t1⟩
  go_wp2_with fail
  go_ret
  exact ⟨rfl, Tch.ofBelow t1⟩

set_option maxRecDepth 100000 in
set_option maxHeartbeats 1000000 in
theorem bcopyOf_any (l : Lt) (w : World) (hl : l.Ok) :
    Calls Try.prog 27 #[.agg #[.int .i64 l.id, .int .i64 l.dst, .int .i64 l.ord, .int .i64 l.step, .int .i64 l.tr, .int .i64 l.kind, .int .i64 l.code, .string l.verb]] w fun e w' => e = .returned (.agg #[.int .i64 l.id, .int .i64 l.dst, .int .i64 l.ord, .int .i64 l.step, .int .i64 l.tr, .int .i64 l.kind, .int .i64 l.code, .string l.verb]) ∧ Tch [] w w' := by
  have HC : Hid (∀ W, Calls Try.prog 30 #[.string l.verb] W fun e w' => e = .returned (.string l.verb) ∧ Tch [] W w') := fun W => sclone_any _ W hl
  unfold Lt.Ok at hl
  generalize l.id = lid at *
  generalize l.dst = ldst at *
  generalize l.ord = lord at *
  generalize l.step = lstep at *
  generalize l.tr = ltr at *
  generalize l.kind = lkind at *
  generalize l.code = lcode at *
  generalize l.verb = lverb at *
  obtain ⟨W1, hW1⟩ : ∃ W1, W1 = (w.alloc (.cells #[.int .i64 lid, .int .i64 ldst, .int .i64 lord, .int .i64 lstep, .int .i64 ltr, .int .i64 lkind, .int .i64 lcode, .string lverb] 37)).alloc (.cells #[.int .i64 0, .int .i64 0, .int .i64 0, .int .i64 0, .int .i64 0, .int .i64 0, .int .i64 0, .string ⟨#[]⟩] 37) := ⟨_, rfl⟩
  have T1 : Tch [] w W1 := by rw [hW1]; exact ((Tch.refl _ _).alloc _).alloc _
  have hb : W1.heap[w.heap.size]? = some (.cells #[.int .i64 lid, .int .i64 ldst, .int .i64 lord, .int .i64 lstep, .int .i64 ltr, .int .i64 lkind, .int .i64 lcode, .string lverb] 37 (0, 0)) := by rw [hW1]; exact blk_alloc (blk_new _ _) _
  have hr : W1.heap[w.heap.size + 1]? = some (.cells #[.int .i64 0, .int .i64 0, .int .i64 0, .int .i64 0, .int .i64 0, .int .i64 0, .int .i64 0, .string ⟨#[]⟩] 37 (0, 0)) := by
    rw [hW1]
    have := blk_new (w.alloc (.cells #[.int .i64 lid, .int .i64 ldst, .int .i64 lord, .int .i64 lstep, .int .i64 ltr, .int .i64 lkind, .int .i64 lcode, .string lverb] 37)) (.cells #[.int .i64 0, .int .i64 0, .int .i64 0, .int .i64 0, .int .i64 0, .int .i64 0, .int .i64 0, .string ⟨#[]⟩] 37)
    rwa [World.size_alloc] at this
  go_enter Try.func27, Try.ntmps27
  go_upto_region 1 with fail
  rw [← hW1]
  clear hW1
  have q7 := blk_cell hb 7
  simp only [List.getElem?_toArray, List.getElem?_cons_zero, List.getElem?_cons_succ] at q7
  have H1 := Lib.hid (And.intro hb (And.intro hr T1))
  clear hb hr T1
  go_wp2_with fail
  refine (HC.out W1).mono ?_
  rintro e W2 ⟨rfl, t2⟩
  obtain ⟨hb, hr, T1⟩ := H1.out
  have hb2 := t2.keep hb (by simp)
  have hr2 := t2.keep hr (by simp)
  clear q7
  have q0 := blk_cell hb2 0
  have q1 := blk_cell hb2 1
  have q2 := blk_cell hb2 2
  have q3 := blk_cell hb2 3
  have q4 := blk_cell hb2 4
  have q5 := blk_cell hb2 5
  have q6 := blk_cell hb2 6
  have q7 := blk_cell hb2 7
  simp only [List.getElem?_toArray, List.getElem?_cons_zero, List.getElem?_cons_succ] at q0 q1 q2 q3 q4 q5 q6 q7
  have z7 := blk_free hb2 7
  have r0 := blk_cell hr2 0
  have r1 := blk_cell hr2 1
  have r2 := blk_cell hr2 2
  have r3 := blk_cell hr2 3
  have r4 := blk_cell hr2 4
  have r5 := blk_cell hr2 5
  have r6 := blk_cell hr2 6
  have r7 := blk_cell hr2 7
  simp only [List.getElem?_toArray, List.getElem?_cons_zero, List.getElem?_cons_succ] at r0 r1 r2 r3 r4 r5 r6 r7
  have zr0 := blk_free hr2 0
  have zr1 := blk_free hr2 1
  have zr2 := blk_free hr2 2
  have zr3 := blk_free hr2 3
  have zr4 := blk_free hr2 4
  have zr5 := blk_free hr2 5
  have zr6 := blk_free hr2 6
  have zr7 := blk_free hr2 7
  have HT := Lib.hid (T1.trans t2)
  clear hb hr T1 t2 hb2 hr2 H1 HC
  go_wp2_with fail
  refine bodyPost_ret (v := .agg #[.int .i64 lid, .int .i64 ldst, .int .i64 lord, .int .i64 lstep, .int .i64 ltr, .int .i64 lkind, .int .i64 lcode, .string lverb]) (by simp [results, Try.results27, go_sem, r0, r1, r2, r3, r4, r5, r6, r7]) rfl ⟨rfl, ?_⟩
  exact (((((((((HT.out.setNew (by simp) _).setNew (by simp) _).setNew (by simp) _).setNew (by simp) _).setNew (by simp) _).setNew (by simp) _).setNew (by simp) _).setNew (by simp) _).setNew (by simp) _)

def zLt : Value := .agg #[.int .i64 0, .int .i64 0, .int .i64 0, .int .i64 0, .int .i64 0, .int .i64 0, .int .i64 0, .string ⟨#[]⟩]
theorem Try.info_lt : (Try.prog.info? 37).map (fun i => (i.zero, i.size, i.bytes)) = some (some zLt, 8, 72) := by kernel_rfl
/-- What holds at the head of each round of a loop that adds letters of l to a row of its own. -/
def CopRel (TL : TypeId) (w : World) (l : List Lt) (v3 v11 : Value) (wr : World) : Prop :=
  ∃ (k : Nat) (x : Option Addr) (c : Nat), k ≤ l.length ∧ v11 = .int .i64 k ∧ v3 = .slice x k c ∧ wr.ownsRow w.heap.size TL 8 (.slice x k c) k ((l.take k).flatMap fLt) ∧ Tch [] w wr
/-- A new row of these letters. -/
def NewRow (TL : TypeId) (w : World) (l : List Lt) (v : Value) (w' : World) : Prop := w'.ownsRow w.heap.size TL 8 v l.length (l.flatMap fLt) ∧ Tch [] w w'
def CopPost (TL : TypeId) (w : World) (l : List Lt) (e : Ending) (w' : World) : Prop := ∃ v, e = .returned v ∧ NewRow TL w l v w'

set_option maxRecDepth 100000 in
set_option maxHeartbeats 1000000 in
theorem bcopies_any (a : Option Addr) (len cap b o : Nat) (l : List Lt) (w : World) (h : IsR fLt 8 w a len b o l) (hl : l.length * 72 ≤ 140737488355328) (hok : ∀ x ∈ l, x.Ok) :
    Calls Try.prog 26 #[.slice a len cap] w (CopPost 37 w l) := by
  obtain rfl := h.hlen
  have HF : Hid (∀ v W, NewRow 37 w l v W → CopPost 37 w l (.returned v) W) := fun v W h => ⟨v, rfl, h⟩
  generalize CopPost 37 w l = Q at *
  obtain ⟨i0, hi, hz0, hz1, hz2⟩ := info_parts Try.info_lt
  unfold zLt at hz0
  have HMK : Hid (∃ w', (Instr.makeSlice 32 (.int .i64 0) (.int .i64 (l.length : Int))).run Try.prog w = .ok (.slice (some ⟨w.heap.size, 0, none⟩) 0 l.length) w' ∧ w'.ownsRow w.heap.size 37 8 (.slice (some ⟨w.heap.size, 0, none⟩) 0 l.length) 0 [] ∧ w.grownBy w' none) :=
    run_make_own (P := Try.prog) w w.heap.size _ _ i0 _ 8 Try.underlying32 hi hz0 hz1 .i64 .i64 l.length (by rw [hz2]; omega) (by unfold maxLen; omega) (Nat.le_refl _)
  obtain ⟨w1, hmk, hown, hg⟩ := HMK.out
  have T1 : Tch [] w w1 := Tch.ofGrown hg (fun k hk => by cases hk)
  have HC : Hid (∀ wr, Tch [] w wr → IsR fLt 8 wr a l.length b o l) := fun wr t => h.keep0 t
  have HOK := Lib.hid hok
  have HCO : Hid (∀ (x : Lt) W, x.Ok → Calls Try.prog 27 #[.agg #[.int .i64 x.id, .int .i64 x.dst, .int .i64 x.ord, .int .i64 x.step, .int .i64 x.tr, .int .i64 x.kind, .int .i64 x.code, .string x.verb]] W fun e w' => e = .returned (.agg #[.int .i64 x.id, .int .i64 x.dst, .int .i64 x.ord, .int .i64 x.step, .int .i64 x.tr, .int .i64 x.kind, .int .i64 x.code, .string x.verb]) ∧ Tch [] W w') := fun x W hx => bcopyOf_any x W hx
  have hll : (l.length : Int) ≤ 9223372036854775807 := by omega
  have HS : Hid (CopRel 37 w l (.slice (some ⟨w.heap.size, 0, none⟩) 0 l.length) (.int .i64 0) w1) := ⟨0, _, _, by omega, rfl, rfl, hown, T1⟩
  clear h hok hown hg T1 HMK
  go_enter Try.func26, Try.ntmps26
  go_wp2_with fail
  clear hmk
  go_loopw [3, 11] (fun v3 v11 wr => CopRel 37 w l v3 v11 wr) (fun _ v11 _ => l.length - (intOf v11).toNat)
  case atStart => exact HS.out
  case round =>
    clear HS
    obtain ⟨k, x, c, hk, rfl, rfl, hown, T⟩ := hrel
    by_cases hkl : k < l.length
    · have hcw := HC.out wr T
      have hget := List.getElem?_eq_getElem hkl
      have hoy := HOK.out _ (List.getElem_mem hkl)
      have p0 := hcw.c0 hget (v := .int .i64 l[k].id) rfl
      have p1 := hcw.c hget 1 (v := .int .i64 l[k].dst) rfl
      have p2 := hcw.c hget 2 (v := .int .i64 l[k].ord) rfl
      have p3 := hcw.c hget 3 (v := .int .i64 l[k].step) rfl
      have p4 := hcw.c hget 4 (v := .int .i64 l[k].tr) rfl
      have p5 := hcw.c hget 5 (v := .int .i64 l[k].kind) rfl
      have p6 := hcw.c hget 6 (v := .int .i64 l[k].code) rfl
      have p7 := hcw.c hget 7 (v := .string l[k].verb) rfl
      have hla := hcw.some_ (by omega)
      subst hla
      have HSN : Hid ((l.take (k + 1)).flatMap fLt = (l.take k).flatMap fLt ++ [.int .i64 l[k].id, .int .i64 l[k].dst, .int .i64 l[k].ord, .int .i64 l[k].step, .int .i64 l[k].tr, .int .i64 l[k].kind, .int .i64 l[k].code, .string l[k].verb]) := fm_snoc l k _ hget
      have HCK := Lib.hid (fun W => HCO.out l[k] W hoy)
      have hd : decide (k < l.length) = true := decide_eq_true hkl
      generalize l[k] = y at *
      generalize y.id = yid at *
      generalize y.dst = ydst at *
      generalize y.ord = yord at *
      generalize y.step = ystep at *
      generalize y.tr = ytr at *
      generalize y.kind = ykind at *
      generalize y.code = ycode at *
      generalize y.verb = yverb at *
      have HOW := Lib.hid hown
      have HT := Lib.hid T
      clear hcw hget hown T hoy
      go_upto_region 5 with fail
      obtain ⟨W2, hW2⟩ : ∃ W2, W2 = wr.alloc (.cells #[.int .i64 yid, .int .i64 ydst, .int .i64 yord, .int .i64 ystep, .int .i64 ytr, .int .i64 ykind, .int .i64 ycode, .string yverb] 37) := ⟨_, rfl⟩
      rw [← hW2]
      have hb2 : W2.heap[wr.heap.size]? = some (.cells #[.int .i64 yid, .int .i64 ydst, .int .i64 yord, .int .i64 ystep, .int .i64 ytr, .int .i64 ykind, .int .i64 ycode, .string yverb] 37 (0, 0)) := by rw [hW2]; exact blk_new _ _
      have t2 : Tch [] wr W2 := by rw [hW2]; exact (Tch.refl _ _).alloc _
      clear hW2 p0 p1 p2 p3 p4 p5 p6 p7
      have q0 := blk_cell hb2 0
      have q1 := blk_cell hb2 1
      have q2 := blk_cell hb2 2
      have q3 := blk_cell hb2 3
      have q4 := blk_cell hb2 4
      have q5 := blk_cell hb2 5
      have q6 := blk_cell hb2 6
      have q7 := blk_cell hb2 7
      simp only [List.getElem?_toArray, List.getElem?_cons_zero, List.getElem?_cons_succ] at q0 q1 q2 q3 q4 q5 q6 q7
      clear hb2
      have HT2 := Lib.hid t2
      clear t2
      go_wp2_with fail
      refine (HCK.out W2).mono ?_
      rintro e W3 ⟨rfl, t3⟩
      have hs3 := t3.size
      have hs2 := HT2.out.size
      have hs1 := HT.out.size
      have HO3 := Lib.hid (own_keep HOW.out (HT2.out.trans t3) (fun _ _ => by simp))
      have T3 := Lib.hid ((HT.out.trans HT2.out).trans t3)
      clear t3
      go_wp2_with (at_builtin; refine wpList_appd _ rfl _ _ 32 rfl w.heap.size 37 i0 _ 8 72 Try.underlying32 hi hz0 hz1 hz2 rfl (by decide) _ _ _ rfl (HO3.out.alloc _) ⟨W3.heap.size, 0, none⟩ 1 1 [.int .i64 yid, .int .i64 ydst, .int .i64 yord, .int .i64 ystep, .int .i64 ytr, .int .i64 ykind, .int .i64 ycode, .string yverb] rfl rfl (cells_new _ _ _) ?c2 (by decide) ?c3 ?c4 ?c5 ?_)
      case c2 => exact fLt_one ⟨yid, ydst, yord, ystep, ytr, ykind, ycode, yverb⟩
      case c3 => unfold maxLen; omega
      case c4 => omega
      case c5 => simp; omega
      intro v' w4 hown4 hgrow _
      have T4 := (T3.out.alloc (.cells #[.int .i64 yid, .int .i64 ydst, .int .i64 yord, .int .i64 ystep, .int .i64 ytr, .int .i64 ykind, .int .i64 ycode, .string yverb] 37)).own (HO3.out.alloc _) (Nat.le_refl _) hgrow
      obtain ⟨x2, c2, rfl⟩ := own_slice hown4
      rw [← HSN.out] at hown4
      have HO := Lib.hid hown4
      clear hown4 hgrow HOW HO3 T3 q0 q1 q2 q3 q4 q5 q6 q7
      go_wp2
      go_roundw
      case rel => exact ⟨k + 1, x2, c2, by omega, by go_num, rfl, HO.out, T4⟩
      case measure => simp [intOf]; omega
    · obtain rfl : k = l.length := by omega
      rw [List.take_length] at hown
      have HE := Lib.hid (HF.out _ _ ⟨hown, T⟩)
      clear hown T
      go_wp2_with fail
      first | exact HE.out | (go_ret; exact HE.out)
end Go.Proofs.Ytgdfbpgnknnkpaa
