/-
  A bus that a law has made itself: state, bounds and frame behind one name, and each call on it. And the law's 'wakes'.
-/
import Derived.Test.YtgdfbpgnknnkpaaBpl
namespace Go.Proofs.Ytgdfbpgnknnkpaa
open Go.RowKit
set_option linter.unusedVariables false

/-- A bus that was made behind w. -/
structure BSt (w : World) (bb : Nat) (v : Value) (b : Bs) (wr : World) : Prop where
  p : PBus wr bb v b
  g : b.Good
  n : ∀ q ∈ dom bb v, w.heap.size ≤ q
  t : Tch [] w wr
def StPost (w : World) (bb : Nat) (b' : Bs) (r : Value) (e : Ending) (w' : World) : Prop := ∃ v', e = .returned r ∧ BSt w bb v' b' w'
section
variable {w wr : World} {bb : Nat} {v : Value} {b : Bs}
theorem BSt.keep {w' : World} (s : BSt w bb v b wr) (t : Tch [] wr w') : BSt w bb v b w' := ⟨s.p.keep0 t, s.g, s.n, s.t.trans t⟩
theorem BSt.step {w2 : World} {v2 : Value} {b2 : Bs} (s : BSt w bb v b wr) (hg : b2.Good) (h2 : PBus w2 bb v2 b2) (t2 : Tch (dom bb v) wr w2) (n2 : Nearer wr.heap.size (dom bb v) (dom bb v2)) : BSt w bb v2 b2 w2 :=
  ⟨h2, hg, n2.new s.n s.t.size, s.t.bus t2 s.n⟩
theorem BSt.post {b2 : Bs} {r : Value} (s : BSt w bb v b wr) (hg : b2.Good) {e : Ending} {w' : World} (h : BusPost 63 37 wr bb v b2 r e w') : StPost w bb b2 r e w' := by
  obtain ⟨v', rfl, h2, t2, n2⟩ := h
  exact ⟨v', rfl, s.step hg h2 t2 n2⟩
theorem BSt.send (s : BSt w bb v b wr) (l : Lt) (hl : l.Ok) (hn : b.next ≤ 4611686018427387904) :
    Calls Try.prog 16 #[.pointer (some ⟨bb, 0, none⟩), .agg #[.int .i64 l.id, .int .i64 l.dst, .int .i64 l.ord, .int .i64 l.step, .int .i64 l.tr, .int .i64 l.kind, .int .i64 l.code, .string l.verb]] wr (StPost w bb (b.send l) (.tuple #[.int .i64 (b.sendN), .int .i64 (b.sendE)])) :=
  (bsend_any bb v b l wr s.p hl (by have := s.g.lo; omega) hn).mono fun _ _ h => s.post (s.g.send l hl) h
theorem BSt.take (s : BSt w bb v b wr) (at_ : Int) :
    Calls Try.prog 17 #[.pointer (some ⟨bb, 0, none⟩), .int .i64 at_] wr (StPost w bb (b.take at_) (.tuple #[.agg #[.int .i64 (b.takeL at_).id, .int .i64 (b.takeL at_).dst, .int .i64 (b.takeL at_).ord, .int .i64 (b.takeL at_).step, .int .i64 (b.takeL at_).tr, .int .i64 (b.takeL at_).kind, .int .i64 (b.takeL at_).code, .string (b.takeL at_).verb], .int .i64 (b.takeE at_)])) :=
  (btake_any bb v b at_ wr s.p s.g).mono fun _ _ h => s.post (s.g.take at_) h
theorem BSt.dbl (s : BSt w bb v b wr) (at_ : Int) (hn : b.next ≤ 4611686018427387904) :
    Calls Try.prog 18 #[.pointer (some ⟨bb, 0, none⟩), .int .i64 at_] wr (StPost w bb (b.dbl at_) (.tuple #[.int .i64 (b.dblN at_), .int .i64 (b.dblE at_)])) :=
  (bdbl_any bb v b at_ wr s.p s.g hn).mono fun _ _ h => s.post (s.g.dbl at_) h
theorem BSt.len (s : BSt w bb v b wr) : Calls Try.prog 19 #[.pointer (some ⟨bb, 0, none⟩)] wr fun e w' => e = .returned (.int .i64 (b.list.length : Nat)) ∧ wr = w' := blen_any bb v b wr s.p
theorem BSt.next (s : BSt w bb v b wr) : Calls Try.prog 20 #[.pointer (some ⟨bb, 0, none⟩)] wr fun e w' => e = .returned (.int .i64 b.next) ∧ wr = w' := bnext_any bb v b wr s.p
/-- A list that was answered: a new row. -/
def LsPost (w : World) (l : List Lt) (e : Ending) (w' : World) : Prop := ∃ x c lb lo, e = .returned (.slice x l.length c) ∧ IsR fLt 8 w' x l.length lb lo l ∧ (0 < l.length → w.heap.size ≤ lb) ∧ Tch [] w w'
theorem BSt.list (s : BSt w bb v b wr) : Calls Try.prog 21 #[.pointer (some ⟨bb, 0, none⟩)] wr (LsPost wr b.list) :=
  (blist_any bb v b wr s.p s.g).mono fun _ _ ⟨vl, he, g1, g2⟩ => by
    obtain ⟨x2, c2, rfl⟩ := own_slice g1
    obtain ⟨lb, hlr, hn, hlo⟩ := IsR.own fLt_len g1 rfl
    exact ⟨x2, c2, lb, 0, he, hlr, hlo, g2⟩
theorem bst_new (w wr : World) (t : Tch [] w wr) : Calls Try.prog 11 #[] wr fun e w' => ∃ bb v, e = .returned (.pointer (some ⟨bb, 0, none⟩)) ∧ BSt w bb v ⟨[], 1⟩ w' :=
  (bnew_any wr).mono fun _ _ ⟨bb, v, he, h1, h2, h3⟩ => ⟨bb, v, he, h1, Bs.good_new, fun q hq => Nat.le_trans t.size (h2 q hq), t.trans h3⟩
end

def wl (n : Int) : Lt := ⟨0, 0, n, 0, 0, 0, 0, ⟨#[]⟩⟩
theorem wl_ok (n : Int) : (wl n).Ok := by show 0 ≤ 140737488355328; decide
def wb1 : Bs := (⟨[], 1⟩ : Bs).send (wl 1)
def wb2 : Bs := wb1.send (wl 2)
def wb3 : Bs := wb2.dbl 0
def wb4 : Bs := wb3.take 1

set_option maxRecDepth 100000 in
set_option maxHeartbeats 1000000 in
theorem bwakes_any (w : World) : Calls Try.prog 9 #[] w (TchPost w) := by
  have HN := Lib.hid (bst_new w w (Tch.refl _ _))
  have H1 : Hid (∀ bb v W, BSt w bb v ⟨[], 1⟩ W → Calls Try.prog 16 #[.pointer (some ⟨bb, 0, none⟩), .agg #[.int .i64 0, .int .i64 0, .int .i64 1, .int .i64 0, .int .i64 0, .int .i64 0, .int .i64 0, .string ⟨#[]⟩]] W (StPost w bb wb1 (.tuple #[.int .i64 1, .int .i64 0]))) := fun bb v W s => s.send (wl 1) (wl_ok 1) (by decide)
  have H2 : Hid (∀ bb v W, BSt w bb v wb1 W → Calls Try.prog 16 #[.pointer (some ⟨bb, 0, none⟩), .agg #[.int .i64 0, .int .i64 0, .int .i64 2, .int .i64 0, .int .i64 0, .int .i64 0, .int .i64 0, .string ⟨#[]⟩]] W (StPost w bb wb2 (.tuple #[.int .i64 2, .int .i64 0]))) := fun bb v W s => s.send (wl 2) (wl_ok 2) (by decide)
  have H3 : Hid (∀ bb v W, BSt w bb v wb2 W → Calls Try.prog 18 #[.pointer (some ⟨bb, 0, none⟩), .int .i64 0] W (StPost w bb wb3 (.tuple #[.int .i64 3, .int .i64 0]))) := fun bb v W s => s.dbl 0 (by decide)
  have H4 : Hid (∀ bb v W, BSt w bb v wb3 W → Calls Try.prog 17 #[.pointer (some ⟨bb, 0, none⟩), .int .i64 1] W (StPost w bb wb4 (.tuple #[.agg #[.int .i64 2, .int .i64 0, .int .i64 2, .int .i64 0, .int .i64 0, .int .i64 0, .int .i64 0, .string ⟨#[]⟩], .int .i64 0]))) := fun bb v W s => s.take 1
  have H5 : Hid (∀ bb v W, BSt w bb v wb4 W → Calls Try.prog 19 #[.pointer (some ⟨bb, 0, none⟩)] W fun e w' => e = .returned (.int .i64 2) ∧ W = w') := fun bb v W s => s.len
  have HF : Hid (∀ W, Tch [] w W → TchPost w (.returned (.bool true)) W) := fun W t => ⟨rfl, t⟩
  generalize hQ : TchPost w = Q at HF ⊢
  clear hQ
  go_enter Try.func9, Try.ntmps9
  go_wp2_with fail
  refine HN.out.mono ?_
  rintro e w1 ⟨bb, v1, rfl, s1⟩
  have C1 := Lib.hid (H1.out bb v1 w1 s1)
  clear s1 H1 HN
  go_wp2_with fail
  refine C1.out.mono ?_
  rintro e w2 ⟨v2, rfl, s2⟩
  have C2 := Lib.hid (H2.out bb v2 w2 s2)
  clear s2 H2 C1
  go_wp2_with fail
  refine C2.out.mono ?_
  rintro e w3 ⟨v3, rfl, s3⟩
  have C3 := Lib.hid (H3.out bb v3 w3 s3)
  clear s3 H3 C2
  go_wp2_with fail
  refine C3.out.mono ?_
  rintro e w4 ⟨v4, rfl, s4⟩
  have C4 := Lib.hid (H4.out bb v4 w4 s4)
  clear s4 H4 C3
  go_wp2_with fail
  refine C4.out.mono ?_
  rintro e w5 ⟨v5, rfl, s5⟩
  obtain ⟨W6, hW6⟩ : ∃ W, W = w5.alloc (.cells #[.int .i64 2, .int .i64 0, .int .i64 2, .int .i64 0, .int .i64 0, .int .i64 0, .int .i64 0, .string ⟨#[]⟩] 37) := ⟨_, rfl⟩
  have t6 : Tch [] w5 W6 := by rw [hW6]; exact (Tch.refl _ _).alloc _
  have hb6 : W6.heap[w5.heap.size]? = some (.cells #[.int .i64 2, .int .i64 0, .int .i64 2, .int .i64 0, .int .i64 0, .int .i64 0, .int .i64 0, .string ⟨#[]⟩] 37 (0, 0)) := by rw [hW6]; exact blk_new _ _
  have q0 := blk_cell hb6 0
  have q2 := blk_cell hb6 2
  simp only [List.getElem?_toArray, List.getElem?_cons_zero, List.getElem?_cons_succ] at q0 q2
  have C5 := Lib.hid (H5.out bb v5 W6 (s5.keep t6))
  have HE := Lib.hid (HF.out W6 (s5.t.trans t6))
  clear s5 t6 hb6 H5 C4 HF
  go_upto_region 6 with fail
  rw [← hW6]
  clear hW6
  go_wp2_with fail
  refine C5.out.mono ?_
  rintro e w7 ⟨rfl, rfl⟩
  clear C5
  go_wp2_with fail
  first | exact HE.out | (go_ret; exact HE.out)
end Go.Proofs.Ytgdfbpgnknnkpaa
