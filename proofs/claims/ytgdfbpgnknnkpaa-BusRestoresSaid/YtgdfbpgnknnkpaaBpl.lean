/-
  'play' of the law: a bus and the document's, under one script: every answer is the same. Conditions: the bus is as one made by the package's own calls, both hold the same and lie apart; the numbers stay within an int's reach.
-/
import Derived.Test.YtgdfbpgnknnkpaaBal
namespace Go.Proofs.Ytgdfbpgnknnkpaa
open Go.RowKit
set_option linter.unusedVariables false

/-- One call of a script. -/
structure POp where
  kind : Int
  at_ : Int
  lt : Lt
def fOp (o : POp) : List Value := [.int .i64 o.kind, .int .i64 o.at_, .int .i64 o.lt.id, .int .i64 o.lt.dst, .int .i64 o.lt.ord, .int .i64 o.lt.step, .int .i64 o.lt.tr, .int .i64 o.lt.kind, .int .i64 o.lt.code, .string o.lt.verb]
instance : Inhabited POp := ⟨⟨0, 0, lt0⟩⟩
/-- A bus of the program and one of the document's, which hold the same and lie apart. -/
structure PlSt (w : World) (D E : List Nat) (bb : Nat) (v : Value) (rb : Nat) (rv : Value) (b : Bs) (wr : World) : Prop where
  p : PBus wr bb v b
  r : RBus wr rb rv b
  g : b.Good
  dj : Dj (dom bb v) (dom rb rv)
  np : Nearer w.heap.size D (dom bb v)
  nr : Nearer w.heap.size E (dom rb rv)
  t : Tch (D ++ E) w wr
section
variable {w wr : World} {D E : List Nat} {bb rb : Nat} {v rv : Value} {b : Bs}
theorem PlSt.keep {w' : World} (s : PlSt w D E bb v rb rv b wr) (t : Tch [] wr w') : PlSt w D E bb v rb rv b w' := ⟨s.p.keep0 t, s.r.keep0 t, s.g, s.dj, s.np, s.nr, s.t.trans (t.mono (by simp))⟩
/-- Behind a call on the program's bus: the document's is as it was. -/
theorem PlSt.mid {w2 : World} (s : PlSt w D E bb v rb rv b wr) (t2 : Tch (dom bb v) wr w2) : RBus w2 rb rv b := s.r.keep t2 s.dj.symm
theorem PlSt.op {w2 w3 w4 : World} {v2 rv2 : Value} {b2 : Bs} (s : PlSt w D E bb v rb rv b wr) (hg : b2.Good) (hp : PBus w2 bb v2 b2) (t2 : Tch (dom bb v) wr w2) (n2 : Nearer wr.heap.size (dom bb v) (dom bb v2)) (t3 : Tch [] w2 w3)
    (hr : RBus w4 rb rv2 b2) (t4 : Tch (dom rb rv) w3 w4) (n4 : Nearer w3.heap.size (dom rb rv) (dom rb rv2)) : PlSt w D E bb v2 rb rv2 b2 w4 := by
  have hs := s.t.size
  have hlt : ∀ k ∈ dom rb rv, k < wr.heap.size := s.r.dom_lt
  have dj2 : Dj (dom bb v2) (dom rb rv) := s.dj.near n2 hlt
  have hp3 := hp.keep0 t3
  refine ⟨hp3.keep t4 dj2, hr, hg, ?_, s.np.trans n2 hs, s.nr.trans n4 (by have := t2.size; have := t3.size; omega), ?_⟩
  · exact (dj2.symm.near n4 hp3.dom_lt).symm
  · refine (s.t.transNew t2 (fun m hm => ?_)).transNew (t3.mono (by simp) |>.trans t4) (fun m hm => ?_)
    · rcases s.np m hm with h | h
      · exact Or.inl (List.mem_append_left _ h)
      · exact Or.inr h
    · rcases s.nr m hm with h | h
      · exact Or.inl (List.mem_append_right _ h)
      · exact Or.inr h
theorem PlSt.rest {w' : World} {bb2 : Nat} {v2 : Value} (s : PlSt w D E bb v rb rv b wr) (t : Tch [] wr w') (hp : PBus w' bb2 v2 b) (hn : ∀ q ∈ dom bb2 v2, wr.heap.size ≤ q) : PlSt w D E bb2 v2 rb rv b w' :=
  ⟨hp, s.r.keep0 t, s.g, fun q h1 h2 => by have := hn q h1; have := s.r.dom_lt q h2; omega, fun q hq => Or.inr (by have := hn q hq; have := s.t.size; omega), s.nr, s.t.trans (t.mono (by simp))⟩
end
/-- What holds at the head of each round. -/
def PlRel (w : World) (D E : List Nat) (bb0 rb : Nat) (nx : Int) (ops : List POp) (v0 v25 : Value) (wr : World) : Prop :=
  ∃ (k bb : Nat) (v rv : Value) (b : Bs), k ≤ ops.length ∧ v25 = .int .i64 k ∧ v0 = .pointer (some ⟨bb, 0, none⟩) ∧ PlSt w D E bb v rb rv b wr ∧ b.next ≤ nx + k ∧ ((∀ o ∈ ops, o.kind ≠ 4) → bb = bb0)
/-- What 'play' answers and leaves. -/
def PlPost (w : World) (D E : List Nat) (bb0 rb : Nat) (nx : Int) (ops : List POp) (e : Ending) (w' : World) : Prop :=
  e = .returned (.bool true) ∧ ∃ (bb : Nat) (v rv : Value) (b : Bs), PlSt w D E bb v rb rv b w' ∧ b.next ≤ nx + ops.length ∧ ((∀ o ∈ ops, o.kind ≠ 4) → bb = bb0)

set_option maxRecDepth 100000 in
set_option maxHeartbeats 4000000 in
theorem bplay_any (bb0 rb : Nat) (v0 rv0 : Value) (b0 : Bs) (ops : List POp) (a : Option Addr) (len cap sb so : Nat) (w : World) (D E : List Nat) (h0 : PlSt w D E bb0 v0 rb rv0 b0 w) (hs : IsR fOp 10 w a len sb so ops) (hsb : 0 < len → sb ∉ D ++ E) (hok : ∀ o ∈ ops, o.lt.Ok)
    (hnx : b0.next + ops.length ≤ 4611686018427387903) (hl : ops.length ≤ 10000000000000) :
    Calls Try.prog 10 #[.pointer (some ⟨bb0, 0, none⟩), .pointer (some ⟨rb, 0, none⟩), .slice a len cap] w (PlPost w D E bb0 rb b0.next ops) := by
  obtain rfl := hs.hlen
  have HF : Hid (∀ (bb : Nat) (v rv : Value) (b : Bs) W, PlSt w D E bb v rb rv b W → b.next ≤ b0.next + ops.length → ((∀ o ∈ ops, o.kind ≠ 4) → bb = bb0) → PlPost w D E bb0 rb b0.next ops (.returned (.bool true)) W) := fun bb v rv b W h1 h2 h3 => ⟨rfl, bb, v, rv, b, h1, h2, h3⟩
  have HST : Hid (PlRel w D E bb0 rb b0.next ops (.pointer (some ⟨bb0, 0, none⟩)) (.int .i64 0) w) := ⟨0, bb0, v0, rv0, b0, by omega, rfl, rfl, h0, by simp, fun _ => rfl⟩
  generalize hQ : PlPost w D E bb0 rb b0.next ops = Q at HF ⊢
  clear hQ h0
  generalize b0.next = nx at *
  have HC : Hid (∀ W, Tch (D ++ E) w W → IsR fOp 10 W a ops.length sb so ops) := fun W t => hs.keep t hsb
  have HOK := Lib.hid hok
  have hlI : (ops.length : Int) ≤ 10000000000000 := by omega
  clear hs hsb hok
  go_enter Try.func10, Try.ntmps10
  go_wp2_with fail
  go_loopw [0, 25] (fun v0 v25 wr => PlRel w D E bb0 rb nx ops v0 v25 wr) (fun _ v25 _ => ops.length - (intOf v25).toNat)
  case atStart => exact HST.out
  case round =>
    clear HST
    obtain ⟨k, bb, v, rv, b, hk, rfl, rfl, st, hbn, hbb⟩ := hrel
    by_cases hkl : k < ops.length
    · have hd : decide (k < ops.length) = true := decide_eq_true hkl
      have hcw := HC.out wr st.t
      have ha := hcw.some_ (by omega)
      subst ha
      have hget := List.getElem?_eq_getElem hkl
      have p0 := hcw.c0 hget (v := .int .i64 ops[k].kind) rfl
      have p1 := hcw.c hget 1 (v := .int .i64 ops[k].at_) rfl
      have p2 := hcw.c hget 2 (v := .int .i64 ops[k].lt.id) rfl
      have p3 := hcw.c hget 3 (v := .int .i64 ops[k].lt.dst) rfl
      have p4 := hcw.c hget 4 (v := .int .i64 ops[k].lt.ord) rfl
      have p5 := hcw.c hget 5 (v := .int .i64 ops[k].lt.step) rfl
      have p6 := hcw.c hget 6 (v := .int .i64 ops[k].lt.tr) rfl
      have p7 := hcw.c hget 7 (v := .int .i64 ops[k].lt.kind) rfl
      have p8 := hcw.c hget 8 (v := .int .i64 ops[k].lt.code) rfl
      have p9 := hcw.c hget 9 (v := .string ops[k].lt.verb) rfl
      have hoko := HOK.out _ (List.getElem_mem hkl)
      have HK4 : Hid ((∀ o ∈ ops, o.kind ≠ 4) → ops[k].kind ≠ 4) := fun hh => hh _ (List.getElem_mem hkl)
      have hnx2 : b.next ≤ 4611686018427387904 := by omega
      have hnx0 : 0 ≤ b.next := by have := st.g.lo; omega
      generalize ops[k] = o at *
      obtain ⟨kind, at_, x⟩ := o
      simp only at p0 p1 p2 p3 p4 p5 p6 p7 p8 p9 hoko HK4
      have hsW : ∀ W, Tch [] wr W → PlSt w D E bb v rb rv b W := fun W t => st.keep t
      have HSW := Lib.hid hsW
      have HSE : Hid (∀ W, PBus W bb v b → Calls Try.prog 16 #[.pointer (some ⟨bb, 0, none⟩), .agg #[.int .i64 x.id, .int .i64 x.dst, .int .i64 x.ord, .int .i64 x.step, .int .i64 x.tr, .int .i64 x.kind, .int .i64 x.code, .string x.verb]] W (BusPost 63 37 W bb v (b.send x) (.tuple #[.int .i64 (b.sendN), .int .i64 (b.sendE)]))) := fun W h => bsend_any bb v b x W h hoko hnx0 hnx2
      have HRS : Hid (∀ W, RBus W rb rv b → Calls Try.prog 22 #[.pointer (some ⟨rb, 0, none⟩), .agg #[.int .i64 x.id, .int .i64 x.dst, .int .i64 x.ord, .int .i64 x.step, .int .i64 x.tr, .int .i64 x.kind, .int .i64 x.code, .string x.verb]] W (BusPost 30 38 W rb rv (b.send x) (.tuple #[.int .i64 (b.sendN), .int .i64 (b.sendE)]))) := fun W h => rbsend_any rb rv b x W h hnx0 hnx2
      have HRF : Hid (∀ W, Calls Try.prog 13 #[.agg #[.int .i64 x.id, .int .i64 x.dst, .int .i64 x.ord, .int .i64 x.step, .int .i64 x.tr, .int .i64 x.kind, .int .i64 x.code, .string x.verb]] W fun e w' => e = .returned (.agg #[.int .i64 x.id, .int .i64 x.dst, .int .i64 x.ord, .int .i64 x.step, .int .i64 x.tr, .int .i64 x.kind, .int .i64 x.code, .string x.verb]) ∧ Tch [] W w') := fun W => bref_any x W
      have HTA : Hid (∀ W, PBus W bb v b → Calls Try.prog 17 #[.pointer (some ⟨bb, 0, none⟩), .int .i64 at_] W (BusPost 63 37 W bb v (b.take at_) (.tuple #[.agg #[.int .i64 (b.takeL at_).id, .int .i64 (b.takeL at_).dst, .int .i64 (b.takeL at_).ord, .int .i64 (b.takeL at_).step, .int .i64 (b.takeL at_).tr, .int .i64 (b.takeL at_).kind, .int .i64 (b.takeL at_).code, .string (b.takeL at_).verb], .int .i64 (b.takeE at_)]))) := fun W h => btake_any bb v b at_ W h st.g
      have HRT : Hid (∀ W, RBus W rb rv b → Calls Try.prog 23 #[.pointer (some ⟨rb, 0, none⟩), .int .i64 at_] W (BusPost 30 38 W rb rv (b.take at_) (.tuple #[.agg #[.int .i64 (b.takeL at_).id, .int .i64 (b.takeL at_).dst, .int .i64 (b.takeL at_).ord, .int .i64 (b.takeL at_).step, .int .i64 (b.takeL at_).tr, .int .i64 (b.takeL at_).kind, .int .i64 (b.takeL at_).code, .string (b.takeL at_).verb], .int .i64 (b.takeE at_)]))) := fun W h => rbtake_any rb rv b at_ W h (by have := st.g.len; omega)
      have HRF2 : Hid (∀ W, Calls Try.prog 13 #[.agg #[.int .i64 (b.takeL at_).id, .int .i64 (b.takeL at_).dst, .int .i64 (b.takeL at_).ord, .int .i64 (b.takeL at_).step, .int .i64 (b.takeL at_).tr, .int .i64 (b.takeL at_).kind, .int .i64 (b.takeL at_).code, .string (b.takeL at_).verb]] W fun e w' => e = .returned (.agg #[.int .i64 (b.takeL at_).id, .int .i64 (b.takeL at_).dst, .int .i64 (b.takeL at_).ord, .int .i64 (b.takeL at_).step, .int .i64 (b.takeL at_).tr, .int .i64 (b.takeL at_).kind, .int .i64 (b.takeL at_).code, .string (b.takeL at_).verb]) ∧ Tch [] W w') := fun W => bref_any (b.takeL at_) W
      have HDB : Hid (∀ W, PBus W bb v b → Calls Try.prog 18 #[.pointer (some ⟨bb, 0, none⟩), .int .i64 at_] W (BusPost 63 37 W bb v (b.dbl at_) (.tuple #[.int .i64 (b.dblN at_), .int .i64 (b.dblE at_)]))) := fun W h => bdbl_any bb v b at_ W h st.g hnx2
      have HRD : Hid (∀ W, RBus W rb rv b → Calls Try.prog 24 #[.pointer (some ⟨rb, 0, none⟩), .int .i64 at_] W (BusPost 30 38 W rb rv (b.dbl at_) (.tuple #[.int .i64 (b.dblN at_), .int .i64 (b.dblE at_)]))) := fun W h => rbdbl_any rb rv b at_ W h hnx0 hnx2
      -- what ends a round: 'alike', and the next head
      have HAL : Hid (∀ (bb' : Nat) (v' rv' : Value) (b' : Bs) W, PlSt w D E bb' v' rb rv' b' W → Calls Try.prog 15 #[.pointer (some ⟨bb', 0, none⟩), .pointer (some ⟨rb, 0, none⟩)] W (TchPost W)) := fun bb' v' rv' b' W s => balike_yes bb' rb v' rv' b' W s.p s.r s.g
      have HEN : Hid (∀ (bb' : Nat) (v' rv' : Value) (b' : Bs) W, PlSt w D E bb' v' rb rv' b' W → b'.next ≤ b.next + 1 → ((∀ o ∈ ops, o.kind ≠ 4) → bb' = bb0) → PlRel w D E bb0 rb nx ops (.pointer (some ⟨bb', 0, none⟩)) (.int .i64 ((k + 1 : Nat) : Int)) W) := fun bb' v' rv' b' W s h1 h2 => ⟨k + 1, bb', v', rv', b', by omega, rfl, rfl, s, by push_cast; omega, h2⟩
      have HBB : Hid ((∀ o ∈ ops, o.kind ≠ 4) → bb = bb0) := hbb
      have HG := Lib.hid st.g
      have HN1 : Hid ((b.send x).next ≤ b.next + 1 ∧ (b.take at_).next ≤ b.next + 1 ∧ (b.dbl at_).next ≤ b.next + 1) := ⟨(b.send_next x).2, by rw [b.take_next]; omega, (b.dbl_next at_).2⟩
      have HG2 : Hid ((b.send x).Good ∧ (b.take at_).Good ∧ (b.dbl at_).Good) := ⟨st.g.send x hoko, st.g.take at_, st.g.dbl at_⟩
      obtain ⟨W1, hW1⟩ : ∃ W1, W1 = wr.alloc (.cells #[.int .i64 kind, .int .i64 at_, .int .i64 x.id, .int .i64 x.dst, .int .i64 x.ord, .int .i64 x.step, .int .i64 x.tr, .int .i64 x.kind, .int .i64 x.code, .string x.verb] 54) := ⟨_, rfl⟩
      have t1 : Tch [] wr W1 := by rw [hW1]; exact (Tch.refl _ _).alloc _
      have hb1 : W1.heap[wr.heap.size]? = some (.cells #[.int .i64 kind, .int .i64 at_, .int .i64 x.id, .int .i64 x.dst, .int .i64 x.ord, .int .i64 x.step, .int .i64 x.tr, .int .i64 x.kind, .int .i64 x.code, .string x.verb] 54 (0, 0)) := by rw [hW1]; exact blk_new _ _
      have S1 := Lib.hid (hsW W1 t1)
      have hwrl : ∀ q, q ∈ dom bb v → q ≠ wr.heap.size := fun q hq => by have := st.p.dom_lt q hq; omega
      have HBX : Hid (∀ W, Tch (dom bb v) W1 W → W.heap[wr.heap.size]? = some (.cells #[.int .i64 kind, .int .i64 at_, .int .i64 x.id, .int .i64 x.dst, .int .i64 x.ord, .int .i64 x.step, .int .i64 x.tr, .int .i64 x.kind, .int .i64 x.code, .string x.verb] 54 (0, 0))) := fun W t => t.keep hb1 (fun hq => hwrl _ hq rfl)
      clear hcw hget hoko hsW st hbb t1 HOK HC hwrl
      go_upto_region 4 with fail
      rw [← hW1]
      clear hW1 p0 p1 p2 p3 p4 p5 p6 p7 p8 p9
      have HB1 := Lib.hid hb1
      have HNX := Lib.hid (And.intro hnx0 hnx2)
      clear hnx0 hnx2
      by_cases hk1 : kind = 1
      · subst hk1
        have q0 := blk_cell hb1 0
        have q1 := blk_cell hb1 1
        have q2 := blk_cell hb1 2
        have q3 := blk_cell hb1 3
        have q4 := blk_cell hb1 4
        have q5 := blk_cell hb1 5
        have q6 := blk_cell hb1 6
        have q7 := blk_cell hb1 7
        have q8 := blk_cell hb1 8
        have q9 := blk_cell hb1 9
        simp only [List.getElem?_toArray, List.getElem?_cons_zero, List.getElem?_cons_succ] at q0 q1 q2 q3 q4 q5 q6 q7 q8 q9
        clear hb1 HTA HRT HRF2 HDB HRD
        go_wp2_with fail
        refine (HSE.out W1 S1.out.p).mono ?_
        rintro e W2 ⟨v2, rfl, h2, t2, n2⟩
        have hb2 := HBX.out W2 t2
        clear q0 q1 q2 q3 q4 q5 q6 q7 q8 q9
        have q0 := blk_cell hb2 0
        have q1 := blk_cell hb2 1
        have q2 := blk_cell hb2 2
        have q3 := blk_cell hb2 3
        have q4 := blk_cell hb2 4
        have q5 := blk_cell hb2 5
        have q6 := blk_cell hb2 6
        have q7 := blk_cell hb2 7
        have q8 := blk_cell hb2 8
        have q9 := blk_cell hb2 9
        simp only [List.getElem?_toArray, List.getElem?_cons_zero, List.getElem?_cons_succ] at q0 q1 q2 q3 q4 q5 q6 q7 q8 q9
        have H2 := Lib.hid (And.intro h2 (And.intro t2 n2))
        clear hb2 h2 t2 n2 HSE HBX
        go_wp2_with fail
        refine (HRF.out W2).mono ?_
        rintro e W3 ⟨rfl, t3⟩
        have HC4 := Lib.hid (HRS.out W3 ((S1.out.mid H2.out.2.1).keep0 t3))
        have HT3 := Lib.hid t3
        clear q0 q1 q2 q3 q4 q5 q6 q7 q8 q9 t3 HRS HRF
        go_wp2_with fail
        refine HC4.out.mono ?_
        rintro e W4 ⟨rv2, rfl, h4, t4, n4⟩
        have S4 := Lib.hid (S1.out.op HG2.out.1 H2.out.1 H2.out.2.1 H2.out.2.2 HT3.out h4 t4 n4)
        clear HC4 h4 t4 n4 HT3 H2
        have HN := Lib.hid HN1.out.1
        generalize b.send x = b2 at *
        generalize b.sendN = sn at *
        generalize b.sendE = se at *
        have e1 : (sn == sn) = true := by simp
        have e2 : (se == se) = true := by simp
        have e3 : (sn != sn) = false := by simp
        have e4 : (se != se) = false := by simp
        have HA4 := Lib.hid (HAL.out _ _ _ _ W4 S4.out)
        go_wp2_with fail
        refine HA4.out.mono ?_
        rintro e W5 ⟨rfl, t5⟩
        have HE := Lib.hid (HEN.out _ _ _ _ W5 (S4.out.keep t5) HN.out HBB.out)
        clear HA4 HAL HEN S4 t5 e1 e2 e3 e4 HN
        go_wp2_with fail
        go_roundw
        case rel => exact HE.out
        case measure => simp [intOf]; omega
      have b1 : (kind == 1) = false := beq_false_of_ne hk1
      by_cases hk2 : kind = 2
      · subst hk2
        have q0 := blk_cell hb1 0
        have q1 := blk_cell hb1 1
        have q2 := blk_cell hb1 2
        have q3 := blk_cell hb1 3
        have q4 := blk_cell hb1 4
        have q5 := blk_cell hb1 5
        have q6 := blk_cell hb1 6
        have q7 := blk_cell hb1 7
        have q8 := blk_cell hb1 8
        have q9 := blk_cell hb1 9
        simp only [List.getElem?_toArray, List.getElem?_cons_zero, List.getElem?_cons_succ] at q0 q1 q2 q3 q4 q5 q6 q7 q8 q9
        clear hb1 HSE HRS HRF HDB HRD b1 hk1
        go_wp2_with fail
        refine (HTA.out W1 S1.out.p).mono ?_
        rintro e W2 ⟨v2, rfl, h2, t2, n2⟩
        have hb2 := HBX.out W2 t2
        have HN := Lib.hid HN1.out.2.1
        have HG3 := Lib.hid HG2.out.2.1
        generalize b.take at_ = b2 at *
        generalize b.takeE at_ = te at *
        generalize b.takeL at_ = z at *
        have hneq := fun W => neq_rlt z.id z.dst z.ord z.step z.tr z.kind z.code z.verb W
        generalize z.id = zid at *
        generalize z.dst = zdst at *
        generalize z.ord = zord at *
        generalize z.step = zstep at *
        generalize z.tr = ztr at *
        generalize z.kind = zkind at *
        generalize z.code = zcode at *
        generalize z.verb = zverb at *
        clear q0 q1 q2 q3 q4 q5 q6 q7 q8 q9
        obtain ⟨W2a, hW2a⟩ : ∃ W, W = W2.alloc (.cells #[.int .i64 zid, .int .i64 zdst, .int .i64 zord, .int .i64 zstep, .int .i64 ztr, .int .i64 zkind, .int .i64 zcode, .string zverb] 37) := ⟨_, rfl⟩
        have ta : Tch [] W2 W2a := by rw [hW2a]; exact (Tch.refl _ _).alloc _
        have hz1 : W2a.heap[W2.heap.size]? = some (.cells #[.int .i64 zid, .int .i64 zdst, .int .i64 zord, .int .i64 zstep, .int .i64 ztr, .int .i64 zkind, .int .i64 zcode, .string zverb] 37 (0, 0)) := by rw [hW2a]; exact blk_new _ _
        have hb3 := ta.keep hb2 (by simp)
        have qa := blk_cell hb3 1
        simp only [List.getElem?_toArray, List.getElem?_cons_zero, List.getElem?_cons_succ] at qa
        have H2 := Lib.hid (And.intro h2 (And.intro t2 (And.intro n2 (And.intro ta hz1))))
        clear hb2 h2 t2 n2 hb3 ta hz1 HTA HBX
        go_upto_region 12 with fail
        rw [← hW2a]
        clear hW2a
        have HC4 := Lib.hid (HRT.out W2a ((S1.out.mid H2.out.2.1).keep0 H2.out.2.2.2.1))
        clear HRT
        go_wp2_with fail
        refine HC4.out.mono ?_
        rintro e W4 ⟨rv2, rfl, h4, t4, n4⟩
        have S4 := Lib.hid (S1.out.op HG3.out H2.out.1 H2.out.2.1 H2.out.2.2.1 H2.out.2.2.2.1 h4 t4 n4)
        obtain ⟨W4a, hW4a⟩ : ∃ W, W = W4.alloc (.cells #[.int .i64 zid, .int .i64 zdst, .int .i64 zord, .int .i64 zstep, .int .i64 ztr, .int .i64 zkind, .int .i64 zcode, .string zverb] 38) := ⟨_, rfl⟩
        have tb : Tch [] W4 W4a := by rw [hW4a]; exact (Tch.refl _ _).alloc _
        have hz2 : W4a.heap[W4.heap.size]? = some (.cells #[.int .i64 zid, .int .i64 zdst, .int .i64 zord, .int .i64 zstep, .int .i64 ztr, .int .i64 zkind, .int .i64 zcode, .string zverb] 38 (0, 0)) := by rw [hW4a]; exact blk_new _ _
        have hz3 : W4a.heap[W2.heap.size]? = some (.cells #[.int .i64 zid, .int .i64 zdst, .int .i64 zord, .int .i64 zstep, .int .i64 ztr, .int .i64 zkind, .int .i64 zcode, .string zverb] 37 (0, 0)) := tb.keep (t4.keep H2.out.2.2.2.2 (fun hq => by
          have h1 := S1.out.r.dom_lt _ hq
          have h2 := H2.out.2.1.size
          omega)) (by simp)
        have S5 := Lib.hid (S4.out.keep tb)
        clear HC4 h4 t4 n4 tb qa S4 H2
        go_upto_region 13 with fail
        rw [← hW4a]
        clear hW4a
        have HS : Hid (∀ W, Tch [] W4a W → (W.cell? ⟨W2.heap.size, 0, none⟩ = some (.int .i64 zid) ∧ W.cell? ⟨W2.heap.size, 1, none⟩ = some (.int .i64 zdst) ∧ W.cell? ⟨W2.heap.size, 2, none⟩ = some (.int .i64 zord) ∧ W.cell? ⟨W2.heap.size, 3, none⟩ = some (.int .i64 zstep) ∧ W.cell? ⟨W2.heap.size, 4, none⟩ = some (.int .i64 ztr) ∧ W.cell? ⟨W2.heap.size, 5, none⟩ = some (.int .i64 zkind) ∧ W.cell? ⟨W2.heap.size, 6, none⟩ = some (.int .i64 zcode) ∧ W.cell? ⟨W2.heap.size, 7, none⟩ = some (.string zverb) ∧ W.cell? ⟨W4.heap.size, 0, none⟩ = some (.int .i64 zid) ∧ W.cell? ⟨W4.heap.size, 1, none⟩ = some (.int .i64 zdst) ∧ W.cell? ⟨W4.heap.size, 2, none⟩ = some (.int .i64 zord) ∧ W.cell? ⟨W4.heap.size, 3, none⟩ = some (.int .i64 zstep) ∧ W.cell? ⟨W4.heap.size, 4, none⟩ = some (.int .i64 ztr) ∧ W.cell? ⟨W4.heap.size, 5, none⟩ = some (.int .i64 zkind) ∧ W.cell? ⟨W4.heap.size, 6, none⟩ = some (.int .i64 zcode) ∧ W.cell? ⟨W4.heap.size, 7, none⟩ = some (.string zverb))) := fun W t => by
          have hx := t.keep hz3 (by simp)
          have hy := t.keep hz2 (by simp)
          exact ⟨by rw [blk_cell hx]; rfl, by rw [blk_cell hx]; rfl, by rw [blk_cell hx]; rfl, by rw [blk_cell hx]; rfl, by rw [blk_cell hx]; rfl, by rw [blk_cell hx]; rfl, by rw [blk_cell hx]; rfl, by rw [blk_cell hx]; rfl, by rw [blk_cell hy]; rfl, by rw [blk_cell hy]; rfl, by rw [blk_cell hy]; rfl, by rw [blk_cell hy]; rfl, by rw [blk_cell hy]; rfl, by rw [blk_cell hy]; rfl, by rw [blk_cell hy]; rfl, by rw [blk_cell hy]; rfl⟩
        have td : Tch [] W4a W4a.drew := (Tch.refl _ _).drew
        have e2 : (te == te) = true := by simp
        have e4 : (te != te) = false := by simp
        clear hz2 hz3
        go_region_held3 (fun W => W.cell? ⟨W2.heap.size, 0, none⟩ = some (.int .i64 zid) ∧ W.cell? ⟨W2.heap.size, 1, none⟩ = some (.int .i64 zdst) ∧ W.cell? ⟨W2.heap.size, 2, none⟩ = some (.int .i64 zord) ∧ W.cell? ⟨W2.heap.size, 3, none⟩ = some (.int .i64 zstep) ∧ W.cell? ⟨W2.heap.size, 4, none⟩ = some (.int .i64 ztr) ∧ W.cell? ⟨W2.heap.size, 5, none⟩ = some (.int .i64 zkind) ∧ W.cell? ⟨W2.heap.size, 6, none⟩ = some (.int .i64 zcode) ∧ W.cell? ⟨W2.heap.size, 7, none⟩ = some (.string zverb) ∧ W.cell? ⟨W4.heap.size, 0, none⟩ = some (.int .i64 zid) ∧ W.cell? ⟨W4.heap.size, 1, none⟩ = some (.int .i64 zdst) ∧ W.cell? ⟨W4.heap.size, 2, none⟩ = some (.int .i64 zord) ∧ W.cell? ⟨W4.heap.size, 3, none⟩ = some (.int .i64 zstep) ∧ W.cell? ⟨W4.heap.size, 4, none⟩ = some (.int .i64 ztr) ∧ W.cell? ⟨W4.heap.size, 5, none⟩ = some (.int .i64 zkind) ∧ W.cell? ⟨W4.heap.size, 6, none⟩ = some (.int .i64 zcode) ∧ W.cell? ⟨W4.heap.size, 7, none⟩ = some (.string zverb))
          (first | exact HS.out _ td | exact HS.out _ (td.trans t5))
          (first | (go_at_call 13; (with_reducible refine (HRF2.out _).mono ?_); rintro e w5 ⟨rfl, t5⟩))
        have S6 := Lib.hid (S5.out.keep (td.trans t5))
        have HA4 := Lib.hid (HAL.out _ _ _ _ w5 S6.out)
        clear S5 HS td t5 HRF2 hneq
        go_wp2_with fail
        refine HA4.out.mono ?_
        rintro e W7 ⟨rfl, t7⟩
        have HE := Lib.hid (HEN.out _ _ _ _ W7 (S6.out.keep t7) HN.out HBB.out)
        clear HA4 HAL HEN S6 t7 e2 e4 HN
        go_wp2_with fail
        go_roundw
        case rel => exact HE.out
        case measure => simp [intOf]; omega
      have b2 : (kind == 2) = false := beq_false_of_ne hk2
      by_cases hk3 : kind = 3
      · subst hk3
        have q0 := blk_cell hb1 0
        have q1 := blk_cell hb1 1
        have q2 := blk_cell hb1 2
        have q3 := blk_cell hb1 3
        have q4 := blk_cell hb1 4
        have q5 := blk_cell hb1 5
        have q6 := blk_cell hb1 6
        have q7 := blk_cell hb1 7
        have q8 := blk_cell hb1 8
        have q9 := blk_cell hb1 9
        simp only [List.getElem?_toArray, List.getElem?_cons_zero, List.getElem?_cons_succ] at q0 q1 q2 q3 q4 q5 q6 q7 q8 q9
        clear hb1 HSE HRS HRF HTA HRT HRF2 b1 b2 hk1 hk2
        go_wp2_with fail
        refine (HDB.out W1 S1.out.p).mono ?_
        rintro e W2 ⟨v2, rfl, h2, t2, n2⟩
        have hb2 := HBX.out W2 t2
        clear q0 q1 q2 q3 q4 q5 q6 q7 q8 q9
        have q0 := blk_cell hb2 0
        have q1 := blk_cell hb2 1
        have q2 := blk_cell hb2 2
        have q3 := blk_cell hb2 3
        have q4 := blk_cell hb2 4
        have q5 := blk_cell hb2 5
        have q6 := blk_cell hb2 6
        have q7 := blk_cell hb2 7
        have q8 := blk_cell hb2 8
        have q9 := blk_cell hb2 9
        simp only [List.getElem?_toArray, List.getElem?_cons_zero, List.getElem?_cons_succ] at q0 q1 q2 q3 q4 q5 q6 q7 q8 q9
        have H2 := Lib.hid (And.intro h2 (And.intro t2 n2))
        have HC4 := Lib.hid (HRD.out W2 (S1.out.mid t2))
        clear hb2 h2 t2 n2 HDB HBX HRD
        go_wp2_with fail
        refine HC4.out.mono ?_
        rintro e W4 ⟨rv2, rfl, h4, t4, n4⟩
        have S4 := Lib.hid (S1.out.op HG2.out.2.2 H2.out.1 H2.out.2.1 H2.out.2.2 (Tch.refl [] W2) h4 t4 n4)
        clear q0 q1 q2 q3 q4 q5 q6 q7 q8 q9 HC4 h4 t4 n4 H2
        have HN := Lib.hid HN1.out.2.2
        generalize b.dbl at_ = b2 at *
        generalize b.dblN at_ = sn at *
        generalize b.dblE at_ = se at *
        have e1 : (sn == sn) = true := by simp
        have e2 : (se == se) = true := by simp
        have e3 : (sn != sn) = false := by simp
        have e4 : (se != se) = false := by simp
        have HA4 := Lib.hid (HAL.out _ _ _ _ W4 S4.out)
        go_wp2_with fail
        refine HA4.out.mono ?_
        rintro e W5 ⟨rfl, t5⟩
        have HE := Lib.hid (HEN.out _ _ _ _ W5 (S4.out.keep t5) HN.out HBB.out)
        clear HA4 HAL HEN S4 t5 e1 e2 e3 e4 HN
        go_wp2_with fail
        go_roundw
        case rel => exact HE.out
        case measure => simp [intOf]; omega
      have b3 : (kind == 3) = false := beq_false_of_ne hk3
      clear HSE HRS HRF HTA HRT HRF2 HDB HRD hk1 hk2 hk3
      by_cases hk4 : kind = 4
      · subst hk4
        have q0 := blk_cell hb1 0
        simp only [List.getElem?_toArray, List.getElem?_cons_zero] at q0
        have HNE := Lib.hid (bnext_any bb v b W1 S1.out.p)
        have HLI := Lib.hid (blist_any bb v b W1 S1.out.p HG.out)
        clear hb1
        go_wp2_with fail
        refine HNE.out.mono ?_
        rintro e W ⟨rfl, rfl⟩
        clear HNE
        go_wp2_with fail
        refine HLI.out.mono ?_
        rintro e W2 ⟨vl, rfl, ⟨g1, g2⟩⟩
        obtain ⟨x2, c2, rfl⟩ := own_slice g1
        obtain ⟨lb, hlr, hn, _⟩ := IsR.own fLt_len g1 rfl
        clear hn HLI
        have S2 := Lib.hid (S1.out.keep g2)
        by_cases hbig : b.next ≤ 1152921504606846976
        · have HRE := Lib.hid (brest_yes x2 b.list.length c2 lb 0 b.list b.next W2 hlr (HG.out.rest hbig) HG.out.ok)
          clear g1 g2 hlr q0
          go_wp2_with fail
          refine HRE.out.mono ?_
          rintro e W3 ⟨bb2, v2, rfl, h3, hn3, t3⟩
          have S3 := Lib.hid (S2.out.rest t3 h3 hn3)
          have HNE := Lib.hid (bnext_any bb v b W3 (S2.out.keep t3).p)
          have HA4 := Lib.hid (HAL.out _ _ _ _ W3 S3.out)
          have d1 : decide (1152921504606846976 < b.next) = false := decide_eq_false (by omega)
          clear HRE S2 h3 hn3 t3
          go_wp2_with fail
          refine HNE.out.mono ?_
          rintro e W ⟨rfl, rfl⟩
          clear HNE
          go_wp2_with fail
          refine HA4.out.mono ?_
          rintro e W5 ⟨rfl, t5⟩
          have HE := Lib.hid (HEN.out _ _ _ _ W5 (S3.out.keep t5) (by omega) (fun hh => absurd rfl (HK4.out hh)))
          clear HA4 HAL HEN S3 t5 d1
          go_wp2_with fail
          go_roundw
          case rel => exact HE.out
          case measure => simp [intOf]; omega
        · have HRE := Lib.hid (brest_no x2 b.list.length c2 lb 0 b.list b.next W2 hlr (by unfold restB; rw [decide_eq_false hbig]; simp))
          clear g1 g2 hlr q0
          go_wp2_with fail
          refine HRE.out.mono ?_
          rintro e W3 ⟨rfl, t3⟩
          have S3 := Lib.hid (S2.out.keep t3)
          have HNE := Lib.hid (bnext_any bb v b W3 S3.out.p)
          have d1 : decide (1152921504606846976 < b.next) = true := decide_eq_true (by omega)
          have HE := Lib.hid (HEN.out _ _ _ _ W3 S3.out (by omega) HBB.out)
          clear HRE S2 t3 S3 hbig HAL HEN
          go_wp2_with fail
          refine HNE.out.mono ?_
          rintro e W ⟨rfl, rfl⟩
          clear HNE
          go_wp2_with fail
          go_roundw
          case rel => exact HE.out
          case measure => simp [intOf]; omega
      · have b4 : (kind == 4) = false := beq_false_of_ne hk4
        have q0 := blk_cell hb1 0
        simp only [List.getElem?_toArray, List.getElem?_cons_zero] at q0
        have HA4 := Lib.hid (HAL.out _ _ _ _ W1 S1.out)
        clear hb1 hk4
        go_wp2_with fail
        refine HA4.out.mono ?_
        rintro e W5 ⟨rfl, t5⟩
        have HE := Lib.hid (HEN.out _ _ _ _ W5 (S1.out.keep t5) (by omega) HBB.out)
        clear HA4 HAL HEN S1 t5 b1 b2 b3 b4 q0
        go_wp2_with fail
        go_roundw
        case rel => exact HE.out
        case measure => simp [intOf]; omega
    · have hd : decide (k < ops.length) = false := decide_eq_false hkl
      obtain rfl : k = ops.length := by omega
      have HE := Lib.hid (HF.out bb v rv b wr st hbn hbb)
      clear st hbn hbb HF HC HOK
      go_wp2_with fail
      first | exact HE.out | (go_ret; exact HE.out)
end Go.Proofs.Ytgdfbpgnknnkpaa
