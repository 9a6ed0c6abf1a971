/-
  The law BusKeeps, walked.
-/
import Derived.Test.YtgdfbpgnknnkpaaBst
import Derived.Test.YtgdfbpgnknnkpaaMp
namespace Go.Proofs.Ytgdfbpgnknnkpaa
open Go.RowKit
set_option linter.unusedVariables false

set_option maxRecDepth 100000 in
theorem neq_blt (i0 i1 i2 i3 i4 i5 i6 : Int) (s : ByteArray) (w : World) : (binOp .neq 37 (.agg #[.int .i64 i0, .int .i64 i1, .int .i64 i2, .int .i64 i3, .int .i64 i4, .int .i64 i5, .int .i64 i6, .string s]) (.agg #[.int .i64 i0, .int .i64 i1, .int .i64 i2, .int .i64 i3, .int .i64 i4, .int .i64 i5, .int .i64 i6, .string s])).run Try.prog w = .ok (.bool false) w := by
  rw [run_neq_struct, run_equalIn_struct _ _ _ _ _ (by kernel_rfl) (by kernel_rfl)]
  unfold Program.fieldsOf
  rw [Try.underlying37]
  have p0 : ∀ w, (part 3 #[.int .i64 i0, .int .i64 i1, .int .i64 i2, .int .i64 i3, .int .i64 i4, .int .i64 i5, .int .i64 i6, .string s] 0).run Try.prog w = .ok (.int .i64 i0) w := fun w => by kernel_rfl
  have p1 : ∀ w, (part 3 #[.int .i64 i0, .int .i64 i1, .int .i64 i2, .int .i64 i3, .int .i64 i4, .int .i64 i5, .int .i64 i6, .string s] 1).run Try.prog w = .ok (.int .i64 i1) w := fun w => by kernel_rfl
  have p2 : ∀ w, (part 3 #[.int .i64 i0, .int .i64 i1, .int .i64 i2, .int .i64 i3, .int .i64 i4, .int .i64 i5, .int .i64 i6, .string s] 2).run Try.prog w = .ok (.int .i64 i2) w := fun w => by kernel_rfl
  have p3 : ∀ w, (part 3 #[.int .i64 i0, .int .i64 i1, .int .i64 i2, .int .i64 i3, .int .i64 i4, .int .i64 i5, .int .i64 i6, .string s] 3).run Try.prog w = .ok (.int .i64 i3) w := fun w => by kernel_rfl
  have p4 : ∀ w, (part 3 #[.int .i64 i0, .int .i64 i1, .int .i64 i2, .int .i64 i3, .int .i64 i4, .int .i64 i5, .int .i64 i6, .string s] 4).run Try.prog w = .ok (.int .i64 i4) w := fun w => by kernel_rfl
  have p5 : ∀ w, (part 3 #[.int .i64 i0, .int .i64 i1, .int .i64 i2, .int .i64 i3, .int .i64 i4, .int .i64 i5, .int .i64 i6, .string s] 5).run Try.prog w = .ok (.int .i64 i5) w := fun w => by kernel_rfl
  have p6 : ∀ w, (part 3 #[.int .i64 i0, .int .i64 i1, .int .i64 i2, .int .i64 i3, .int .i64 i4, .int .i64 i5, .int .i64 i6, .string s] 6).run Try.prog w = .ok (.int .i64 i6) w := fun w => by kernel_rfl
  have p7 : ∀ w, (part 9 #[.int .i64 i0, .int .i64 i1, .int .i64 i2, .int .i64 i3, .int .i64 i4, .int .i64 i5, .int .i64 i6, .string s] 7).run Try.prog w = .ok (.string s) w := fun w => by kernel_rfl
  have q0 : ∀ s w, (Op.equalIn 9999 9 (.string s) (.string s)).run Try.prog w = .ok true w := fun s w => by rw [run_equalIn_string w 9998 _ _ _ Try.underlying9]; simp
  have q1 : ∀ (i : Int) w, (Op.equalIn 9999 3 (.int .i64 i) (.int .i64 i)).run Try.prog w = .ok true w := fun i w => by rw [run_equalIn_int w 9998 _ _ _ _ _ Try.underlying3]; simp
  simp [Op.eqFields, p0, p1, p2, p3, p4, p5, p6, p7, q0, q1, Result.andThen]

/-- A letter as a value. -/
def vLt (l : Lt) : Value := .agg #[.int .i64 l.id, .int .i64 l.dst, .int .i64 l.ord, .int .i64 l.step, .int .i64 l.tr, .int .i64 l.kind, .int .i64 l.code, .string l.verb]
/-- The letters of a bus by their numbers. -/
def byId (l : List Lt) (x : Int) : Option Value := (l.find? fun y => y.id == x).map vLt
theorem find_none {l : List Lt} {x : Int} (h : ∀ y ∈ l, y.id ≠ x) : byId l x = none := by
  unfold byId
  rw [List.find?_eq_none.2 (fun y hy => by simpa using h y hy)]; rfl
theorem find_some {next : Int} : ∀ {last : Int} {l : List Lt}, numB next last l = true → ∀ {i : Nat} {y : Lt}, l[i]? = some y → byId l y.id = some (vLt y)
  | last, [], _, i, y, h => by simp at h
  | last, z :: l, hn, i, y, h => by
    simp only [numB, Bool.if_false_left, Bool.and_eq_true, Bool.not_eq_true', decide_eq_false_iff_not] at hn
    unfold byId
    rw [List.find?_cons]
    cases i with
    | zero => simp at h; subst h; simp
    | succ i =>
      rw [List.getElem?_cons_succ] at h
      have hlt := (numB_lt next z.id l hn.2 y (List.mem_of_getElem? h)).1
      rw [show (z.id == y.id) = false from beq_false_of_ne (by omega)]
      exact find_some hn.2 h
theorem byId_snoc {l : List Lt} {y : Lt} (h : ∀ z ∈ l, z.id < y.id) (x : Int) : byId (l ++ [y]) x = updF (byId l) y.id (some (vLt y)) x := by
  unfold updF
  by_cases hx : x = y.id
  · subst hx
    rw [if_pos rfl]
    unfold byId
    rw [List.find?_append, List.find?_eq_none.2 (fun z hz => by have := h z hz; simp; omega)]
    simp
  · rw [if_neg hx]
    unfold byId
    rw [List.find?_append]
    have : List.find? (fun z => z.id == x) [y] = none := by simp [Ne.symm hx]
    rw [this]
    simp
theorem byId_erase {next : Int} : ∀ {last : Int} {l : List Lt}, numB next last l = true → ∀ {i : Nat} {y : Lt}, l[i]? = some y → ∀ x, byId (l.eraseIdx i) x = updF (byId l) y.id none x
  | last, [], _, i, y, h, x => by simp at h
  | last, z :: l, hn, i, y, h, x => by
    simp only [numB, Bool.if_false_left, Bool.and_eq_true, Bool.not_eq_true', decide_eq_false_iff_not] at hn
    unfold updF
    cases i with
    | zero =>
      simp at h; subst h
      rw [List.eraseIdx_cons_zero]
      by_cases hx : x = z.id
      · subst hx
        rw [if_pos rfl]
        exact find_none (fun y hy => by have := (numB_lt next z.id l hn.2 y hy).1; omega)
      · rw [if_neg hx]
        unfold byId
        rw [List.find?_cons, show (z.id == x) = false from beq_false_of_ne (fun e => hx e.symm)]
    | succ i =>
      rw [List.getElem?_cons_succ] at h
      have hlt := (numB_lt next z.id l hn.2 y (List.mem_of_getElem? h)).1
      have ih := byId_erase hn.2 h x
      unfold updF at ih
      rw [List.eraseIdx_cons_succ]
      unfold byId at ih ⊢
      rw [List.find?_cons, List.find?_cons]
      by_cases hz : z.id = x
      · subst hz
        rw [if_neg (by omega)]
        simp
      · rw [show (z.id == x) = false from beq_false_of_ne hz]
        exact ih
theorem byId_mem {l : List Lt} (x : Int) : x ∈ l.map Lt.id ↔ byId l x ≠ none := by
  unfold byId
  rw [Ne, Option.map_eq_none_iff, List.find?_eq_none]
  simp
theorem ids_nodup {next : Int} : ∀ {last : Int} {l : List Lt}, numB next last l = true → (l.map Lt.id).Nodup
  | last, [], _ => by simp
  | last, z :: l, hn => by
    simp only [numB, Bool.if_false_left, Bool.and_eq_true, Bool.not_eq_true', decide_eq_false_iff_not] at hn
    rw [List.map_cons, List.nodup_cons]
    refine ⟨fun hm => ?_, ids_nodup hn.2⟩
    obtain ⟨y, hy, he⟩ := List.mem_map.1 hm
    have := (numB_lt next z.id l hn.2 y hy).1
    omega
theorem Bs.Good.wf {b : Bs} (h : b.Good) (hn : b.next ≤ 4611686018427387904) : ∀ y ∈ b.list, (Lit.int .i64 y.id).wf = true := fun y hy => by
  have := numB_lt _ _ _ h.num y hy
  exact wfI (by omega) (by omega)
/-- The law's state: the bus, and its map. -/
structure KpSt (w : World) (bb : Nat) (v : Value) (b : Bs) (mb n : Nat) (wr : World) : Prop where
  s : BSt w bb v b wr
  m : IsMp wr mb (byId b.list) n
  new : w.heap.size ≤ mb
theorem KpSt.keep {w wr w' : World} {bb : Nat} {v : Value} {b : Bs} {mb n : Nat} (h : KpSt w bb v b mb n wr) (t : Tch [] wr w') : KpSt w bb v b mb n w' := ⟨h.s.keep t, h.m.keep t (by simp), h.new⟩
theorem KpSt.nd {w wr : World} {bb : Nat} {v : Value} {b : Bs} {mb n : Nat} (h : KpSt w bb v b mb n wr) : mb ∉ dom bb v := fun hm => by
  rcases mem_dom.1 hm with rfl | hm
  · exact h.m.ne h.s.p.blk rfl
  · rcases h.s.p.own.2 with ⟨hv, _⟩ | ⟨g, cap, cur, hv, _, hg, _⟩
    · rw [hv] at hm; simp [Value.ownBlock] at hm
    · rw [hv] at hm
      simp only [Value.ownBlock, Option.some.injEq] at hm
      subst hm
      exact h.m.ne hg rfl
/-- A call on the bus: the map is as it was. -/
def KcPost (w : World) (bb : Nat) (v : Value) (b b' : Bs) (mb n : Nat) (wr : World) (r : Value) (e : Ending) (w' : World) : Prop :=
  ∃ v', e = .returned r ∧ BSt w bb v' b' w' ∧ IsMp w' mb (byId b.list) n ∧ Tch (dom bb v) wr w' ∧ mb ∉ dom bb v'
theorem KpSt.call {w wr : World} {bb : Nat} {v : Value} {b b' : Bs} {mb n : Nat} (h : KpSt w bb v b mb n wr) (hg : b'.Good) {r : Value} {e : Ending} {w' : World} (hp : BusPost 63 37 wr bb v b' r e w') : KcPost w bb v b b' mb n wr r e w' := by
  obtain ⟨v', rfl, h2, t2, n2⟩ := hp
  have hm := h.m.keep t2 h.nd
  refine ⟨v', rfl, h.s.step hg h2 t2 n2, hm, t2, fun hq => ?_⟩
  rcases n2 mb hq with h3 | h3
  · exact h.nd h3
  · have := h.m.lt; omega
theorem KpSt.done {w w' w2 : World} {bb : Nat} {v' : Value} {b' : Bs} {mb m : Nat} (hnew : w.heap.size ≤ mb) (s : BSt w bb v' b' w') (hd : mb ∉ dom bb v') (hm : IsMp w2 mb (byId b'.list) m) (t : Tch [mb] w' w2) : KpSt w bb v' b' mb m w2 := by
  refine ⟨⟨s.p.keep t (fun k hk hk2 => ?_), s.g, s.n, s.t.transNew t (fun q hq => Or.inr ?_)⟩, hm, hnew⟩
  · simp only [List.mem_singleton] at hk2
    subst hk2
    exact hd hk
  · simp only [List.mem_singleton] at hq
    omega
/-- What holds at the head of each round. -/
def KpRel (w : World) (bb mb : Nat) (ops : List POp) (v26 : Value) (wr : World) : Prop :=
  ∃ (k : Nat) (v : Value) (b : Bs), k ≤ ops.length ∧ v26 = .int .i64 k ∧ KpSt w bb v b mb k wr ∧ b.next ≤ 1 + (k : Int)
def KqRel (w5 : World) (n : Nat) (v104 : Value) (wr : World) : Prop := ∃ k : Nat, k ≤ n ∧ v104 = .int .i64 k ∧ Tch [] w5 wr
theorem Bs.send_list {b : Bs} (h : b.list.length < 4096) (l : Lt) : (b.send l).list = b.list ++ [l.num b.next] := by unfold Bs.send; rw [if_pos h]
theorem Bs.Good.low {b : Bs} (h : b.Good) : ∀ z ∈ b.list, z.id < b.next := fun z hz => (numB_lt _ _ _ h.num z hz).2
set_option maxRecDepth 100000 in
set_option maxHeartbeats 4000000 in
theorem keeps7_walk (a : Option Addr) (len cap sb so : Nat) (ops : List POp) (w : World) (hs : IsR fOp 10 w a len sb so ops) (hok : ∀ o ∈ ops, o.lt.Ok) (hl : len * 88 ≤ 140737488351232) (_hc : len ≤ cap) :
    Calls Try.prog 6 #[.slice a len cap] w (TchPost w) := by
  obtain rfl := hs.hlen
  have HW := Lib.hid (bwakes_any w)
  have HN : Hid (∀ W, Tch [] w W → Calls Try.prog 11 #[] W fun e w' => ∃ bb v, e = .returned (.pointer (some ⟨bb, 0, none⟩)) ∧ BSt w bb v ⟨[], 1⟩ w') := fun W t => bst_new w W t
  have HC : Hid (∀ W, Tch [] w W → IsR fOp 10 W a ops.length sb so ops) := fun W t => hs.keep0 t
  have HOK := Lib.hid hok
  have HF : Hid (∀ W, Tch [] w W → TchPost w (.returned (.bool true)) W) := fun W t => ⟨rfl, t⟩
  generalize hQ : TchPost w = Q at HF ⊢
  have hlI : (ops.length : Int) ≤ 10000000000000 := by omega
  have hlN : ops.length ≤ 10000000000000 := by omega
  have hmm := @run_makeMap Try.prog
  clear hQ hs hok hl
  go_enter Try.func6, Try.ntmps6
  go_wp2_with fail
  refine HW.out.mono ?_
  rintro e w1 ⟨rfl, t1⟩
  have HN1 := Lib.hid (HN.out w1 t1)
  clear HW HN t1
  go_wp2_with fail
  refine HN1.out.mono ?_
  rintro e w2 ⟨bb, v, rfl, s2⟩
  have HST : Hid (KpRel w bb w2.heap.size ops (.int .i64 0) (w2.alloc (.map #[] 0))) := by
    have t : Tch [] w2 (w2.alloc (.map #[] 0)) := (Tch.refl _ _).alloc _
    exact ⟨0, v, _, by omega, rfl, ⟨s2.keep t, (IsMp.made w2).congr (fun x _ => rfl), s2.t.size⟩, by decide⟩
  clear HN1 s2
  go_wp2_with fail
  clear hmm
  generalize w2.heap.size = mb at *
  go_loopw [26] (fun v26 wr => KpRel w bb mb ops v26 wr) (fun v26 _ => ops.length - (intOf v26).toNat)
  case atStart => exact HST.out
  case round =>
    clear HST
    obtain ⟨k, v, b, hk, rfl, st, hbn⟩ := hrel
    have hb62 : b.next ≤ 4611686018427387904 := by omega
    have HWF := Lib.hid (st.s.g.wf hb62)
    by_cases hkl : k < ops.length
    · have hd : decide (k < ops.length) = true := decide_eq_true hkl
      have hcw := HC.out wr st.s.t
      have ha := hcw.some_ (by omega)
      subst ha
      have hget := List.getElem?_eq_getElem hkl
      have p0 := hcw.c0 hget (v := .int .i64 ops[k].kind) rfl
      have p1 := hcw.c hget 1 (v := .int .i64 ops[k].at_) rfl
      have p2 := hcw.c hget 2 (v := .int .i64 ops[k].lt.id) rfl
      have p3 := hcw.c hget 3 (v := .int .i64 ops[k].lt.dst) rfl
      have p4 := hcw.c hget 4 (v := .int .i64 ops[k].lt.ord) rfl
      have p5 := hcw.c hget 5 (v := .int .i64 ops[k].lt.step) rfl
      have p6 := hcw.c hget 6 (v := .int .i64 ops[k].lt.tr) rfl
      have p7 := hcw.c hget 7 (v := .int .i64 ops[k].lt.kind) rfl
      have p8 := hcw.c hget 8 (v := .int .i64 ops[k].lt.code) rfl
      have p9 := hcw.c hget 9 (v := .string ops[k].lt.verb) rfl
      have hoko := HOK.out _ (List.getElem_mem hkl)
      generalize ops[k] = o at *
      obtain ⟨kind, at_, x⟩ := o
      simp only at p0 p1 p2 p3 p4 p5 p6 p7 p8 p9 hoko
      have hn0 : 0 ≤ b.next := by have := st.s.g.lo; omega
      have hwn : (Lit.int .i64 b.next).wf = true := wfI (by omega) (by omega)
      have HSE : Hid (∀ W, KpSt w bb v b mb k W → Calls Try.prog 16 #[.pointer (some ⟨bb, 0, none⟩), .agg #[.int .i64 x.id, .int .i64 x.dst, .int .i64 x.ord, .int .i64 x.step, .int .i64 x.tr, .int .i64 x.kind, .int .i64 x.code, .string x.verb]] W (KcPost w bb v b (b.send x) mb k W (.tuple #[.int .i64 (b.sendN), .int .i64 (b.sendE)]))) := fun W s => (bsend_any bb v b x W s.s.p hoko hn0 hb62).mono fun _ _ h => s.call (s.s.g.send x hoko) h
      have HTA : Hid (∀ W, KpSt w bb v b mb k W → Calls Try.prog 17 #[.pointer (some ⟨bb, 0, none⟩), .int .i64 at_] W (KcPost w bb v b (b.take at_) mb k W (.tuple #[.agg #[.int .i64 (b.takeL at_).id, .int .i64 (b.takeL at_).dst, .int .i64 (b.takeL at_).ord, .int .i64 (b.takeL at_).step, .int .i64 (b.takeL at_).tr, .int .i64 (b.takeL at_).kind, .int .i64 (b.takeL at_).code, .string (b.takeL at_).verb], .int .i64 (b.takeE at_)]))) := fun W s => (btake_any bb v b at_ W s.s.p s.s.g).mono fun _ _ h => s.call (s.s.g.take at_) h
      have HDB : Hid (∀ W, KpSt w bb v b mb k W → Calls Try.prog 18 #[.pointer (some ⟨bb, 0, none⟩), .int .i64 at_] W (KcPost w bb v b (b.dbl at_) mb k W (.tuple #[.int .i64 (b.dblN at_), .int .i64 (b.dblE at_)]))) := fun W s => (bdbl_any bb v b at_ W s.s.p s.s.g hb62).mono fun _ _ h => s.call (s.s.g.dbl at_) h
      have HB1 : Hid ((b.send x).next ≤ 1 + ((k + 1 : Nat) : Int)) := by have := b.send_next x; show _ ≤ _; push_cast; omega
      have HB2 : Hid ((b.take at_).next ≤ 1 + ((k + 1 : Nat) : Int)) := by show _ ≤ _; rw [b.take_next]; push_cast; omega
      have HB3 : Hid ((b.dbl at_).next ≤ 1 + ((k + 1 : Nat) : Int)) := by have := b.dbl_next at_; show _ ≤ _; push_cast; omega
      have HB4 : Hid (b.next ≤ 1 + ((k + 1 : Nat) : Int)) := by show _ ≤ _; push_cast; omega
      obtain ⟨W1, hW1⟩ : ∃ W1, W1 = wr.alloc (.cells #[.int .i64 kind, .int .i64 at_, .int .i64 x.id, .int .i64 x.dst, .int .i64 x.ord, .int .i64 x.step, .int .i64 x.tr, .int .i64 x.kind, .int .i64 x.code, .string x.verb] 54) := ⟨_, rfl⟩
      have t1 : Tch [] wr W1 := by rw [hW1]; exact (Tch.refl _ _).alloc _
      have hb1 : W1.heap[wr.heap.size]? = some (.cells #[.int .i64 kind, .int .i64 at_, .int .i64 x.id, .int .i64 x.dst, .int .i64 x.ord, .int .i64 x.step, .int .i64 x.tr, .int .i64 x.kind, .int .i64 x.code, .string x.verb] 54 (0, 0)) := by rw [hW1]; exact blk_new _ _
      have hwrl : ∀ q, q ∈ dom bb v → q ≠ wr.heap.size := fun q hq => by have := st.s.p.dom_lt q hq; omega
      have S1 := Lib.hid (st.keep t1)
      have HBX : Hid (∀ W M, Tch [] W1 W → ∀ W', Tch (dom bb v) W M → Tch [] M W' → W'.heap[wr.heap.size]? = some (.cells #[.int .i64 kind, .int .i64 at_, .int .i64 x.id, .int .i64 x.dst, .int .i64 x.ord, .int .i64 x.step, .int .i64 x.tr, .int .i64 x.kind, .int .i64 x.code, .string x.verb] 54 (0, 0))) := fun W M t W' t2 t3 => t3.keep (t2.keep (t.keep hb1 (by simp)) (fun hq => hwrl _ hq rfl)) (by simp)
      have HNW := Lib.hid st.new
      have HG := Lib.hid st.s.g
      have HNX : Hid (∃ nx, nx = b.next) := ⟨_, rfl⟩
      clear hcw hget hoko st t1 hbn hwrl
      go_upto_region 8 with fail
      rw [← hW1]
      clear hW1 p0 p1 p2 p3 p4 p5 p6 p7 p8 p9
      have q0 := blk_cell hb1 0
      have q1 := blk_cell hb1 1
      have q2 := blk_cell hb1 2
      have q3 := blk_cell hb1 3
      have q4 := blk_cell hb1 4
      have q5 := blk_cell hb1 5
      have q6 := blk_cell hb1 6
      have q7 := blk_cell hb1 7
      have q8 := blk_cell hb1 8
      have q9 := blk_cell hb1 9
      simp only [List.getElem?_toArray, List.getElem?_cons_zero, List.getElem?_cons_succ] at q0 q1 q2 q3 q4 q5 q6 q7 q8 q9
      clear hb1
      have HEND : Hid (∀ W v' b', KpSt w bb v' b' mb (k + 1) W → b'.next ≤ 1 + ((k + 1 : Nat) : Int) → KpRel w bb mb ops (.int .i64 ((k + 1 : Nat) : Int)) W) := fun W v' b' h1 h2 => ⟨k + 1, v', b', by omega, rfl, h1, h2⟩
      have HMONO : Hid (∀ W v' b', KpSt w bb v' b' mb k W → KpSt w bb v' b' mb (k + 1) W) := fun W v' b' h => ⟨h.s, h.m.mono (by omega), h.new⟩
      clear HC HOK
      by_cases hk1 : kind = 1
      · subst hk1
        clear HTA HDB HB2 HB3
        go_wp2_with fail
        refine (HSE.out W1 S1.out).mono ?_
        rintro e W2 ⟨v2, rfl, s2, m2, t2, d2⟩
        by_cases hroom : b.list.length < 4096
        · have hE : b.sendE = 0 := by unfold Bs.sendE; rw [if_pos hroom]
          have hN : b.sendN = b.next := by unfold Bs.sendN; rw [if_pos hroom]
          rw [hE, hN]
          have hbx := HBX.out W1 W2 (Tch.refl _ _) W2 t2 (Tch.refl _ _)
          clear q0 q1 q2 q3 q4 q5 q6 q7 q8 q9 hE hN
          have q0 := blk_cell hbx 0
          have q1 := blk_cell hbx 1
          have q2 := blk_cell hbx 2
          have q3 := blk_cell hbx 3
          have q4 := blk_cell hbx 4
          have q5 := blk_cell hbx 5
          have q6 := blk_cell hbx 6
          have q7 := blk_cell hbx 7
          have q8 := blk_cell hbx 8
          have q9 := blk_cell hbx 9
          simp only [List.getElem?_toArray, List.getElem?_cons_zero, List.getElem?_cons_succ] at q0 q1 q2 q3 q4 q5 q6 q7 q8 q9
          have hv1 : (byId b.list b.next).getD zLt = .agg #[.int .i64 0, .int .i64 0, .int .i64 0, .int .i64 0, .int .i64 0, .int .i64 0, .int .i64 0, .string ⟨#[]⟩] := by rw [find_none (fun y hy => by have := HG.out.low y hy; omega)]; rfl
          have hs1 : (byId b.list b.next).isSome = false := by rw [find_none (fun y hy => by have := HG.out.low y hy; omega)]; rfl
          have HSL : Hid ((b.send x).list = b.list ++ [x.num b.next]) := Bs.send_list hroom x
          have HVN : Hid (vLt (x.num b.next) = .agg #[.int .i64 b.next, .int .i64 x.dst, .int .i64 x.ord, .int .i64 x.step, .int .i64 x.tr, .int .i64 x.kind, .int .i64 x.code, .string x.verb]) := rfl
          obtain ⟨W2a, hW2a⟩ : ∃ W, W = W2.alloc (.cells #[.int .i64 b.next, .int .i64 x.dst, .int .i64 x.ord, .int .i64 x.step, .int .i64 x.tr, .int .i64 x.kind, .int .i64 x.code, .string x.verb] 37) := ⟨_, rfl⟩
          have t2a : Tch [] W2 W2a := by rw [hW2a]; exact (Tch.refl _ _).alloc _
          have hba : W2a.heap[W2.heap.size]? = some (.cells #[.int .i64 b.next, .int .i64 x.dst, .int .i64 x.ord, .int .i64 x.step, .int .i64 x.tr, .int .i64 x.kind, .int .i64 x.code, .string x.verb] 37 (0, 0)) := by rw [hW2a]; exact blk_new _ _
          obtain ⟨W2b, hW2b⟩ : ∃ W, W = W2a.alloc (.cells #[.int .i64 0, .int .i64 0, .int .i64 0, .int .i64 0, .int .i64 0, .int .i64 0, .int .i64 0, .string ⟨#[]⟩] 37) := ⟨_, rfl⟩
          have t2b : Tch [] W2a W2b := by rw [hW2b]; exact (Tch.refl _ _).alloc _
          have hbb := t2b.keep hba (by simp)
          have hm2 := m2.keep t2a (by simp)
          have H2 := Lib.hid (And.intro (s2.keep (t2a.trans t2b)) (And.intro (hm2.keep t2b (by simp)) (And.intro d2 hbb)))
          clear hbx s2 m2 t2 d2 t2a hba t2b hbb HSE HBX hroom
          go_upto_region 14 with fail
          rw [← hW2a]
          clear hW2a
          go_upto_region 15 with (at_lookup; refine wpList_lookup_mp_ok _ rfl _ _ 52 rfl 37 Try.underlying52 (zero_lt _) mb k _ rfl hm2 b.next rfl hwn _ hv1 _ hs1 ?_)
          rw [← hW2b]
          clear hW2b hm2 hv1 hs1 q0 q1 q2 q3 q4 q5 q6 q7 q8 q9
          have hbb := H2.out.2.2.2
          have q0 := blk_cell hbb 0
          have q1 := blk_cell hbb 1
          have q2 := blk_cell hbb 2
          have q3 := blk_cell hbb 3
          have q4 := blk_cell hbb 4
          have q5 := blk_cell hbb 5
          have q6 := blk_cell hbb 6
          have q7 := blk_cell hbb 7
          simp only [List.getElem?_toArray, List.getElem?_cons_zero, List.getElem?_cons_succ] at q0 q1 q2 q3 q4 q5 q6 q7
          have hm3 := H2.out.2.1
          clear hbb
          go_wp2_with (at_mapUpdate; refine wpList_store_mp _ rfl _ _ _ 52 rfl 37 Try.underlying52 mb k _ rfl hm3 (by unfold maxLen; omega) b.next rfl hwn ?_; intro w9 h9 t9)
          have h10 : IsMp w9 mb (updF (byId b.list) b.next (some (vLt (x.num b.next)))) (k + 1) := h9
          have HE := Lib.hid (HEND.out w9 v2 (b.send x) (KpSt.done HNW.out H2.out.1 H2.out.2.2.1 (h10.congr (fun y _ => by rw [HSL.out]; exact byId_snoc (fun z hz => HG.out.low z hz) y)) t9) HB1.out)
          clear h9 h10 t9 H2 HEND HMONO HSL HVN hm3 q0 q1 q2 q3 q4 q5 q6 q7
          go_wp2_with fail
          go_roundw
          case rel => exact HE.out
          case measure => simp [intOf]; omega
        · have hE : b.sendE = 72 := by unfold Bs.sendE; rw [if_neg hroom]
          have hN : b.sendN = 0 := by unfold Bs.sendN; rw [if_neg hroom]
          rw [hE, hN]
          have hbs : b.send x = b := by unfold Bs.send; rw [if_neg hroom]
          rw [hbs] at s2
          have HE := Lib.hid (HEND.out W2 v2 b (HMONO.out _ _ _ ⟨s2, m2, HNW.out⟩) HB4.out)
          clear s2 m2 t2 d2 hE hN hbs HEND HMONO HSE HBX
          go_wp2_with fail
          go_roundw
          case rel => exact HE.out
          case measure => simp [intOf]; omega
      have b1 : (kind == 1) = false := beq_false_of_ne hk1
      clear HSE HB1
      by_cases hk3 : kind = 3
      · subst hk3
        have HLS := Lib.hid S1.out.s.list
        clear HTA HB2
        go_wp2_with fail
        refine HLS.out.mono ?_
        rintro e W1a ⟨lx, lc, lb, lo, rfl, hlr, hln, t1a⟩
        have hbx1 := HBX.out W1 W1 (Tch.refl _ _) W1a (Tch.refl _ _) t1a
        clear q0 q1 q2 q3 q4 q5 q6 q7 q8 q9
        have q0 := blk_cell hbx1 0
        have q1 := blk_cell hbx1 1
        have q2 := blk_cell hbx1 2
        have q3 := blk_cell hbx1 3
        have q4 := blk_cell hbx1 4
        have q5 := blk_cell hbx1 5
        have q6 := blk_cell hbx1 6
        have q7 := blk_cell hbx1 7
        have q8 := blk_cell hbx1 8
        have q9 := blk_cell hbx1 9
        simp only [List.getElem?_toArray, List.getElem?_cons_zero, List.getElem?_cons_succ] at q0 q1 q2 q3 q4 q5 q6 q7 q8 q9
        have S1a := Lib.hid (S1.out.keep t1a)
        have HTA1 := Lib.hid t1a
        have HLR := Lib.hid (And.intro hlr hln)
        clear hlr hln t1a hbx1 HLS
        go_wp2_with fail
        refine (HDB.out W1a S1a.out).mono ?_
        rintro e W2 ⟨v2, rfl, s2, m2, t2, d2⟩
        have hbx := HBX.out W1a W2 HTA1.out W2 t2 (Tch.refl _ _)
        by_cases hh : b.has at_
        · by_cases hroom : b.list.length < 4096
          · have hE : b.dblE at_ = 0 := by unfold Bs.dblE Bs.sendE; rw [if_pos hh, if_pos hroom]
            have hN : b.dblN at_ = b.next := by unfold Bs.dblN Bs.sendN; rw [if_pos hh, if_pos hroom]
            rw [hE, hN]
            obtain ⟨i, rfl⟩ := Int.eq_ofNat_of_zero_le hh.1
            have hil : i < b.list.length := by have := hh.2; omega
            have hgi := List.getElem?_eq_getElem hil
            have hgd : b.list.getD (Int.toNat (i : Int)) lt0 = b.list[i] := by rw [Int.toNat_natCast, List.getD_eq_getElem?_getD, hgi]; rfl
            have hlr2 : IsR fLt 8 W2 lx b.list.length lb lo b.list := HLR.out.1.keep t2 (fun h0 hm => by
              have h1 := HLR.out.2 h0
              have h2 := S1.out.s.p.dom_lt _ hm
              omega)
            have hlx := hlr2.some_ (by omega)
            subst hlx
            obtain ⟨c0, c1, c2, c3, c4, c5, c6, c7⟩ := lt_cells hlr2 hgi
            have HSL : Hid ((b.dbl i).list = b.list ++ [b.list[i].num b.next]) := by show _ = _; unfold Bs.dbl; rw [if_pos hh, hgd]; exact Bs.send_list hroom _
            generalize b.list[i] = y at *
            clear q0 q1 q2 q3 q4 q5 q6 q7 q8 q9 hE hN hgd hlr2
            have q0 := blk_cell hbx 0
            have q1 := blk_cell hbx 1
            have q2 := blk_cell hbx 2
            have q3 := blk_cell hbx 3
            have q4 := blk_cell hbx 4
            have q5 := blk_cell hbx 5
            have q6 := blk_cell hbx 6
            have q7 := blk_cell hbx 7
            have q8 := blk_cell hbx 8
            have q9 := blk_cell hbx 9
            simp only [List.getElem?_toArray, List.getElem?_cons_zero, List.getElem?_cons_succ] at q0 q1 q2 q3 q4 q5 q6 q7 q8 q9
            have hiI : (i : Int) < (b.list.length : Int) := by omega
            have hi0 : (0 : Int) ≤ (i : Int) := by omega
            obtain ⟨W2a, hW2a⟩ : ∃ W, W = W2.alloc (.cells #[.int .i64 b.next, .int .i64 y.dst, .int .i64 y.ord, .int .i64 y.step, .int .i64 y.tr, .int .i64 y.kind, .int .i64 y.code, .string y.verb] 37) := ⟨_, rfl⟩
            have t2a : Tch [] W2 W2a := by rw [hW2a]; exact (Tch.refl _ _).alloc _
            have hba : W2a.heap[W2.heap.size]? = some (.cells #[.int .i64 b.next, .int .i64 y.dst, .int .i64 y.ord, .int .i64 y.step, .int .i64 y.tr, .int .i64 y.kind, .int .i64 y.code, .string y.verb] 37 (0, 0)) := by rw [hW2a]; exact blk_new _ _
            have H2 := Lib.hid (And.intro (s2.keep t2a) (And.intro (m2.keep t2a (by simp)) (And.intro d2 hba)))
            clear hbx s2 m2 t2 d2 t2a hba HDB HBX hroom hh HLR HTA1 S1a hgi
            go_upto_region 24 with fail
            rw [← hW2a]
            clear hW2a q0 q1 q2 q3 q4 q5 q6 q7 q8 q9 c0 c1 c2 c3 c4 c5 c6 c7
            have hbb := H2.out.2.2.2
            have q0 := blk_cell hbb 0
            have q1 := blk_cell hbb 1
            have q2 := blk_cell hbb 2
            have q3 := blk_cell hbb 3
            have q4 := blk_cell hbb 4
            have q5 := blk_cell hbb 5
            have q6 := blk_cell hbb 6
            have q7 := blk_cell hbb 7
            simp only [List.getElem?_toArray, List.getElem?_cons_zero, List.getElem?_cons_succ] at q0 q1 q2 q3 q4 q5 q6 q7
            have hm3 := H2.out.2.1
            clear hbb
            go_wp2_with (at_mapUpdate; refine wpList_store_mp _ rfl _ _ _ 52 rfl 37 Try.underlying52 mb k _ rfl hm3 (by unfold maxLen; omega) b.next rfl hwn ?_; intro w9 h9 t9)
            have h10 : IsMp w9 mb (updF (byId b.list) b.next (some (vLt (y.num b.next)))) (k + 1) := h9
            have HE := Lib.hid (HEND.out w9 v2 (b.dbl i) (KpSt.done HNW.out H2.out.1 H2.out.2.2.1 (h10.congr (fun z _ => by rw [HSL.out]; exact byId_snoc (fun z hz => HG.out.low z hz) z)) t9) HB3.out)
            clear h9 h10 t9 H2 HEND HMONO HSL hm3 q0 q1 q2 q3 q4 q5 q6 q7
            go_wp2_with fail
            go_roundw
            case rel => exact HE.out
            case measure => simp [intOf]; omega
          · have hE : b.dblE at_ = 72 := by unfold Bs.dblE Bs.sendE; rw [if_pos hh, if_neg hroom]
            have hbs : b.dbl at_ = b := by unfold Bs.dbl Bs.send; rw [if_pos hh, if_neg hroom]
            rw [hE]
            rw [hbs] at s2
            have HE := Lib.hid (HEND.out W2 v2 b (HMONO.out _ _ _ ⟨s2, m2, HNW.out⟩) HB4.out)
            clear s2 m2 t2 d2 hE hbs HEND HMONO HDB HBX hh hbx HLR HTA1 S1a q0 q1 q2 q3 q4 q5 q6 q7 q8 q9
            go_wp2_with fail
            go_roundw
            case rel => exact HE.out
            case measure => simp [intOf]; omega
        · have hE : b.dblE at_ = 70 := by unfold Bs.dblE; rw [if_neg hh]
          have hbs : b.dbl at_ = b := by unfold Bs.dbl; rw [if_neg hh]
          rw [hE]
          rw [hbs] at s2
          have HE := Lib.hid (HEND.out W2 v2 b (HMONO.out _ _ _ ⟨s2, m2, HNW.out⟩) HB4.out)
          clear s2 m2 t2 d2 hE hbs HEND HMONO HDB HBX hh hbx HLR HTA1 S1a q0 q1 q2 q3 q4 q5 q6 q7 q8 q9
          go_wp2_with fail
          go_roundw
          case rel => exact HE.out
          case measure => simp [intOf]; omega
      have b3 : (kind == 3) = false := beq_false_of_ne hk3
      clear HDB HB3
      by_cases hk2 : kind = 2
      · subst hk2
        clear HBX
        go_wp2_with fail
        refine (HTA.out W1 S1.out).mono ?_
        rintro e W2 ⟨v2, rfl, s2, m2, t2, d2⟩
        clear q0 q1 q2 q3 q4 q5 q6 q7 q8 q9
        by_cases hh : b.has at_
        · have hE : b.takeE at_ = 0 := by unfold Bs.takeE; rw [if_pos hh]
          obtain ⟨i, rfl⟩ := Int.eq_ofNat_of_zero_le hh.1
          have hil : i < b.list.length := by have := hh.2; omega
          have hgi := List.getElem?_eq_getElem hil
          have hL : b.takeL i = b.list[i] := by unfold Bs.takeL; rw [if_pos hh, Int.toNat_natCast, List.getD_eq_getElem?_getD, hgi]; rfl
          rw [hE, hL]
          have HTK : Hid ((b.take i).list = b.list.eraseIdx i) := by show _ = _; unfold Bs.take; rw [if_pos hh, Int.toNat_natCast]
          have hv1 : (byId b.list b.list[i].id).getD zLt = .agg #[.int .i64 b.list[i].id, .int .i64 b.list[i].dst, .int .i64 b.list[i].ord, .int .i64 b.list[i].step, .int .i64 b.list[i].tr, .int .i64 b.list[i].kind, .int .i64 b.list[i].code, .string b.list[i].verb] := by rw [find_some HG.out.num hgi]; rfl
          have HER := Lib.hid (byId_erase HG.out.num hgi)
          have hwi := HWF.out _ (List.getElem_mem hil)
          have hneq := fun W => neq_blt b.list[i].id b.list[i].dst b.list[i].ord b.list[i].step b.list[i].tr b.list[i].kind b.list[i].code b.list[i].verb W
          generalize b.list[i] = y at *
          obtain ⟨W2a, hW2a⟩ : ∃ W, W = W2.alloc (.cells #[.int .i64 y.id, .int .i64 y.dst, .int .i64 y.ord, .int .i64 y.step, .int .i64 y.tr, .int .i64 y.kind, .int .i64 y.code, .string y.verb] 37) := ⟨_, rfl⟩
          have t2a : Tch [] W2 W2a := by rw [hW2a]; exact (Tch.refl _ _).alloc _
          have hba : W2a.heap[W2.heap.size]? = some (.cells #[.int .i64 y.id, .int .i64 y.dst, .int .i64 y.ord, .int .i64 y.step, .int .i64 y.tr, .int .i64 y.kind, .int .i64 y.code, .string y.verb] 37 (0, 0)) := by rw [hW2a]; exact blk_new _ _
          have hm3 := m2.keep t2a (by simp)
          have H2 := Lib.hid (And.intro (s2.keep t2a) d2)
          have q0 := blk_cell hba 0
          have q1 := blk_cell hba 1
          have q2 := blk_cell hba 2
          have q3 := blk_cell hba 3
          have q4 := blk_cell hba 4
          have q5 := blk_cell hba 5
          have q6 := blk_cell hba 6
          have q7 := blk_cell hba 7
          simp only [List.getElem?_toArray, List.getElem?_cons_zero, List.getElem?_cons_succ] at q0 q1 q2 q3 q4 q5 q6 q7
          clear hba s2 m2 t2 d2 t2a hE hL hh hgi HTA
          go_upto_region 28 with fail
          rw [← hW2a]
          clear hW2a
          go_upto_if 96 with (at_lookup; refine wpList_lookup_mp _ rfl _ _ 52 rfl 37 Try.underlying52 (zero_lt _) mb k _ rfl hm3 y.id rfl hwi _ hv1 ?_)
          go_wp2_with (at_delete; refine wpList_delete_mp _ rfl _ _ 52 rfl 37 Try.underlying52 mb k _ rfl hm3 y.id rfl hwi ?_; intro w9 h9 t9)
          have HE := Lib.hid (HEND.out w9 v2 (b.take i) (KpSt.done HNW.out H2.out.1 H2.out.2 ((h9.mono (by omega : k ≤ k + 1)).congr (fun z _ => by rw [HTK.out]; exact HER.out z)) t9) HB2.out)
          clear h9 t9 H2 HEND HMONO HTK HER hm3 hneq hv1 q0 q1 q2 q3 q4 q5 q6 q7
          go_wp2_with fail
          go_roundw
          case rel => exact HE.out
          case measure => simp [intOf]; omega
        · have hE : b.takeE at_ = 70 := by unfold Bs.takeE; rw [if_neg hh]
          have hbs : b.take at_ = b := by unfold Bs.take; rw [if_neg hh]
          rw [hE]
          rw [hbs] at s2
          generalize b.takeL at_ = z at *
          obtain ⟨W2a, hW2a⟩ : ∃ W, W = W2.alloc (.cells #[.int .i64 z.id, .int .i64 z.dst, .int .i64 z.ord, .int .i64 z.step, .int .i64 z.tr, .int .i64 z.kind, .int .i64 z.code, .string z.verb] 37) := ⟨_, rfl⟩
          have t2a : Tch [] W2 W2a := by rw [hW2a]; exact (Tch.refl _ _).alloc _
          have HE := Lib.hid (HEND.out W2a v2 b (HMONO.out _ _ _ (KpSt.keep ⟨s2, m2, HNW.out⟩ t2a)) HB4.out)
          clear s2 m2 t2 d2 hE hbs HEND HMONO HTA hh t2a
          go_upto_region 27 with fail
          rw [← hW2a]
          clear hW2a
          go_wp2_with fail
          go_roundw
          case rel => exact HE.out
          case measure => simp [intOf]; omega
      have b2 : (kind == 2) = false := beq_false_of_ne hk2
      have HE := Lib.hid (HEND.out W1 v b (HMONO.out _ _ _ S1.out) HB4.out)
      clear HEND HMONO HTA HBX S1
      go_wp2_with fail
      go_roundw
      case rel => exact HE.out
      case measure => simp [intOf]; omega
    · have hd : decide (k < ops.length) = false := decide_eq_false hkl
      have HLS := Lib.hid st.s.list
      have ST := Lib.hid st
      clear st hbn HC HOK
      go_wp2_with fail
      refine HLS.out.mono ?_
      rintro e W5 ⟨lx, lc, lb, lo, rfl, hlr, hln, t5⟩
      have S5 := Lib.hid (ST.out.keep t5)
      have HR : Hid (∀ W, Tch [] W5 W → IsR fLt 8 W lx b.list.length lb lo b.list) := fun W t => hlr.keep0 t
      have hll : (b.list.length : Int) ≤ 4096 := by have := ST.out.s.g.len; omega
      clear hlr hln t5 HLS ST
      go_wp2_with fail
      go_loopw [104] (fun v104 wq => KqRel W5 b.list.length v104 wq) (fun v104 _ => b.list.length - (intOf v104).toNat)
      case atStart => exact ⟨0, by omega, rfl, Tch.refl _ _⟩
      case round =>
        obtain ⟨i, hi, rfl, T⟩ := hrel
        by_cases hil : i < b.list.length
        · have hd2 : decide (i < b.list.length) = true := decide_eq_true hil
          have hrw := HR.out wr T
          have hx := hrw.some_ (by omega)
          subst hx
          have hgi := List.getElem?_eq_getElem hil
          obtain ⟨c0, c1, c2, c3, c4, c5, c6, c7⟩ := lt_cells hrw hgi
          have hv1 : (byId b.list b.list[i].id).getD zLt = .agg #[.int .i64 b.list[i].id, .int .i64 b.list[i].dst, .int .i64 b.list[i].ord, .int .i64 b.list[i].step, .int .i64 b.list[i].tr, .int .i64 b.list[i].kind, .int .i64 b.list[i].code, .string b.list[i].verb] := by rw [find_some S5.out.s.g.num hgi]; rfl
          have hwi := HWF.out _ (List.getElem_mem hil)
          have hneq := fun W => neq_blt b.list[i].id b.list[i].dst b.list[i].ord b.list[i].step b.list[i].tr b.list[i].kind b.list[i].code b.list[i].verb W
          generalize b.list[i] = y at *
          obtain ⟨W2a, hW2a⟩ : ∃ W, W = wr.alloc (.cells #[.int .i64 y.id, .int .i64 y.dst, .int .i64 y.ord, .int .i64 y.step, .int .i64 y.tr, .int .i64 y.kind, .int .i64 y.code, .string y.verb] 37) := ⟨_, rfl⟩
          have t2a : Tch [] wr W2a := by rw [hW2a]; exact (Tch.refl _ _).alloc _
          have hba : W2a.heap[wr.heap.size]? = some (.cells #[.int .i64 y.id, .int .i64 y.dst, .int .i64 y.ord, .int .i64 y.step, .int .i64 y.tr, .int .i64 y.kind, .int .i64 y.code, .string y.verb] 37 (0, 0)) := by rw [hW2a]; exact blk_new _ _
          have hm3 := S5.out.m.keep (T.trans t2a) (by simp)
          have HR2 : Hid (KqRel W5 b.list.length (.int .i64 ((i + 1 : Nat) : Int)) W2a) := ⟨i + 1, by omega, rfl, T.trans t2a⟩
          clear hrw hgi T t2a
          go_upto_region 35 with fail
          rw [← hW2a]
          clear hW2a c0 c1 c2 c3 c4 c5 c6 c7
          have q0 := blk_cell hba 0
          have q1 := blk_cell hba 1
          have q2 := blk_cell hba 2
          have q3 := blk_cell hba 3
          have q4 := blk_cell hba 4
          have q5 := blk_cell hba 5
          have q6 := blk_cell hba 6
          have q7 := blk_cell hba 7
          simp only [List.getElem?_toArray, List.getElem?_cons_zero, List.getElem?_cons_succ] at q0 q1 q2 q3 q4 q5 q6 q7
          clear hba
          go_wp2_with (at_lookup; refine wpList_lookup_mp _ rfl _ _ 52 rfl 37 Try.underlying52 (zero_lt _) mb k _ rfl hm3 y.id rfl hwi _ hv1 ?_)
          go_roundw
          case rel => exact HR2.out
          case measure => simp [intOf]; omega
        · have hd2 : decide (i < b.list.length) = false := decide_eq_false hil
          have HLE := Lib.hid ((S5.out.keep T).s.len)
          have hm3 := S5.out.m.keep T (by simp)
          have HE := Lib.hid (HF.out wr (S5.out.keep T).s.t)
          have HND := Lib.hid (ids_nodup S5.out.s.g.num)
          have HWS : Hid (∀ x ∈ b.list.map Lt.id, (Lit.int .i64 x).wf = true) := fun x hx => by
            obtain ⟨y, hy, rfl⟩ := List.mem_map.1 hx
            exact HWF.out y hy
          have HLL : Hid ((b.list.map Lt.id).length = b.list.length) := by show _ = _; rw [List.length_map]
          have e1 : ((b.list.length : Int) == (b.list.length : Int)) = true := by simp
          have e2 : (b.list.length == b.list.length) = true := by simp
          clear T S5 HR hil hi HF
          go_wp2_with fail
          refine HLE.out.mono ?_
          rintro e w9 ⟨rfl, rfl⟩
          clear HLE
          go_wp2_with (at_len; refine wpList_len_mp _ rfl _ 52 rfl 37 Try.underlying52 mb k _ rfl hm3 HND.out HWS.out (fun x _ => byId_mem x) ?_; rw [HLL.out])
          first | exact HE.out | (go_ret; exact HE.out)
end Go.Proofs.Ytgdfbpgnknnkpaa
