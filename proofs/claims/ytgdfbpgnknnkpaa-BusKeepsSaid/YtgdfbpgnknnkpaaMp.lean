/-
  Maps whose keys are ints, their elements of whatever kind: a map as a function from numbers to values, and each operation on it. Plain; the program is named for the key's type alone.
-/
import Derived.Test.YtgdfbpgnknnkpaaCore
import Derived.Test.YtgdfbpgnknnkpaaRows
import Derived.Maps.OwnSet
import Derived.Maps.RangeWalk
namespace Go.Proofs.Ytgdfbpgnknnkpaa
open Go.RowKit Go.Maps
set_option linter.unusedVariables false

/-- Every value reads as itself. -/
def rv (v : Value) : Option (DataW Value × List MemPlace) := some (.held v, [])
theorem Try.keyI : Keyed Try.prog 3 := int_keyed Try.underlying3
/-- What a map's datum has under a number. -/
def mpf (D : DataW Value) (x : Int) : Option Value := match D.atKey (.int .i64 x) .nil with
  | .held v => some v
  | _ => none
/-- Block b is a map of at most n entries that has f x under x. -/
def IsMp (w : World) (b : Nat) (f : Int → Option Value) (n : Nat) : Prop := ∃ D, w.ownsMap Try.prog 3 rv b n D ∧ ∀ x, (Lit.int .i64 x).wf = true → f x = mpf D x
theorem keyI {x : Int} (h : (Lit.int .i64 x).wf = true) : keyOf Try.prog 3 (.int .i64 x) = some (.int .i64 x) := Maps.keyOf_int_mk Try.underlying3 h
theorem wfI {x : Int} (h1 : -9223372036854775808 ≤ x) (h2 : x ≤ 9223372036854775807) : (Lit.int .i64 x).wf = true := WalkArith.wf_i64 (by omega)
theorem isKeyI (x : Int) : WideAt.IsKeyLit (.int .i64 x) := trivial

/-- An element that is there reads as itself. -/
theorem mp_has {w : World} {b n : Nat} {D : DataW Value} (h : w.ownsMap Try.prog 3 rv b n D) {x : Int} (hx : (Lit.int .i64 x).wf = true) :
    (Maps.has D (.int .i64 x) = true ∧ ∃ v, mpf D x = some v ∧ ∀ z, D.atKey (.int .i64 x) z = .held v) ∨ (Maps.has D (.int .i64 x) = false ∧ mpf D x = none ∧ ∀ z, D.atKey (.int .i64 x) z = z) := by
  obtain ⟨es, clock, hb, F, _, rfl⟩ := h
  cases hh : Maps.has (DataW.map ((es.toList.map (Go.WideElems.rg Try.prog 3 rv)).foldr DataW.insert [])) (.int .i64 x)
  · right
    have := Maps.atKey_of_not_has hh
    exact ⟨rfl, by unfold mpf; rw [this], this⟩
  · left
    obtain ⟨p, hp, hpk⟩ := List.any_eq_true.1 hh
    have hs : (((es.toList.map (Go.WideElems.rg Try.prog 3 rv)).foldr DataW.insert []).find? (fun p => p.1.sameKey (.int .i64 x))).isSome = true := List.find?_isSome.2 ⟨p, hp, hpk⟩
    obtain ⟨q, hq⟩ := Option.isSome_iff_exists.1 hs
    have hqm := List.mem_of_find?_eq_some hq
    obtain ⟨e, he, rfl⟩ := List.mem_map.1 (mem_sorted.1 hqm)
    obtain ⟨y, hy⟩ := F.reads e he
    obtain ⟨z, hz, hzd⟩ := Go.WideElems.rd_val hy
    have hv : (Go.WideElems.rg Try.prog 3 rv e).2 = .held e.val := by
      rw [Go.WideElems.rg_of hy, hzd]
      unfold rv at hz
      cases hz
      rfl
    have hat : ∀ z, (DataW.map ((es.toList.map (Go.WideElems.rg Try.prog 3 rv)).foldr DataW.insert [])).atKey (.int .i64 x) z = .held e.val := fun z => by
      unfold DataW.atKey
      simp only [hq]; exact hv
    exact ⟨rfl, e.val, by unfold mpf; rw [hat], hat⟩

theorem IsMp.grown {w w' : World} {b n : Nat} {f : Int → Option Value} {row : Option Nat} (h : IsMp w b f n) (hg : w.grownBy w' row) (hne : some b ≠ row) : IsMp w' b f n := by
  obtain ⟨D, h1, h2⟩ := h; exact ⟨D, h1.kept hg hne, h2⟩
theorem IsMp.keep {w w' : World} {b n : Nat} {f : Int → Option Value} {L : List Nat} (h : IsMp w b f n) (t : Tch L w w') (hne : b ∉ L) : IsMp w' b f n := by
  obtain ⟨D, ⟨es, clock, hb, F, hs, hD⟩, h2⟩ := h
  exact ⟨D, ⟨es, clock, t.keep hb hne, F, hs, hD⟩, h2⟩
theorem IsMp.lt {w : World} {b n : Nat} {f : Int → Option Value} (h : IsMp w b f n) : b < w.heap.size := by obtain ⟨D, h1, _⟩ := h; exact h1.lt
theorem IsMp.mono {w : World} {b n m : Nat} {f : Int → Option Value} (h : IsMp w b f n) (hn : n ≤ m) : IsMp w b f m := by obtain ⟨D, h1, h2⟩ := h; exact ⟨D, h1.mono hn, h2⟩
theorem IsMp.ne {w : World} {b c n : Nat} {f : Int → Option Value} {cs : Array Value} {t : TypeId} {z : Nat × Nat} (h : IsMp w b f n) (hc : w.heap[c]? = some (.cells cs t z)) : b ≠ c := fun e => by
  obtain ⟨D, ⟨es, clock, hb, _⟩, _⟩ := h
  subst e; rw [hb] at hc; cases hc
/-- 'make(map[int]T)'. -/
theorem IsMp.made (w : World) : IsMp (w.alloc (.map #[] 0)) w.heap.size (fun _ => none) 0 := ⟨.map [], World.ownsMap_made _ _ _ _, fun x _ => by unfold mpf DataW.atKey; rfl⟩
/-- Only f counts. -/
theorem IsMp.congr {w : World} {b n : Nat} {f g : Int → Option Value} (h : IsMp w b f n) (hfg : ∀ x, (Lit.int .i64 x).wf = true → g x = f x) : IsMp w b g n := by
  obtain ⟨D, h1, h2⟩ := h; exact ⟨D, h1, fun x hx => (hfg x hx).trans (h2 x hx)⟩

section
variable {w : World} {b n : Nat} {f : Int → Option Value} {t e : TypeId} {z : Value}
/-- 'v, ok := m[x]'. -/
theorem IsMp.look_ok (h : IsMp w b f n) (ht : Try.prog.underlying t = some (.map 3 e)) (hz : (zeroValue e).run Try.prog w = .ok z w) {x : Int} (hx : (Lit.int .i64 x).wf = true) :
    (Instr.lookup t (.map (some b)) (.int .i64 x) true).run Try.prog w = .ok (.tuple #[(f x).getD z, .bool (f x).isSome]) w := by
  obtain ⟨D, h1, h2⟩ := h
  obtain ⟨v, ps, hr, hv⟩ := h1.look_ok Try.keyI ht hz (zd := .held z) (zp := []) rfl (keyI hx)
  rw [hr, h2 x hx]
  unfold rv at hv
  simp only [Option.some.injEq, Prod.mk.injEq] at hv
  rcases mp_has h1 hx with ⟨a1, u, a2, a3⟩ | ⟨a1, a2, a3⟩
  · rw [a3] at hv
    rw [a1, a2]
    have := hv.1
    cases this
    rfl
  · rw [a3] at hv
    rw [a1, a2]
    have := hv.1
    cases this
    rfl
/-- 'm[x]'. -/
theorem IsMp.look (h : IsMp w b f n) (ht : Try.prog.underlying t = some (.map 3 e)) (hz : (zeroValue e).run Try.prog w = .ok z w) {x : Int} (hx : (Lit.int .i64 x).wf = true) :
    (Instr.lookup t (.map (some b)) (.int .i64 x) false).run Try.prog w = .ok ((f x).getD z) w := by
  obtain ⟨D, h1, h2⟩ := h
  obtain ⟨v, ps, hr, hv⟩ := h1.lookup Try.keyI ht hz (zd := .held z) (zp := []) rfl (keyI hx)
  rw [hr, h2 x hx]
  unfold rv at hv
  simp only [Option.some.injEq, Prod.mk.injEq] at hv
  rcases mp_has h1 hx with ⟨a1, u, a2, a3⟩ | ⟨a1, a2, a3⟩
  · rw [a3] at hv
    rw [a2]
    have := hv.1
    cases this
    rfl
  · rw [a3] at hv
    rw [a2]
    have := hv.1
    cases this
    rfl
def updF (f : Int → Option Value) (x : Int) (v : Option Value) : Int → Option Value := fun y => if y = x then v else f y
/-- 'm[x] = v'. -/
theorem IsMp.store (h : IsMp w b f n) (ht : Try.prog.underlying t = some (.map 3 e)) (hn : n < maxLen) {x : Int} (hx : (Lit.int .i64 x).wf = true) (v : Value) :
    ∃ w', (Instr.mapUpdate t (.map (some b)) (.int .i64 x) v).run Try.prog w = .ok () w' ∧ IsMp w' b (updF f x (some v)) (n + 1) ∧ Tch [b] w w' := by
  obtain ⟨D, h1, h2⟩ := h
  obtain ⟨w', hr, h3, h4⟩ := h1.update Try.keyI ht hn (d := .held v) (ps := []) (keyI hx) rfl
  refine ⟨w', hr, ⟨_, h3, fun y hy => ?_⟩, ⟨h4.os, h4.tape, h4.output, h4.size, fun k hk hn => h4.block k hk (fun e => by cases e; simp at hn)⟩⟩
  unfold updF mpf
  by_cases hyx : y = x
  · subst hyx
    rw [if_pos rfl, Maps.atKey_put_same (h1.isMap) (isKeyI y)]
  · rw [if_neg hyx, Maps.atKey_put_other (by simp [hyx])]
    exact h2 y hy
/-- 'delete(m, x)'. -/
theorem IsMp.drop (h : IsMp w b f n) (ht : Try.prog.underlying t = some (.map 3 e)) {x : Int} (hx : (Lit.int .i64 x).wf = true) (ty : TypeId) :
    ∃ w', (Builtin.delete_ #[t, 3] ty #[.map (some b), .int .i64 x]).run Try.prog w = .ok (.tuple #[]) w' ∧ IsMp w' b (updF f x none) n ∧ Tch [b] w w' := by
  obtain ⟨D, h1, h2⟩ := h
  obtain ⟨w', hr, h3, h4⟩ := h1.drop Try.keyI ht (keyI hx) ty
  have h5 := h4.grown
  refine ⟨w', hr, ⟨_, h3, fun y hy => ?_⟩, ⟨h5.os, h5.tape, h5.output, h5.size, fun k hk hn => h5.block k hk (fun e => by cases e; simp at hn)⟩⟩
  unfold updF mpf
  by_cases hyx : y = x
  · subst hyx
    rw [if_pos rfl, Maps.atKey_del_same]
  · rw [if_neg hyx, Maps.atKey_del_other (by simp [hyx])]
    exact h2 y hy
/-- How many. -/
theorem mp_size {D : DataW Value} (h : w.ownsMap Try.prog 3 rv b n D) {S : List Int} (hS : S.Nodup) (hw : ∀ x ∈ S, (Lit.int .i64 x).wf = true) (hf : ∀ x, (Lit.int .i64 x).wf = true → (x ∈ S ↔ mpf D x ≠ none)) : Maps.size D = S.length := by
  obtain ⟨es, he, hd, hk⟩ := h.entries Try.keyI
  have h0 := h
  obtain ⟨es0, clock, hb, F, _, hD⟩ := h0
  have hint : ∀ p ∈ es, ∃ x, p.1 = .int .i64 x ∧ (Lit.int .i64 x).wf = true := fun p hp => by
    rw [hD] at he
    cases he
    obtain ⟨e, he, rfl⟩ := List.mem_map.1 (mem_sorted.1 hp)
    obtain ⟨y, hy⟩ := F.reads e he
    obtain ⟨x, _, hx, hw⟩ := Maps.keyOf_int_inv Try.underlying3 (Go.WideElems.rd_key hy)
    exact ⟨x, by rw [Go.WideElems.rg_of hy]; exact hx, hw⟩
  subst he
  show es.length = S.length
  have hhas : ∀ x, (Lit.int .i64 x).wf = true → (x ∈ S ↔ ∃ p ∈ es, p.1 = .int .i64 x) := fun x hx => by
    rw [hf x hx]
    rcases mp_has h hx with ⟨a1, u, a2, _⟩ | ⟨a1, a2, _⟩
    · rw [a2]
      obtain ⟨p, hp, hpk⟩ := List.any_eq_true.1 a1
      exact ⟨fun _ => ⟨p, hp, WideAt.sameKey_eq hpk⟩, fun _ => by simp⟩
    · rw [a2]
      refine ⟨fun hne => absurd rfl hne, fun ⟨p, hp, hpk⟩ => ?_⟩
      have := List.any_eq_false.1 a1 p hp
      rw [hpk] at this
      simp [Lit.sameKey] at this
  have h1 : (S.map fun x => Lit.int .i64 x).length ≤ (es.map Prod.fst).length := by
    refine List.Nodup.length_le_of_subset ?_ (fun l hl => ?_)
    · rw [List.nodup_iff_pairwise_ne, List.pairwise_map]
      exact (List.nodup_iff_pairwise_ne.1 hS).imp (fun hab e => hab (by cases e; rfl))
    · obtain ⟨x, hx, rfl⟩ := List.mem_map.1 hl
      obtain ⟨p, hp, hpk⟩ := (hhas x (hw x hx)).1 hx
      exact List.mem_map.2 ⟨p, hp, hpk⟩
  have h2 : (es.map Prod.fst).length ≤ (S.map fun x => Lit.int .i64 x).length := by
    refine List.Nodup.length_le_of_subset ?_ (fun l hl => ?_)
    · rw [List.nodup_iff_pairwise_ne, List.pairwise_map]
      exact hd
    · obtain ⟨p, hp, rfl⟩ := List.mem_map.1 hl
      obtain ⟨x, hx, hw⟩ := hint p hp
      exact List.mem_map.2 ⟨x, (hhas x hw).2 ⟨p, hp, hx⟩, hx.symm⟩
  simp only [List.length_map] at h1 h2
  omega
/-- 'len(m)'. -/
theorem IsMp.len (h : IsMp w b f n) (ht : Try.prog.underlying t = some (.map 3 e)) (ty : TypeId) {S : List Int} (hS : S.Nodup) (hw : ∀ x ∈ S, (Lit.int .i64 x).wf = true) (hf : ∀ x, (Lit.int .i64 x).wf = true → (x ∈ S ↔ f x ≠ none)) :
    (Builtin.len_ #[t] ty #[.map (some b)]).run Try.prog w = .ok (.int .i64 (S.length : Nat)) w := by
  obtain ⟨D, h1, h2⟩ := h
  rw [h1.len ht ty, mp_size h1 hS hw (fun x hx => by rw [hf x hx, h2 x hx])]
end

/-! ### ranging -/
/-- A loop over the map in block b is under way, its iterator in block r; 'seen' came already. -/
def RgAt (w : World) (b r : Nat) (f : Int → Option Value) (cnt : Nat) (seen : List Int) : Prop :=
  ∃ D left n, w.ranges Try.prog 3 rv b r n D left cnt ∧ (∀ x, (Lit.int .i64 x).wf = true → f x = mpf D x) ∧ seen.Nodup ∧ (∀ x ∈ seen, (Lit.int .i64 x).wf = true ∧ f x ≠ none) ∧ ∀ x, (Lit.int .i64 x).wf = true → left (.int .i64 x) = ((f x).isSome && decide (x ∉ seen))
theorem RgAt.keep {w w' : World} {b r cnt : Nat} {f : Int → Option Value} {seen : List Int} {L : List Nat} (h : RgAt w b r f cnt seen) (t : Tch L w w') (h1 : b ∉ L) (h2 : r ∉ L) : RgAt w' b r f cnt seen := by
  obtain ⟨D, left, n, hr, rest⟩ := h
  refine ⟨D, left, n, ?_, rest⟩
  obtain ⟨es, clock, since, sn, c0, hb, F, hs, hD, hri, r2⟩ := hr
  exact ⟨es, clock, since, sn, c0, t.keep hb h1, F, hs, hD, t.keep hri h2, r2⟩
theorem RgAt.left_eq {w : World} {b r cnt : Nat} {f : Int → Option Value} {seen : List Int} (h : RgAt w b r f cnt seen) : w.rangeLeft b r = cnt := by
  obtain ⟨D, left, n, hr, _⟩ := h; exact hr.left_eq
theorem RgAt.lt {w : World} {b r cnt : Nat} {f : Int → Option Value} {seen : List Int} (h : RgAt w b r f cnt seen) : b < w.heap.size ∧ r < w.heap.size ∧ r ≠ b := by
  obtain ⟨D, left, n, hr, _⟩ := h; exact ⟨hr.owns.lt, hr.lt, hr.ne⟩
theorem RgAt.neC {w : World} {b r c cnt : Nat} {f : Int → Option Value} {seen : List Int} {cs : Array Value} {t : TypeId} {z : Nat × Nat} (h : RgAt w b r f cnt seen) (hc : w.heap[c]? = some (.cells cs t z)) : c ≠ b ∧ c ≠ r := by
  obtain ⟨D, left, n, ⟨es, clock, since, sn, c0, hb, F, hs, hD, hri, r2⟩, _⟩ := h
  exact ⟨(fun e => by subst e; rw [hb] at hc; cases hc), (fun e => by subst e; rw [hri] at hc; cases hc)⟩
theorem RgAt.mp {w : World} {b r cnt : Nat} {f : Int → Option Value} {seen : List Int} (h : RgAt w b r f cnt seen) : ∃ n, IsMp w b f n := by
  obtain ⟨D, left, n, hr, h2, _⟩ := h; exact ⟨n, D, hr.owns, h2⟩

section
variable (w : World) {ops : Array Oper} {rest : List Oper} {o : Oper} {a : Act} {Q : Exit → Act → World → Prop}
theorem wpList_lookup_mp (hg : o.guard = none) (m x : Operand) (t : TypeId) (hop : o.op = Op.lookup t m x false) (e : TypeId) {z : Value} (ht : Try.prog.underlying t = some (.map 3 e)) (hz : (zeroValue e).run Try.prog w = .ok z w) (b n : Nat) (f : Int → Option Value)
    (hm : a.eval m = .map (some b)) (h : IsMp w b f n) (k : Int) (hx : a.eval x = .int .i64 k) (hk : (Lit.int .i64 k).wf = true) (val : Value) (hval : (f k).getD z = val) (hK : wpList Try.prog ops Q rest (a.put o.dst val) w) : wpList Try.prog ops Q (o :: rest) a w := by
  subst hval
  refine wpList_plain hg fun K' hK' => ?_
  unfold Oper.wp
  simp [execOp, hop, hm, hx, h.look ht hz hk, Result.andThen]
  exact hK' _ _ hK
theorem wpList_lookup_mp_ok (hg : o.guard = none) (m x : Operand) (t : TypeId) (hop : o.op = Op.lookup t m x true) (e : TypeId) {z : Value} (ht : Try.prog.underlying t = some (.map 3 e)) (hz : (zeroValue e).run Try.prog w = .ok z w) (b n : Nat) (f : Int → Option Value)
    (hm : a.eval m = .map (some b)) (h : IsMp w b f n) (k : Int) (hx : a.eval x = .int .i64 k) (hk : (Lit.int .i64 k).wf = true) (val : Value) (hval : (f k).getD z = val) (s : Bool) (hs : (f k).isSome = s) (hK : wpList Try.prog ops Q rest (a.put o.dst (.tuple #[val, .bool s])) w) : wpList Try.prog ops Q (o :: rest) a w := by
  subst hval; subst hs
  refine wpList_plain hg fun K' hK' => ?_
  unfold Oper.wp
  simp [execOp, hop, hm, hx, h.look_ok ht hz hk, Result.andThen]
  exact hK' _ _ hK
theorem wpList_store_mp (hg : o.guard = none) (m x v : Operand) (t : TypeId) (hop : o.op = Op.mapUpdate t m x v) (e : TypeId) (ht : Try.prog.underlying t = some (.map 3 e)) (b n : Nat) (f : Int → Option Value)
    (hm : a.eval m = .map (some b)) (h : IsMp w b f n) (hn : n < maxLen) (k : Int) (hx : a.eval x = .int .i64 k) (hk : (Lit.int .i64 k).wf = true) (hK : ∀ w', IsMp w' b (updF f k (some (a.eval v))) (n + 1) → Tch [b] w w' → wpList Try.prog ops Q rest (a.put o.dst undef) w') : wpList Try.prog ops Q (o :: rest) a w := by
  refine wpList_plain hg fun K' hK' => ?_
  obtain ⟨w', hr, h1, h2⟩ := h.store ht hn hk (a.eval v)
  unfold Oper.wp
  obtain ⟨vv, hvv⟩ : ∃ vv, vv = a.eval v := ⟨_, rfl⟩
  rw [← hvv] at hr h1
  simp [execOp, hop, hm, hx, ← hvv, hr, Result.andThen]
  rw [hvv] at h1
  exact hK' _ _ (hK w' h1 h2)
theorem wpList_delete_mp (hg : o.guard = none) (m x : Operand) (t : TypeId) (hop : o.op = Op.call { callee := Callee.builtin Builtin.delete, args := #[m, x], argTypes := #[t, 3] }) (e : TypeId) (ht : Try.prog.underlying t = some (.map 3 e)) (b n : Nat) (f : Int → Option Value)
    (hm : a.eval m = .map (some b)) (h : IsMp w b f n) (k : Int) (hx : a.eval x = .int .i64 k) (hk : (Lit.int .i64 k).wf = true) (hK : ∀ w', IsMp w' b (updF f k none) n → Tch [b] w w' → wpList Try.prog ops Q rest (a.put o.dst (.tuple #[])) w') : wpList Try.prog ops Q (o :: rest) a w := by
  refine wpList_plain hg fun K' hK' => ?_
  obtain ⟨w', hr, h1, h2⟩ := h.drop ht hk o.type
  unfold Oper.wp
  simp [execOp, hop, resolve, invoke, builtin, hm, hx, hr, Result.andThen]
  exact hK' _ _ (hK w' h1 h2)
theorem wpList_len_mp (hg : o.guard = none) (m : Operand) (t : TypeId) (hop : o.op = Op.call { callee := Callee.builtin Builtin.len, args := #[m], argTypes := #[t] }) (e : TypeId) (ht : Try.prog.underlying t = some (.map 3 e)) (b n : Nat) (f : Int → Option Value)
    (hm : a.eval m = .map (some b)) (h : IsMp w b f n) {S : List Int} (hS : S.Nodup) (hw : ∀ x ∈ S, (Lit.int .i64 x).wf = true) (hf : ∀ x, (Lit.int .i64 x).wf = true → (x ∈ S ↔ f x ≠ none)) (hK : wpList Try.prog ops Q rest (a.put o.dst (.int .i64 (S.length : Nat))) w) : wpList Try.prog ops Q (o :: rest) a w := by
  refine wpList_plain hg fun K' hK' => ?_
  unfold Oper.wp
  simp [execOp, hop, resolve, invoke, builtin, hm, h.len ht o.type hS hw hf, Result.andThen]
  exact hK' _ _ hK
theorem wpList_range_mp (hg : o.guard = none) (m : Operand) (t : TypeId) (hop : o.op = Op.range t m) (e : TypeId) (ht : Try.prog.underlying t = some (.map 3 e)) (b n : Nat) (f : Int → Option Value)
    (hm : a.eval m = .map (some b)) (h : IsMp w b f n) (hK : ∀ w' cnt, RgAt w' b w.heap.size f cnt [] → Tch [] w w' → w'.heap.size = w.heap.size + 1 → wpList Try.prog ops Q rest (a.put o.dst (.pointer (some ⟨w.heap.size, 0, none⟩))) w') : wpList Try.prog ops Q (o :: rest) a w := by
  obtain ⟨D, h1, h2⟩ := h
  refine wpList_range_own w hg m t hop 3 e Try.keyI ht rv b n D hm h1 (fun w' r1 r2 r3 => ?_)
  refine hK w' _ ⟨D, _, n, r1, h2, by simp, by simp, fun x hx => ?_⟩ ⟨r2.os, r2.tape, r2.output, r2.size, fun k hk _ => r2.block k hk (by simp)⟩ r3
  rw [h2 x hx]
  rcases mp_has h1 hx with ⟨a1, u, a2, _⟩ | ⟨a1, a2, _⟩
  · rw [a1, a2]; rfl
  · rw [a1, a2]; rfl
theorem wpList_next_mp (hg : o.guard = none) (it : Operand) (hop : o.op = Op.next it false) (b r : Nat) (f : Int → Option Value) (cnt : Nat) (seen : List Int) (hit : a.eval it = .pointer (some ⟨r, 0, none⟩)) (h : RgAt w b r f cnt seen)
    (hDone : (∀ x, (Lit.int .i64 x).wf = true → f x ≠ none → x ∈ seen) → wpList Try.prog ops Q rest (a.put o.dst (.tuple #[.bool false])) w)
    (hMore : ∀ (x : Int) (v : Value) (w' : World) (cnt' : Nat), (Lit.int .i64 x).wf = true → f x = some v → x ∉ seen → RgAt w' b r f cnt' (seen ++ [x]) → cnt' < cnt → Tch [r] w w' → w'.heap.size = w.heap.size →
      (Instr.entry (.pointer (some ⟨r, 0, none⟩))).run Try.prog w' = .ok (.tuple #[.int .i64 x, v]) w' → wpList Try.prog ops Q rest (a.put o.dst (.tuple #[.bool true, .int .i64 x, v])) w') :
    wpList Try.prog ops Q (o :: rest) a w := by
  obtain ⟨D, left, n, hr, h2, h3, h4, h5⟩ := h
  refine wpList_next_ranges w hg it hop 3 Try.keyI rv (Value.int .i64) id (fun key kl hkey => by obtain ⟨x, rfl, _⟩ := Maps.keyOf_int_inv Try.underlying3 hkey; exact ⟨x, rfl⟩) (fun v y hv => ⟨v, rfl⟩) b r n D left cnt hit hr (fun _ hl => hDone fun x hx hne => ?_) (fun x c kl y w' cnt' hkey hlk hv hat hrg hlt hgr hsz hen => ?_)
  · have h6 := h5 x hx
    rw [hl] at h6
    cases hfx : f x with
    | none => exact absurd hfx hne
    | some v => rw [hfx] at h6; simpa using h6
  · obtain ⟨x', ex, rfl, hwx⟩ := Maps.keyOf_int_inv Try.underlying3 hkey
    cases ex
    have h6 := h5 x hwx
    rw [hlk] at h6
    have hfx : f x = some c := by
      rw [h2 x hwx]
      unfold mpf
      rw [hat]
      unfold rv at hv
      simp only [id, Option.some.injEq] at hv
      rw [← hv]
    have hns : x ∉ seen := by rw [hfx] at h6; simpa using h6.symm
    refine hMore x c w' cnt' hwx hfx hns ⟨D, _, n, hrg, h2, ?_, fun y hy => ?_, fun y hy => ?_⟩ hlt ⟨hgr.os, hgr.tape, hgr.output, hgr.size, fun k hk hn => hgr.block k hk (fun e => by cases e; simp at hn)⟩ hsz hen
    · rw [List.nodup_append]
      refine ⟨h3, by simp, fun a ha b hb hab => ?_⟩
      simp only [List.mem_singleton] at hb
      subst hb; subst hab
      exact hns ha
    · rcases List.mem_append.1 hy with hy | hy
      · exact h4 y hy
      · simp only [List.mem_singleton] at hy; subst hy; exact ⟨hwx, by rw [hfx]; simp⟩
    · show (left (.int .i64 y) && !(Lit.int .i64 y).sameKey (.int .i64 x)) = _
      rw [h5 y hy]
      simp only [Lit.sameKey, List.mem_append, List.mem_singleton, not_or, true_and]
      cases (f y).isSome
      · simp
      · by_cases hyx : y = x <;> by_cases hys : y ∈ seen <;> simp [hyx, hys]
end
end Go.Proofs.Ytgdfbpgnknnkpaa
