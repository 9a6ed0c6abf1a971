/-
  Nodes of a call's own, that grow: a block with a node's four cells, and its rows in blocks of their own, apart from one another. Plain notions, and 'append' onto one of the rows.
-/
import Derived.Test.YtlgfdfpafmopdaaNwi
import Derived.StillTailTactics
import Derived.Deep.RegionHeld3
import Derived.Deep.RegionLaw
import Derived.Deep.CutRange
namespace Go.Proofs.Ytlgfdfpafmopdaa
open Go.RowKit
set_option linter.unusedVariables false

section
variable {P : Program} (w : World)
/-- What 'append' answers lies where the row lay, or in new memory. -/
theorem run_append_place (base : Nat) (t ty e : TypeId) (i : TypeInfo) (z : Value) (size bytes : Nat) (ht : P.underlying t = some (.slice e)) (hi : P.info? e = some i) (hz : i.zero = some z)
    (hsize : i.size = size) (hby : i.bytes = bytes) (hzs : z.cells.size = size) (hsz : 0 < size)
    (v : Value) (n : Nat) (xs : List Value) (hown : w.ownsRow base e size v n xs)
    (a : Addr) (m c : Nat) (news : List Value) (hl : news.length = m * size) (hnews : ∀ j u, news[j]? = some u → w.cell? (a.add j) = some u) (h1 : ∀ u ∈ news, u.oneCell' = true)
    (hm : 0 < m) (h63 : n + m ≤ maxLen) (hbytes : (n + m) * bytes ≤ 140737488355328) {v' : Value} {w' : World}
    (hr : (Builtin.append_ #[t, t] ty #[v, .slice (some a) m c]).run P w = .ok v' w') : v'.ownBlock = v.ownBlock ∨ ∃ k, v'.ownBlock = some k ∧ w.heap.size ≤ k := by
  subst hsize
  subst hby
  have hsmall : n + m ≤ 9223372036854775807 := by simp only [maxLen] at h63; omega
  rcases hown.2 with ⟨rfl, rfl⟩ | ⟨g, cap, cur, rfl, hbg, hg, hnc, hcm, hcs, htake⟩
  · have h2 := run_append_nil (P := P) w t ty e i z ht hi hz a m c news hl hnews (by omega) (by omega) (by have hb := hbytes; simp only [Nat.zero_add] at hb; omega)
    rw [hr] at h2
    cases h2
    exact Or.inr ⟨_, rfl, Nat.le_refl _⟩
  · by_cases hroom : n + m ≤ cap
    · have hfit : n * i.size + news.length ≤ cur.size := by rw [hl, hcs, ← Nat.add_mul]; exact Nat.mul_le_mul_right _ hroom
      have h2 := run_append_room (P := P) w t ty e i ht hi g n cap cur hg a m c news hl hnews h1 hroom hfit
      rw [hr] at h2
      cases h2
      exact Or.inl rfl
    · have holds : ∀ j u, xs[j]? = some u → w.cell? ((⟨g, 0, none⟩ : Addr).add j) = some u := hown.cells (g := g) rfl
      have h2 := run_append_grow (P := P) w t ty e i z ht hi hz ⟨g, 0, none⟩ n cap xs hown.1 holds a m c news hl hnews (by omega) (by omega) (growslice_fits (by omega) hbytes)
      rw [hr] at h2
      cases h2
      exact Or.inr ⟨_, rfl, Nat.le_refl _⟩
/-- 'append' onto a row of the call's own; what it answers lies where the row lay, or in new memory. -/
theorem wpList_append_apart {ops : Array Oper} {rest : List Oper} {o : Oper} {a : Act} {Q : Exit → Act → World → Prop} (hgd : o.guard = none) (s x : Operand) (t : TypeId)
    (ho : o.op = .call { callee := .builtin .append, args := #[s, x], argTypes := #[t, t] })
    (base : Nat) (e : TypeId) (i : TypeInfo) (z : Value) (size bytes : Nat) (ht : P.underlying t = some (.slice e)) (hi : P.info? e = some i) (hz : i.zero = some z)
    (hsize : i.size = size) (hby : i.bytes = bytes) (hzs : z.cells.size = size) (hsz : 0 < size)
    (v : Value) (n : Nat) (xs : List Value) (hs : a.eval s = v) (hown : w.ownsRow base e size v n xs)
    (ad : Addr) (m c : Nat) (news : List Value) (hx : a.eval x = .slice (some ad) m c) (hl : news.length = m * size) (hnews : ∀ j u, news[j]? = some u → w.cell? (ad.add j) = some u) (h1 : ∀ u ∈ news, u.oneCell' = true)
    (hm : 0 < m) (h63 : n + m ≤ maxLen) (hbytes : (n + m) * bytes ≤ 140737488355328) (hbase : base ≤ w.heap.size)
    (h : ∀ v' w', w'.ownsRow base e size v' (n + m) (xs ++ news) → w.grownBy w' v.ownBlock → (v'.ownBlock = v.ownBlock ∨ ∃ k, v'.ownBlock = some k ∧ w.heap.size ≤ k) → wpList P ops Q rest (a.put o.dst v') w') : wpList P ops Q (o :: rest) a w :=
  wpList_plain hgd fun _ hK => by
    obtain ⟨v', w', hr, h2, h3, h4⟩ := run_append_own (P := P) w base t o.type e i z size bytes ht hi hz hsize hby hzs hsz v n xs hown ad m c news hl hnews h1 h63 hbytes hbase
    have h5 := run_append_place (P := P) w base t o.type e i z size bytes ht hi hz hsize hby hzs hsz v n xs hown ad m c news hl hnews h1 hm h63 hbytes hr
    unfold Oper.wp execOp
    simp only [ho, resolve, invoke, builtin, Sem.run_bind, Sem.run_pure, Result.andThen_ok, List.map_toArray, List.map_cons, List.map_nil, hs, hx, hr]
    exact hK _ _ (h v' w' h2 h3 h5)
/-- .. as a step of a region that draws its order. -/
theorem step_append_apart {P : Program} {ops : Array Oper} {oo : Oper} {ac : Act} {w : World} {K : Act → World → Prop} {Q : Exit → Act → World → Prop} {E : Prop} (hgd : oo.guard = none) (s x : Operand) (t : TypeId)
    (ho : oo.op = .call { callee := .builtin .append, args := #[s, x], argTypes := #[t, t] })
    (base : Nat) (e : TypeId) (i : TypeInfo) (z : Value) (size bytes : Nat) (ht : P.underlying t = some (.slice e)) (hi : P.info? e = some i) (hz : i.zero = some z)
    (hsize : i.size = size) (hby : i.bytes = bytes) (hzs : z.cells.size = size) (hsz : 0 < size)
    (v : Value) (n : Nat) (xs : List Value) (hs : ac.eval s = v) (hown : w.ownsRow base e size v n xs)
    (ad : Addr) (m c : Nat) (news : List Value) (hx : ac.eval x = .slice (some ad) m c) (hl : news.length = m * size) (hnews : ∀ j u, news[j]? = some u → w.cell? (ad.add j) = some u) (h1 : ∀ u ∈ news, u.oneCell' = true)
    (hm : 0 < m) (h63 : n + m ≤ maxLen) (hbytes : (n + m) * bytes ≤ 140737488355328) (hbase : base ≤ w.heap.size)
    (h : ∀ v' w', w'.ownsRow base e size v' (n + m) (xs ++ news) → w.grownBy w' v.ownBlock → (v'.ownBlock = v.ownBlock ∨ ∃ k, v'.ownBlock = some k ∧ w.heap.size ≤ k) → K (ac.put oo.dst v') w') :
    if Region.wanted oo (yielded ops ac.tmps) = true then Oper.wp P oo ac w K Q else E := by
  have hw : Region.wanted oo (yielded ops ac.tmps) = true := by simp [Region.wanted, hgd]
  rw [if_pos hw]
  obtain ⟨v', w', hr, h2, h3, h4⟩ := run_append_own (P := P) w base t oo.type e i z size bytes ht hi hz hsize hby hzs hsz v n xs hown ad m c news hl hnews h1 h63 hbytes hbase
  have h5 := run_append_place (P := P) w base t oo.type e i z size bytes ht hi hz hsize hby hzs hsz v n xs hown ad m c news hl hnews h1 hm h63 hbytes hr
  unfold Oper.wp execOp
  simp only [ho, resolve, invoke, builtin, Sem.run_bind, Sem.run_pure, Result.andThen_ok, List.map_toArray, List.map_cons, List.map_nil, hs, hx, hr]
  exact h v' w' h2 h3 h5
end

/-- These two rows lie apart. -/
def Apart (x y : Value) : Prop := ∀ b, x.ownBlock = some b → y.ownBlock ≠ some b
theorem Apart.symm {x y : Value} (h : Apart x y) : Apart y x := fun b h1 h2 => h b h2 h1
theorem Apart.nil (y : Value) : Apart (.slice none 0 0) y := fun b h => by simp [Value.ownBlock] at h
theorem Apart.kept {x y : Value} (h : Apart x y) : y.ownBlock = none ∨ y.ownBlock ≠ x.ownBlock := by
  rcases hy : y.ownBlock with _ | b
  · exact Or.inl rfl
  · exact Or.inr (fun e => h b e.symm hy)
theorem Apart.grow {x y x' : Value} {n : Nat} (h : Apart x y) (hy : ∀ b, y.ownBlock = some b → b < n) (hx : x'.ownBlock = x.ownBlock ∨ ∃ k, x'.ownBlock = some k ∧ n ≤ k) : Apart x' y := fun b h1 h2 => by
  rcases hx with e | ⟨k, e, hk⟩
  · exact h b (e.symm.trans h1) h2
  · rw [e] at h1; cases h1; have := hy b h2; omega

/-- The node in block nb is of a call's own: its rows lie in blocks from B on, apart from one another. -/
structure OwV (B nb : Nat) (leaf : Bool) (kv vv iv : Value) (ks vs : List ByteArray) (is : List Int) (w : World) : Prop where
  hb : w.heap[nb]? = some (.cells #[.bool leaf, kv, vv, iv] 25 (0, 0))
  hk : w.ownsRow B 9 1 kv ks.length (ks.map Value.string)
  hv : w.ownsRow B 9 1 vv vs.length (vs.map Value.string)
  hi : w.ownsRow B 3 1 iv is.length (is.map (Value.int .i64))
  akv : Apart kv vv
  aki : Apart kv iv
  avi : Apart vv iv
theorem own_noNode {B b : Nat} {e T : TypeId} {v : Value} {n : Nat} {xs : List Value} {w : World} {cs : Array Value} {f : Nat × Nat} (hr : w.ownsRow B e 1 v n xs) (hb : w.heap[b]? = some (.cells cs T f)) (hne : e ≠ T) : v.ownBlock ≠ some b := fun hs => by
  rcases hr.2 with ⟨rfl, _⟩ | ⟨g, cap, cur, rfl, _, hg, _⟩
  · simp [Value.ownBlock] at hs
  · simp only [Value.ownBlock, Option.some.injEq] at hs
    subst hs
    rw [hb] at hg
    simp only [Option.some.injEq, Obj.cells.injEq] at hg
    exact hne hg.2.1.symm
theorem OwV.nk {B nb : Nat} {leaf : Bool} {kv vv iv : Value} {ks vs : List ByteArray} {is : List Int} {w : World} (h : OwV B nb leaf kv vv iv ks vs is w) : kv.ownBlock ≠ some nb ∧ vv.ownBlock ≠ some nb ∧ iv.ownBlock ≠ some nb := by
  exact ⟨own_noNode h.hk h.hb (by decide), own_noNode h.hv h.hb (by decide), own_noNode h.hi h.hb (by decide)⟩
theorem OwV.keep {B nb : Nat} {leaf : Bool} {kv vv iv : Value} {ks vs : List ByteArray} {is : List Int} {w w' : World} (h : OwV B nb leaf kv vv iv ks vs is w) (t : Tch [] w w') : OwV B nb leaf kv vv iv ks vs is w' :=
  ⟨t.keep h.hb (by simp), own_keep h.hk t (fun _ _ => by simp), own_keep h.hv t (fun _ _ => by simp), own_keep h.hi t (fun _ _ => by simp), h.akv, h.aki, h.avi⟩
theorem OwV.addK {B nb : Nat} {leaf : Bool} {kv vv iv : Value} {ks vs : List ByteArray} {is : List Int} {wr wa w2 : World} {v' : Value} (h : OwV B nb leaf kv vv iv ks vs is wr) (hB : B ≤ nb) (ta : Tch [] wr wa) (s : ByteArray)
    (ho : w2.ownsRow B 9 1 v' (ks.length + 1) (ks.map Value.string ++ [Value.string s])) (hg : wa.grownBy w2 kv.ownBlock) (hp : v'.ownBlock = kv.ownBlock ∨ ∃ k, v'.ownBlock = some k ∧ wa.heap.size ≤ k) :
    w2.heap[nb]? = some (.cells #[.bool leaf, kv, vv, iv] 25 (0, 0)) ∧ OwV B nb leaf v' vv iv (ks ++ [s]) vs is (w2.setCell ⟨nb, 1, none⟩ v') ∧ Below B wr (w2.setCell ⟨nb, 1, none⟩ v') ∧ ∀ q cs, q ≠ nb → wr.heap[q]? = some (.cells cs 25 (0, 0)) → (w2.setCell ⟨nb, 1, none⟩ v').heap[q]? = some (.cells cs 25 (0, 0)) := by
  have ha := h.keep ta
  have hn := ha.nk
  have hlt := lt_of_block ha.hb
  have hb2 : w2.heap[nb]? = some (.cells #[.bool leaf, kv, vv, iv] 25 (0, 0)) := by
    rw [hg.block nb hlt (fun e => hn.1 e.symm)]; exact ha.hb
  have ts : Tch [nb] w2 (w2.setCell ⟨nb, 1, none⟩ v') := (Tch.refl [nb] w2).setCell (by simp) _
  have hn2 : v'.ownBlock ≠ some nb := fun e => by
    rcases hp with h1 | ⟨k, h1, h2⟩
    · exact hn.1 (h1.symm.trans e)
    · rw [e] at h1; cases h1; omega
  have kk : ∀ {e : TypeId} {v : Value} {n : Nat} {xs : List Value}, wa.ownsRow B e 1 v n xs → Apart kv v → v.ownBlock ≠ some nb → (w2.setCell ⟨nb, 1, none⟩ v').ownsRow B e 1 v n xs := fun hr hap hne =>
    own_keep (hr.kept hg hap.kept) ts (fun k hk hm => by simp only [List.mem_singleton] at hm; subst hm; exact hne hk)
  have hnew : (w2.setCell ⟨nb, 1, none⟩ v').ownsRow B 9 1 v' (ks ++ [s]).length ((ks ++ [s]).map Value.string) := by
    rw [List.length_append, List.map_append]
    exact own_keep ho ts (fun k hk hm => by simp only [List.mem_singleton] at hm; subst hm; exact hn2 hk)
  have lt : ∀ {e : TypeId} {v : Value} {n : Nat} {xs : List Value}, wa.ownsRow B e 1 v n xs → ∀ b, v.ownBlock = some b → b < wa.heap.size := fun hr b hb => (hr.lt b hb).2
  have hnq : ∀ q cs, q ≠ nb → wr.heap[q]? = some (.cells cs 25 (0, 0)) → (w2.setCell ⟨nb, 1, none⟩ v').heap[q]? = some (.cells cs 25 (0, 0)) := fun q cs hq hc => by
    have hq1 := ta.keep hc (by simp)
    have hq2 : w2.heap[q]? = some (.cells cs 25 (0, 0)) := by
      rw [hg.block q (lt_of_block hq1) (fun e => own_noNode ha.hk hq1 (by decide) e.symm)]; exact hq1
    exact blk_other hq2 hq _ _
  refine ⟨hb2, ⟨blk_set hb2 1 _, hnew, kk ha.hv ha.akv hn.2.1, kk ha.hi ha.aki hn.2.2, ha.akv.grow (lt ha.hv) hp, ha.aki.grow (lt ha.hi) hp, ha.avi⟩, ?_, hnq⟩
  have hrow : ∀ k, kv.ownBlock = some k → B ≤ k := fun k hk => (ha.hk.lt k hk).1
  refine ⟨hg.os.trans ta.os, hg.tape.trans ta.tape, hg.output.trans ta.output, ?_, fun k hk => ?_⟩
  · have h1 := hg.size
    have h2 := ta.size
    simp [World.setCell]; omega
  · have hl2 : nb < wr.heap.size := lt_of_block h.hb
    rw [ts.block k (by have := hg.size; omega) (by simp; omega), hg.block k (by omega) (fun e => by have := hrow k e.symm; omega)]
    exact ta.block k (by omega) (by simp)
theorem OwV.addV {B nb : Nat} {leaf : Bool} {kv vv iv : Value} {ks vs : List ByteArray} {is : List Int} {wr wa w2 : World} {v' : Value} (h : OwV B nb leaf kv vv iv ks vs is wr) (hB : B ≤ nb) (ta : Tch [] wr wa) (s : ByteArray)
    (ho : w2.ownsRow B 9 1 v' (vs.length + 1) (vs.map Value.string ++ [Value.string s])) (hg : wa.grownBy w2 vv.ownBlock) (hp : v'.ownBlock = vv.ownBlock ∨ ∃ k, v'.ownBlock = some k ∧ wa.heap.size ≤ k) :
    w2.heap[nb]? = some (.cells #[.bool leaf, kv, vv, iv] 25 (0, 0)) ∧ OwV B nb leaf kv v' iv ks (vs ++ [s]) is (w2.setCell ⟨nb, 2, none⟩ v') ∧ Below B wr (w2.setCell ⟨nb, 2, none⟩ v') ∧ ∀ q cs, q ≠ nb → wr.heap[q]? = some (.cells cs 25 (0, 0)) → (w2.setCell ⟨nb, 2, none⟩ v').heap[q]? = some (.cells cs 25 (0, 0)) := by
  have ha := h.keep ta
  have hn := ha.nk
  have hlt := lt_of_block ha.hb
  have hb2 : w2.heap[nb]? = some (.cells #[.bool leaf, kv, vv, iv] 25 (0, 0)) := by
    rw [hg.block nb hlt (fun e => hn.2.1 e.symm)]; exact ha.hb
  have ts : Tch [nb] w2 (w2.setCell ⟨nb, 2, none⟩ v') := (Tch.refl [nb] w2).setCell (by simp) _
  have hn2 : v'.ownBlock ≠ some nb := fun e => by
    rcases hp with h1 | ⟨k, h1, h2⟩
    · exact hn.2.1 (h1.symm.trans e)
    · rw [e] at h1; cases h1; omega
  have kk : ∀ {e : TypeId} {v : Value} {n : Nat} {xs : List Value}, wa.ownsRow B e 1 v n xs → Apart vv v → v.ownBlock ≠ some nb → (w2.setCell ⟨nb, 2, none⟩ v').ownsRow B e 1 v n xs := fun hr hap hne =>
    own_keep (hr.kept hg hap.kept) ts (fun k hk hm => by simp only [List.mem_singleton] at hm; subst hm; exact hne hk)
  have hnew : (w2.setCell ⟨nb, 2, none⟩ v').ownsRow B 9 1 v' (vs ++ [s]).length ((vs ++ [s]).map Value.string) := by
    rw [List.length_append, List.map_append]
    exact own_keep ho ts (fun k hk hm => by simp only [List.mem_singleton] at hm; subst hm; exact hn2 hk)
  have lt : ∀ {e : TypeId} {v : Value} {n : Nat} {xs : List Value}, wa.ownsRow B e 1 v n xs → ∀ b, v.ownBlock = some b → b < wa.heap.size := fun hr b hb => (hr.lt b hb).2
  have hnq : ∀ q cs, q ≠ nb → wr.heap[q]? = some (.cells cs 25 (0, 0)) → (w2.setCell ⟨nb, 2, none⟩ v').heap[q]? = some (.cells cs 25 (0, 0)) := fun q cs hq hc => by
    have hq1 := ta.keep hc (by simp)
    have hq2 : w2.heap[q]? = some (.cells cs 25 (0, 0)) := by
      rw [hg.block q (lt_of_block hq1) (fun e => own_noNode ha.hv hq1 (by decide) e.symm)]; exact hq1
    exact blk_other hq2 hq _ _
  refine ⟨hb2, ⟨blk_set hb2 2 _, kk ha.hk ha.akv.symm hn.1, hnew, kk ha.hi ha.avi hn.2.2, (ha.akv.symm.grow (lt ha.hk) hp).symm, ha.aki, ha.avi.grow (lt ha.hi) hp⟩, ?_, hnq⟩
  have hrow : ∀ k, vv.ownBlock = some k → B ≤ k := fun k hk => (ha.hv.lt k hk).1
  refine ⟨hg.os.trans ta.os, hg.tape.trans ta.tape, hg.output.trans ta.output, ?_, fun k hk => ?_⟩
  · have h1 := hg.size
    have h2 := ta.size
    simp [World.setCell]; omega
  · have hl2 : nb < wr.heap.size := lt_of_block h.hb
    rw [ts.block k (by have := hg.size; omega) (by simp; omega), hg.block k (by omega) (fun e => by have := hrow k e.symm; omega)]
    exact ta.block k (by omega) (by simp)
theorem OwV.addI {B nb : Nat} {leaf : Bool} {kv vv iv : Value} {ks vs : List ByteArray} {is : List Int} {wr wa w2 : World} {v' : Value} (h : OwV B nb leaf kv vv iv ks vs is wr) (hB : B ≤ nb) (ta : Tch [] wr wa) (s : Int)
    (ho : w2.ownsRow B 3 1 v' (is.length + 1) (is.map (Value.int .i64) ++ [(Value.int .i64) s])) (hg : wa.grownBy w2 iv.ownBlock) (hp : v'.ownBlock = iv.ownBlock ∨ ∃ k, v'.ownBlock = some k ∧ wa.heap.size ≤ k) :
    w2.heap[nb]? = some (.cells #[.bool leaf, kv, vv, iv] 25 (0, 0)) ∧ OwV B nb leaf kv vv v' ks vs (is ++ [s]) (w2.setCell ⟨nb, 3, none⟩ v') ∧ Below B wr (w2.setCell ⟨nb, 3, none⟩ v') ∧ ∀ q cs, q ≠ nb → wr.heap[q]? = some (.cells cs 25 (0, 0)) → (w2.setCell ⟨nb, 3, none⟩ v').heap[q]? = some (.cells cs 25 (0, 0)) := by
  have ha := h.keep ta
  have hn := ha.nk
  have hlt := lt_of_block ha.hb
  have hb2 : w2.heap[nb]? = some (.cells #[.bool leaf, kv, vv, iv] 25 (0, 0)) := by
    rw [hg.block nb hlt (fun e => hn.2.2 e.symm)]; exact ha.hb
  have ts : Tch [nb] w2 (w2.setCell ⟨nb, 3, none⟩ v') := (Tch.refl [nb] w2).setCell (by simp) _
  have hn2 : v'.ownBlock ≠ some nb := fun e => by
    rcases hp with h1 | ⟨k, h1, h2⟩
    · exact hn.2.2 (h1.symm.trans e)
    · rw [e] at h1; cases h1; omega
  have kk : ∀ {e : TypeId} {v : Value} {n : Nat} {xs : List Value}, wa.ownsRow B e 1 v n xs → Apart iv v → v.ownBlock ≠ some nb → (w2.setCell ⟨nb, 3, none⟩ v').ownsRow B e 1 v n xs := fun hr hap hne =>
    own_keep (hr.kept hg hap.kept) ts (fun k hk hm => by simp only [List.mem_singleton] at hm; subst hm; exact hne hk)
  have hnew : (w2.setCell ⟨nb, 3, none⟩ v').ownsRow B 3 1 v' (is ++ [s]).length ((is ++ [s]).map (Value.int .i64)) := by
    rw [List.length_append, List.map_append]
    exact own_keep ho ts (fun k hk hm => by simp only [List.mem_singleton] at hm; subst hm; exact hn2 hk)
  have lt : ∀ {e : TypeId} {v : Value} {n : Nat} {xs : List Value}, wa.ownsRow B e 1 v n xs → ∀ b, v.ownBlock = some b → b < wa.heap.size := fun hr b hb => (hr.lt b hb).2
  have hnq : ∀ q cs, q ≠ nb → wr.heap[q]? = some (.cells cs 25 (0, 0)) → (w2.setCell ⟨nb, 3, none⟩ v').heap[q]? = some (.cells cs 25 (0, 0)) := fun q cs hq hc => by
    have hq1 := ta.keep hc (by simp)
    have hq2 : w2.heap[q]? = some (.cells cs 25 (0, 0)) := by
      rw [hg.block q (lt_of_block hq1) (fun e => own_noNode ha.hi hq1 (by decide) e.symm)]; exact hq1
    exact blk_other hq2 hq _ _
  refine ⟨hb2, ⟨blk_set hb2 3 _, kk ha.hk ha.aki.symm hn.1, kk ha.hv ha.avi.symm hn.2.1, hnew, ha.akv, (ha.aki.symm.grow (lt ha.hk) hp).symm, (ha.avi.symm.grow (lt ha.hv) hp).symm⟩, ?_, hnq⟩
  have hrow : ∀ k, iv.ownBlock = some k → B ≤ k := fun k hk => (ha.hi.lt k hk).1
  refine ⟨hg.os.trans ta.os, hg.tape.trans ta.tape, hg.output.trans ta.output, ?_, fun k hk => ?_⟩
  · have h1 := hg.size
    have h2 := ta.size
    simp [World.setCell]; omega
  · have hl2 : nb < wr.heap.size := lt_of_block h.hb
    rw [ts.block k (by have := hg.size; omega) (by simp; omega), hg.block k (by omega) (fun e => by have := hrow k e.symm; omega)]
    exact ta.block k (by omega) (by simp)

/-- .. with these entries. -/
def OwE (B nb : Nat) (leaf : Bool) (es : List En) (w : World) : Prop :=
  ∃ kv vv iv, OwV B nb leaf kv vv iv (es.map En.key) (if leaf then es.map En.val else []) (if leaf then [] else es.map En.kid) w
theorem OwE.keep {B nb : Nat} {leaf : Bool} {es : List En} {w w' : World} (h : OwE B nb leaf es w) (t : Tch [] w w') : OwE B nb leaf es w' := by
  obtain ⟨kv, vv, iv, h⟩ := h
  exact ⟨kv, vv, iv, h.keep t⟩
theorem Try.info_nstr : (Try.prog.info? 9).map (fun i => (i.zero, i.size, i.bytes)) = some (some (.string ⟨#[]⟩), 1, 16) := by kernel_rfl
theorem Try.info_nint : (Try.prog.info? 3).map (fun i => (i.zero, i.size, i.bytes)) = some (some (.int .i64 0), 1, 8) := by kernel_rfl
end Go.Proofs.Ytlgfdfpafmopdaa
