/-
  'Join' of the document's nodes: the entries of the one and those of the other behind them. Condition: together there are fewer than 10^9 entries.
-/
import Derived.Test.YtlgfdfpafmopdaaDoorNf
import Derived.Deep.RegionLaw
namespace Go.Proofs.YtlgfdfpafmopdaaDoor
open Go.RowKit
set_option linter.unusedVariables false

/-- 'append' to a row of the call's own, at a step of a region that draws its order. -/
theorem step_append_own {P : Program} {ops : Array Oper} {oo : Oper} {ac : Act} {w : World} {K : Act → World → Prop} {Q : Exit → Act → World → Prop} {E : Prop} (hgd : oo.guard = none) (s x : Operand) (t : TypeId)
    (ho : oo.op = .call { callee := .builtin .append, args := #[s, x], argTypes := #[t, t] })
    (base : Nat) (e : TypeId) (i : TypeInfo) (z : Value) (size bytes : Nat) (ht : P.underlying t = some (.slice e)) (hi : P.info? e = some i) (hz : i.zero = some z)
    (hsize : i.size = size) (hby : i.bytes = bytes) (hzs : z.cells.size = size) (hsz : 0 < size)
    (v : Value) (n : Nat) (xs : List Value) (hs : ac.eval s = v) (hown : w.ownsRow base e size v n xs)
    (ad : Addr) (m c : Nat) (news : List Value) (hx : ac.eval x = .slice (some ad) m c) (hl : news.length = m * size) (hnews : ∀ j u, news[j]? = some u → w.cell? (ad.add j) = some u) (h1 : ∀ u ∈ news, u.oneCell' = true)
    (h63 : n + m ≤ maxLen) (hbytes : (n + m) * bytes ≤ 140737488355328) (hbase : base ≤ w.heap.size)
    (h : ∀ v' w', w'.ownsRow base e size v' (n + m) (xs ++ news) → w.grownBy w' v.ownBlock → K (ac.put oo.dst v') w') :
    if Region.wanted oo (yielded ops ac.tmps) = true then Oper.wp P oo ac w K Q else E := by
  have hw : Region.wanted oo (yielded ops ac.tmps) = true := by simp [Region.wanted, hgd]
  rw [if_pos hw]
  exact wp_append_own w s x t ho base e i z size bytes ht hi hz hsize hby hzs hsz v n xs hs hown ad m c news hx hl hnews h1 h63 hbytes hbase fun v' w' h2 h3 _ => h v' w' h2 h3

/-- A node of the call's own in block nb, with the entries xs so far; nothing else that stands in W has turned. -/
def JoRel (W : World) (nb : Nat) (leaf : Bool) (xs : List En) (x : Option Addr) (c : Nat) (wr : World) : Prop :=
  wr.heap[nb]? = some (.cells #[.bool leaf, .slice x xs.length c] 31 (0, 0)) ∧ wr.ownsRow (nb + 1) 50 3 (.slice x xs.length c) xs.length (xs.flatMap fEn) ∧ Tch [nb] W wr
theorem JoRel.next {W wr wa w2 : World} {nb : Nat} {leaf : Bool} {xs : List En} {x : Option Addr} {c : Nat} (h : JoRel W nb leaf xs x c wr) (hW : W.heap.size ≤ nb + 1) (ta : Tch [] wr wa) (e : En) {v' : Value} (hown2 : w2.ownsRow (nb + 1) 50 3 v' (xs.length + 1) (xs.flatMap fEn ++ fEn e)) (hg : wa.grownBy w2 (Value.slice x xs.length c).ownBlock) :
    w2.heap[nb]? = some (.cells #[.bool leaf, .slice x xs.length c] 31 (0, 0)) ∧ ∃ x2 c2, v' = .slice x2 (xs.length + 1) c2 ∧ JoRel W nb leaf (xs ++ [e]) x2 c2 (w2.setCell ⟨nb, 1, none⟩ v') := by
  obtain ⟨hb, hown, T⟩ := h
  have hlt := lt_of_block hb
  have hrow : ∀ b, (Value.slice x xs.length c).ownBlock = some b → nb + 1 ≤ b := fun b hb => (hown.lt b hb).1
  obtain ⟨hgrow, hsz, g3, g4, g5⟩ := grow_parts hg
  have hszr := ta.size
  have hb2 : w2.heap[nb]? = some (.cells #[.bool leaf, .slice x xs.length c] 31 (0, 0)) := by
    rw [hgrow nb (by omega) (fun e => by have := hrow nb e.symm; omega)]; exact ta.keep hb (by simp)
  obtain ⟨x2, c2, rfl⟩ := own_slice hown2
  have T1 := T.trans (ta.mono (L' := [nb]) (by simp))
  have t2 : Tch [nb] W w2 := ⟨g3.trans T1.os, g4.trans T1.tape, g5.trans T1.output, Nat.le_trans T1.size hsz, fun b h1 h2 => (hgrow b (Nat.lt_of_lt_of_le h1 T1.size) (fun e => by have := hrow b e.symm; omega)).trans (T1.block b h1 h2)⟩
  have hlen : (xs ++ [e]).length = xs.length + 1 := by simp
  refine ⟨hb2, x2, c2, rfl, ?_, ?_, t2.setCell (by simp) _⟩
  · rw [hlen]; exact blk_set hb2 1 _
  · rw [hlen, List.flatMap_append]
    have h0 : [e].flatMap fEn = fEn e := by simp
    rw [h0]
    refine own_keep hown2 ((Tch.refl [nb] w2).setCell (p := ⟨nb, 1, none⟩) (by simp) _) (fun b hb => ?_)
    have := (hown2.lt b hb).1
    simp; omega

end Go.Proofs.YtlgfdfpafmopdaaDoor
