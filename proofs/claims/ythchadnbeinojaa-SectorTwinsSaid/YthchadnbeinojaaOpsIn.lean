/-
  Opening a slice of calls (Op) that was handed in.
-/
import Derived.Test.YthchadnbeinojaaOpen
import Derived.Test.YthchadnbeinojaaOps
import Derived.Deep.Slices
import Derived.Deep.Strs
namespace Go.Proofs.Ythchadnbeinojaa
open Go.ChangeShapes Go.WideShapes Go.ChangeAt Go.RowKit
set_option linter.unusedVariables false

theorem three_of {α : Type} {l : List α} (h : l.length = 3) : ∃ a b c, l = [a, b, c] := by
  match l, h with
  | [a, b, c], _ => exact ⟨a, b, c, rfl⟩

set_option maxRecDepth 100000 in
theorem ops_in {H : Type} {enc : TypeId × Value → H} {W : World} {a : Option Addr} {len cap : Nat} {d : DataW H} {p : List MemPlace}
    (h : DataW.Trod enc Try.prog W 0 (fun _ => true) true 22 (.slice a len cap) d p) : ∃ os, IsOps W a len cap os ∧ (len = 0 ∨ ∃ el sp, d = .slice el sp ∧ el.length = len) := by
  obtain ⟨fuel, hf⟩ := h
  rcases Go.Deep.open_slice Try.underlying22 hf with ⟨hcs, _⟩ | ⟨x, l, c, m, n, D, Pl, hcs, _, hl, hm, hmm, hx, hi⟩
  · simp [Value.cells] at hcs
    obtain ⟨rfl, rfl, rfl⟩ := hcs
    exact ⟨[], .inl rfl, Or.inl rfl⟩
  · simp [Value.cells] at hcs
    obtain ⟨rfl, rfl, rfl⟩ := hcs
    have hsz : Try.prog.cellsOf 30 = 3 := by kernel_rfl
    simp at hmm
    have key : ∀ i, i < m → ∃ c : Op3, W.cell? (x.add (i * 3)) = some (.int .i64 c.q) ∧ W.cell? (x.add (i * 3 + 1)) = some (.int .i64 c.i) ∧ W.cell? (x.add (i * 3 + 2)) = some (.string c.x) ∧ -9223372036854775808 ≤ c.i ∧ c.i ≤ 9223372036854775807 := by
      intro i him
      obtain ⟨cs', hc, ht⟩ := hi i him
      rw [hsz] at hc
      obtain ⟨_, hlen, hat⟩ := World.cells?_some hc
      obtain ⟨y0, y1, y2, n', _, _, g0, g1, g2⟩ := Go.Deep.trod_struct3 Try.underlying30 ht
      obtain ⟨v0, v1, v2, rfl⟩ := three_of hlen
      have k3 : Try.prog.cellsOf 3 = 1 := by kernel_rfl
      have k9 : Try.prog.cellsOf 9 = 1 := by kernel_rfl
      simp only [k3, k9] at g0 g1 g2
      obtain ⟨q, e0, _, _⟩ := DataW.trod_int Try.underlying3 g0
      obtain ⟨j, e1, _, wj⟩ := DataW.trod_int Try.underlying3 g1
      obtain ⟨s, e2, _, _⟩ := DataW.trod_string Try.underlying9 g2
      simp at e0 e1 e2
      have a0 := hat 0 (by omega)
      have a1 := hat 1 (by omega)
      have a2 := hat 2 (by omega)
      simp only [Go.Deep.add_add] at a0 a1 a2
      have hb := i64_of_wf wj
      exact ⟨⟨q, j, s⟩, by simpa [e0] using a0, by simpa [e1] using a1, by simpa [e2] using a2, hb.1, hb.2⟩
    by_cases h0 : len = 0
    · exact ⟨[], .inl h0, .inl h0⟩
    haveI : Inhabited Op3 := ⟨⟨0, 0, ⟨#[]⟩⟩⟩
    obtain ⟨V, hV⟩ := Go.Deep.choose_lt key
    obtain ⟨b, o, sp⟩ := x
    have hs : sp = none := by simpa [Addr.add] using World.cell?_spot (hV 0 (by omega)).1
    subst hs
    have hlt : b < W.heap.size := by
      have q0 := (hV 0 (by omega)).1
      rw [add_mk] at q0
      unfold World.cell? at q0
      rcases Nat.lt_or_ge b W.heap.size with h' | h'
      · exact h'
      · simp [Array.getElem?_eq_none h'] at q0
    refine ⟨(List.range m).map V, .inr ⟨b, o, rfl, hlt, by simp; omega, by omega, fun k c hk => ?_⟩, .inr ⟨_, _, (Prod.mk.inj hx).1, by simp⟩⟩
    rw [List.getElem?_map] at hk
    by_cases hkm : k < m
    · rw [List.getElem?_range hkm] at hk
      cases hk
      obtain ⟨f0, f1, f2, f3, f4⟩ := hV k hkm
      rw [add_mk] at f0 f1 f2
      exact ⟨f0, by rw [Nat.add_assoc]; exact f1, by rw [Nat.add_assoc]; exact f2, f3, f4⟩
    · rw [List.getElem?_eq_none (by simpa using hkm)] at hk
      cases hk
end Go.Proofs.Ythchadnbeinojaa
