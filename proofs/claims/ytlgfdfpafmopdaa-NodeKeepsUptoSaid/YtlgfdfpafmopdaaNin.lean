/-
  Opening a node that was handed in.
-/
import Derived.Test.YtlgfdfpafmopdaaUp
import Derived.Test.YtlgfdfpafmopdaaNl
namespace Go.Proofs.Ytlgfdfpafmopdaa
open Go.ChangeShapes Go.WideShapes Go.ChangeAt Go.RowKit
set_option linter.unusedVariables false

/-- Its slices' lengths and capacities; nil ones have none. -/
def Nv.caps (v : Nv) : Prop := (v.kn ≤ v.kc ∧ v.kc ≤ maxLen ∧ (v.ka = none → v.kn = 0 ∧ v.kc = 0)) ∧ (v.vn ≤ v.vc ∧ v.vc ≤ maxLen ∧ (v.va = none → v.vn = 0 ∧ v.vc = 0)) ∧ (v.im ≤ v.ic ∧ v.ic ≤ maxLen ∧ (v.ia = none → v.im = 0 ∧ v.ic = 0))

theorem four_cells {α : Type} {l : Array α} (h : l.toList.length = 4) : ∃ a b c d, l = #[a, b, c, d] := by
  obtain ⟨l⟩ := l
  match l, h with
  | [a, b, c, d], _ => exact ⟨a, b, c, d, rfl⟩

set_option maxRecDepth 100000 in
theorem node_in {H : Type} {enc : TypeId × Value → H} {W : World} {base : Nat} {v : Value} {d : DataW H} {p : List MemPlace}
    (h : DataW.Trod enc Try.prog W 0 (fun _ => true) true 25 v d p) (hb : Rows.uptoBulk d ≤ 1048576) (hok : Value.okWide Try.prog W .any base 25 v) :
    ∃ z : Nv, v = .agg #[.bool z.leaf, .slice z.ka z.kn z.kc, .slice z.va z.vn z.vc, .slice z.ia z.im z.ic] ∧ IsNv W z ∧ z.Ok ∧ z.caps ∧ z.upto 1048576 := by
  obtain ⟨cs, rfl, _⟩ := okWide_struct Try.underlying25 hok
  obtain ⟨fuel, hf⟩ := h
  have hcl : Try.prog.cellsOf 25 = 4 := by kernel_rfl
  obtain ⟨y0, y1, y2, y3, m, hx, hlen, g0, g1, g2, g3⟩ := trod_four Try.underlying25 hf
  obtain ⟨v0, v1, v2, v3, rfl⟩ := four_cells (l := cs) (by rw [hcl] at hlen; simpa [Value.cells] using hlen)
  have k0 : Try.prog.cellsOf 4 = 1 := by kernel_rfl
  have k1 : Try.prog.cellsOf 22 = 1 := by kernel_rfl
  have k2 : Try.prog.cellsOf 23 = 1 := by kernel_rfl
  simp only [k0, k1, k2] at g0 g1 g2 g3
  obtain ⟨leaf, e0, _⟩ := DataW.trod_bool Try.underlying4 g0
  obtain ⟨ka, kn, kc, kb, ko, keys, e1, r1, c1, c1', c1'', b1⟩ := strs_row Try.underlying22 Try.underlying9 (by kernel_rfl) g1
  obtain ⟨va, vn, vc, vb, vo, vals, e2, r2, c2, c2', c2'', b2⟩ := strs_row Try.underlying22 Try.underlying9 (by kernel_rfl) g2
  obtain ⟨ia, im, ic, ib, io, kids, e3, r3, c3, c3', c3'', b3, hk⟩ := ints_row Try.underlying23 Try.underlying3 (by kernel_rfl) g3
  simp [Value.cells] at e0 e1 e2 e3
  subst e0 e1 e2 e3
  have hbb : Rows.uptoBulk y1.1 + Rows.uptoBulk y2.1 + Rows.uptoBulk y3.1 ≤ 1048576 := by
    rw [show d = _ from hx] at hb
    simp only [Rows.uptoBulk, Rows.uptoBulkAll] at hb
    omega
  refine ⟨⟨leaf, ka, kn, kc, va, vn, vc, ia, im, ic, kb, ko, vb, vo, ib, io, keys, vals, kids⟩, rfl, ⟨r1, r2, r3⟩, ⟨?_, ?_, ?_, ?_, ?_, hk, ?_⟩, ⟨⟨c1, c1', c1''⟩, ⟨c2, c2', c2''⟩, ⟨c3, c3', c3''⟩⟩, ⟨?_, ?_, ?_, ?_⟩⟩
  · show keys.length ≤ _; omega
  · show vals.length ≤ _; omega
  · show kids.length ≤ _; omega
  · intro x hx; have := sum_mem keys x hx; omega
  · intro x hx; have := sum_mem vals x hx; omega
  · show (keys.map ByteArray.size).sum + (vals.map ByteArray.size).sum ≤ _; omega
  · show keys.length ≤ _; omega
  · show vals.length ≤ _; omega
  · show kids.length ≤ _; omega
  · show (keys.map ByteArray.size).sum + (vals.map ByteArray.size).sum ≤ _; omega
end Go.Proofs.Ytlgfdfpafmopdaa
