/-
  Opening a Cut that was handed in: commits, a number, numbers.
-/
import Derived.Test.YtclnhgfionfbbaaDoorChsIn
import Derived.Test.YtclnhgfionfbbaaDoorRowsIn
namespace Go.Proofs.YtclnhgfionfbbaaDoor
open Go.ChangeShapes Go.WideShapes Go.ChangeAt Go.RowKit
set_option linter.unusedVariables false

/-- What is known of a Cut. -/
structure CutZ where
  ca : Option Addr
  cl : Nat
  cc : Nat
  n : Int
  aa : Option Addr
  al : Nat
  ac : Nat
  zs : List Sl
  ns : List Int

theorem three_cells {α : Type} {l : Array α} (h : l.toList.length = 3) : ∃ a b c, l = #[a, b, c] := by
  obtain ⟨l⟩ := l
  match l, h with
  | [a, b, c], _ => exact ⟨a, b, c, rfl⟩

set_option maxRecDepth 100000 in
theorem cut_in {H : Type} {enc : TypeId × Value → H} {W : World} {base : Nat} {v : Value} {d : DataW H} {p : List MemPlace} {ts : List TypeId} {ds : List (DataW H)} {j : Nat}
    (h : DataW.Trod enc Tryd.prog W 0 (fun _ => true) true 25 v d p) (hsz : (DataW.weightsEach Tryd.prog ts ds).all (· ≤ reachBytes) = true) (ht : ts[j]? = some 25) (hd : ds[j]? = some d) (hok : Value.okWide Tryd.prog W .any base 25 v) :
    ∃ z : CutZ, v = .agg #[.slice z.ca z.cl z.cc, .int .i64 z.n, .slice z.aa z.al z.ac] ∧ IsChss W z.ca z.cl z.zs ∧ z.cl * 24 ≤ 140737488351232 ∧ IsRow .i64 W z.aa z.al z.ac z.ns ∧ (Lit.int .i64 z.n).wf = true := by
  obtain ⟨cs, rfl, _⟩ := okWide_struct Tryd.underlying25 hok
  obtain ⟨fuel, hf⟩ := h
  have hcl : Tryd.prog.cellsOf 25 = 3 := by kernel_rfl
  obtain ⟨y0, y1, y2, m, hx, hlen, g0, g1, g2⟩ := Go.Deep.trod_struct3 Tryd.underlying25 hf
  obtain ⟨v0, v1, v2, rfl⟩ := three_cells (l := cs) (by rw [hcl] at hlen; simpa [Value.cells] using hlen)
  have k0 : Tryd.prog.cellsOf 22 = 1 := by kernel_rfl
  have k1 : Tryd.prog.cellsOf 3 = 1 := by kernel_rfl
  have k2 : Tryd.prog.cellsOf 23 = 1 := by kernel_rfl
  simp only [k0, k1, k2] at g0 g1 g2
  obtain ⟨ca, cl, cc, zs, e0, hc, _, hs⟩ := chss_of g0
  obtain ⟨q, e1, _, wq⟩ := DataW.trod_int Tryd.underlying3 g1
  simp [Value.cells] at e0 e1
  subst e0 e1
  have hr : ∃ aa al ac ns, v2 = .slice aa al ac ∧ IsRow .i64 W aa al ac ns := by
    rcases open_ints Tryd.underlying23 Tryd.underlying3 k1 g2 with ⟨e2, _⟩ | ⟨x, l, c, ns, e2, _, hl, hm, hz, _, hcell, hwz⟩
    · simp [Value.cells] at e2
      exact ⟨none, 0, 0, [], e2, .inl ⟨rfl, rfl, rfl, rfl⟩⟩
    · simp [Value.cells] at e2
      exact ⟨some x, l, c, ns, e2, .inr ⟨_, rfl, hl, hm, by simpa using hz, hcell, hwz⟩⟩
  obtain ⟨aa, al, ac, ns, rfl, hi⟩ := hr
  refine ⟨⟨ca, cl, cc, q, aa, al, ac, zs, ns⟩, rfl, hc, ?_, hi, wq⟩
  show cl * 24 ≤ _
  rcases hs with rfl | ⟨el, sp, hy, rfl⟩
  · simp
  · obtain rfl : d = .agg [y0.1, y1.1, y2.1] := (Prod.mk.inj hx).1
    have hm := List.all_eq_true.1 hsz ((el.length + sp.length) * Tryd.prog.bytesOf 36) (DataW.weights_mem_each ht hd _ (by
      rw [hy]
      simp [DataW.weights, DataW.weightsEach, Tryd.underlying25, Tryd.underlying22]))
    have hb : Tryd.prog.bytesOf 36 = 24 := by kernel_rfl
    rw [hb] at hm
    have hr : reachBytes = 140737488351232 := by decide
    rw [hr] at hm
    have := of_decide_eq_true hm
    omega
end Go.Proofs.YtclnhgfionfbbaaDoor
