/-
  Opening slices of letters, and of calls (Op), that were handed in.
-/
import Derived.Test.YtgdfbpgnknnkpaaIsm
import Derived.Test.YtgdfbpgnknnkpaaBpl
namespace Go.Proofs.Ytgdfbpgnknnkpaa
open Go.ChangeShapes Go.WideShapes Go.ChangeAt Go.RowKit
set_option linter.unusedVariables false

theorem eight_of {α : Type} {l : List α} (h : l.length = 8) : ∃ a b c d e f g i, l = [a, b, c, d, e, f, g, i] := by
  match l, h with
  | [a, b, c, d, e, f, g, i], _ => exact ⟨a, b, c, d, e, f, g, i, rfl⟩
theorem ten_of {α : Type} {l : List α} (h : l.length = 10) : ∃ x y a b c d e f g i, l = [x, y, a, b, c, d, e, f, g, i] := by
  match l, h with
  | [x, y, a, b, c, d, e, f, g, i], _ => exact ⟨x, y, a, b, c, d, e, f, g, i, rfl⟩
theorem three_ofB {α : Type} {l : List α} (h : l.length = 3) : ∃ a b c, l = [a, b, c] := by
  match l, h with
  | [a, b, c], _ => exact ⟨a, b, c, rfl⟩
set_option maxRecDepth 100000 in
/-- A letter, out of its cells. -/
theorem lt_trod {H : Type} {enc : TypeId × Value → H} {W : World} {fuel : Nat} {cs : List Value} {x : DataW H × List MemPlace}
    (h : DataW.trod enc Try.prog W 0 (fun _ => true) true fuel 37 cs = some x) : ∃ l : Lt, cs = fLt l ∧ l.verb.size ∈ x.1.weights Try.prog 37 := by
  obtain ⟨xs, n, _, rfl, hl, hlen, hf⟩ := DataW.trod_struct Try.underlying37 h
  have hsz : Try.prog.cellsOf 37 = 8 := by kernel_rfl
  rw [hsz] at hl
  obtain ⟨c0, c1, c2, c3, c4, c5, c6, c7, rfl⟩ := eight_of hl
  obtain ⟨y0, y1, y2, y3, y4, y5, y6, y7, rfl⟩ := eight_of hlen
  have k3 : Try.prog.cellsOf 3 = 1 := by kernel_rfl
  have k9 : Try.prog.cellsOf 9 = 1 := by kernel_rfl
  have g0 : DataW.trod enc Try.prog W 0 (fun _ => true) true n 3 [c0] = some y0 := by have := hf 0 _ rfl; simpa [k3] using this
  have g1 : DataW.trod enc Try.prog W 0 (fun _ => true) true n 3 [c1] = some y1 := by have := hf 1 _ rfl; simpa [k3] using this
  have g2 : DataW.trod enc Try.prog W 0 (fun _ => true) true n 3 [c2] = some y2 := by have := hf 2 _ rfl; simpa [k3] using this
  have g3 : DataW.trod enc Try.prog W 0 (fun _ => true) true n 3 [c3] = some y3 := by have := hf 3 _ rfl; simpa [k3] using this
  have g4 : DataW.trod enc Try.prog W 0 (fun _ => true) true n 3 [c4] = some y4 := by have := hf 4 _ rfl; simpa [k3] using this
  have g5 : DataW.trod enc Try.prog W 0 (fun _ => true) true n 3 [c5] = some y5 := by have := hf 5 _ rfl; simpa [k3] using this
  have g6 : DataW.trod enc Try.prog W 0 (fun _ => true) true n 3 [c6] = some y6 := by have := hf 6 _ rfl; simpa [k3] using this
  have g7 : DataW.trod enc Try.prog W 0 (fun _ => true) true n 9 [c7] = some y7 := by have := hf 7 _ rfl; simpa [k9] using this
  obtain ⟨i0, e0, _, _⟩ := DataW.trod_int Try.underlying3 g0
  obtain ⟨i1, e1, _, _⟩ := DataW.trod_int Try.underlying3 g1
  obtain ⟨i2, e2, _, _⟩ := DataW.trod_int Try.underlying3 g2
  obtain ⟨i3, e3, _, _⟩ := DataW.trod_int Try.underlying3 g3
  obtain ⟨i4, e4, _, _⟩ := DataW.trod_int Try.underlying3 g4
  obtain ⟨i5, e5, _, _⟩ := DataW.trod_int Try.underlying3 g5
  obtain ⟨i6, e6, _, _⟩ := DataW.trod_int Try.underlying3 g6
  obtain ⟨s, e7, hy, _⟩ := DataW.trod_string Try.underlying9 g7
  simp at e0 e1 e2 e3 e4 e5 e6 e7 hy
  refine ⟨⟨i0, i1, i2, i3, i4, i5, i6, s⟩, by simp [fLt, e0, e1, e2, e3, e4, e5, e6, e7], ?_⟩
  simp [DataW.weights, Try.underlying37, DataW.weightsEach, hy]
set_option maxRecDepth 100000 in
/-- A call, out of its cells. -/
theorem op_trod {H : Type} {enc : TypeId × Value → H} {W : World} {fuel : Nat} {cs : List Value} {x : DataW H × List MemPlace}
    (h : DataW.trod enc Try.prog W 0 (fun _ => true) true fuel 54 cs = some x) : ∃ o : POp, cs = fOp o ∧ o.lt.verb.size ∈ x.1.weights Try.prog 54 := by
  obtain ⟨xs, n, _, rfl, hl, hlen, hf⟩ := DataW.trod_struct Try.underlying54 h
  have hsz : Try.prog.cellsOf 54 = 10 := by kernel_rfl
  rw [hsz] at hl
  obtain ⟨z0, z1, c0, c1, c2, c3, c4, c5, c6, c7, rfl⟩ := ten_of hl
  obtain ⟨y0, y1, y2, rfl⟩ := three_ofB hlen
  have k3 : Try.prog.cellsOf 3 = 1 := by kernel_rfl
  have k8 : Try.prog.cellsOf 37 = 8 := by kernel_rfl
  have g0 : DataW.trod enc Try.prog W 0 (fun _ => true) true n 3 [z0] = some y0 := by have := hf 0 _ rfl; simpa [k3] using this
  have g1 : DataW.trod enc Try.prog W 0 (fun _ => true) true n 3 [z1] = some y1 := by have := hf 1 _ rfl; simpa [k3] using this
  have g2 : DataW.trod enc Try.prog W 0 (fun _ => true) true n 37 [c0, c1, c2, c3, c4, c5, c6, c7] = some y2 := by have := hf 2 _ rfl; simpa [k8] using this
  obtain ⟨i0, e0, _, _⟩ := DataW.trod_int Try.underlying3 g0
  obtain ⟨i1, e1, _, _⟩ := DataW.trod_int Try.underlying3 g1
  obtain ⟨l, e2, hw⟩ := lt_trod g2
  refine ⟨⟨i0, i1, l⟩, ?_, ?_⟩
  · simp at e0 e1
    rw [e0, e1, e2]; rfl
  · simp [DataW.weights, Try.underlying54, DataW.weightsEach, hw]
set_option maxRecDepth 100000 in
/-- A slice of letters. -/
theorem lts_in {H : Type} {enc : TypeId × Value → H} {W : World} {a : Option Addr} {len cap : Nat} {d : DataW H} {p : List MemPlace} {ts : List TypeId} {ds : List (DataW H)} {j : Nat}
    (h : DataW.Trod enc Try.prog W 0 (fun _ => true) true 32 (.slice a len cap) d p) (hsz : (DataW.weightsEach Try.prog ts ds).all (· ≤ reachBytes) = true) (ht : ts[j]? = some 32) (hd : ds[j]? = some d) :
    ∃ b o l, IsR fLt 8 W a len b o l ∧ (∀ x ∈ l, x.Ok) ∧ len * 72 ≤ 140737488351232 ∧ len ≤ cap ∧ (a = none → len = 0 ∧ cap = 0) := by
  obtain ⟨fuel, hf⟩ := h
  rcases Go.Deep.open_slice Try.underlying32 hf with ⟨hcs, _⟩ | ⟨y, l, c, m, n, D, Pl, hcs, _, hl, hm, hmm, hx, hi⟩
  · simp [Value.cells] at hcs
    obtain ⟨rfl, rfl, rfl⟩ := hcs
    exact ⟨0, 0, [], IsR.nil _ _ _ _, by simp, by omega, by omega, fun _ => ⟨rfl, rfl⟩⟩
  · simp [Value.cells] at hcs
    obtain ⟨rfl, rfl, rfl⟩ := hcs
    have hs8 : Try.prog.cellsOf 37 = 8 := by kernel_rfl
    have hde := (Prod.mk.inj hx).1
    subst hde
    have key : ∀ i, i < len → ∃ x : Lt, x.Ok ∧ ∀ (j : Nat) v, (fLt x)[j]? = some v → W.cell? (y.add (i * 8 + j)) = some v := by
      intro i him
      obtain ⟨cs', hc, ht'⟩ := hi i (by rw [hmm]; split <;> omega)
      rw [hs8] at hc
      obtain ⟨_, hlen, hat⟩ := World.cells?_some hc
      obtain ⟨x, rfl, hw⟩ := lt_trod ht'
      refine ⟨x, ?_, fun j v hv => ?_⟩
      · unfold Lt.Ok
        have := weights_elem hsz ht hd Try.underlying32 (List.mem_map.2 ⟨i, List.mem_range.2 him, rfl⟩) _ hw
        omega
      · have hj := (List.getElem?_eq_some_iff.1 hv).1
        have := hat j (by rw [fLt_len] at hj; omega)
        rw [Go.Deep.add_add] at this
        rw [this]; exact hv
    obtain ⟨b, o, l, hr, hok⟩ := isr_mk (f := fLt) (sz := 8) Lt.Ok (fun x => by rw [fLt_len]; decide) key
    exact ⟨b, o, l, hr, hok, size_in (Or.inr ⟨_, _, rfl, by simp⟩) hsz ht hd Try.underlying32 (by kernel_rfl), hl, fun h => by cases h⟩
set_option maxRecDepth 100000 in
/-- A slice of calls. -/
theorem bops_in {H : Type} {enc : TypeId × Value → H} {W : World} {a : Option Addr} {len cap : Nat} {d : DataW H} {p : List MemPlace} {ts : List TypeId} {ds : List (DataW H)} {j : Nat}
    (h : DataW.Trod enc Try.prog W 0 (fun _ => true) true 22 (.slice a len cap) d p) (hsz : (DataW.weightsEach Try.prog ts ds).all (· ≤ reachBytes) = true) (ht : ts[j]? = some 22) (hd : ds[j]? = some d) :
    ∃ b o l, IsR fOp 10 W a len b o l ∧ (∀ x ∈ l, x.lt.Ok) ∧ len * 88 ≤ 140737488351232 ∧ len ≤ cap ∧ (a = none → len = 0 ∧ cap = 0) := by
  obtain ⟨fuel, hf⟩ := h
  rcases Go.Deep.open_slice Try.underlying22 hf with ⟨hcs, _⟩ | ⟨y, l, c, m, n, D, Pl, hcs, _, hl, hm, hmm, hx, hi⟩
  · simp [Value.cells] at hcs
    obtain ⟨rfl, rfl, rfl⟩ := hcs
    exact ⟨0, 0, [], IsR.nil _ _ _ _, by simp, by omega, by omega, fun _ => ⟨rfl, rfl⟩⟩
  · simp [Value.cells] at hcs
    obtain ⟨rfl, rfl, rfl⟩ := hcs
    have hs10 : Try.prog.cellsOf 54 = 10 := by kernel_rfl
    have hde := (Prod.mk.inj hx).1
    subst hde
    have key : ∀ i, i < len → ∃ x : POp, x.lt.Ok ∧ ∀ (j : Nat) v, (fOp x)[j]? = some v → W.cell? (y.add (i * 10 + j)) = some v := by
      intro i him
      obtain ⟨cs', hc, ht'⟩ := hi i (by rw [hmm]; split <;> omega)
      rw [hs10] at hc
      obtain ⟨_, hlen, hat⟩ := World.cells?_some hc
      obtain ⟨x, rfl, hw⟩ := op_trod ht'
      refine ⟨x, ?_, fun j v hv => ?_⟩
      · unfold Lt.Ok
        have := weights_elem hsz ht hd Try.underlying22 (List.mem_map.2 ⟨i, List.mem_range.2 him, rfl⟩) _ hw
        omega
      · have hj := (List.getElem?_eq_some_iff.1 hv).1
        have hj2 : j < 10 := hj
        have := hat j hj2
        rw [Go.Deep.add_add] at this
        rw [this]; exact hv
    obtain ⟨b, o, l, hr, hok⟩ := isr_mk (f := fOp) (sz := 10) (fun x => x.lt.Ok) (fun x => by show 0 < 10; decide) key
    exact ⟨b, o, l, hr, hok, size_in (Or.inr ⟨_, _, rfl, by simp⟩) hsz ht hd Try.underlying22 (by kernel_rfl), hl, fun h => by cases h⟩
end Go.Proofs.Ytgdfbpgnknnkpaa
