/-
  From the cells of each element to the row; the weights of what is nested. Plain notions that speak of no program.
-/
import Derived.Test.YtenohgogfddniaaOpen
import Derived.Test.YtenohgogfddniaaRow
import Derived.Deep.Slices
import Derived.Deep.Strs
namespace Go.Proofs.Ytenohgogfddniaa
open Go.ChangeShapes Go.WideShapes Go.ChangeAt Go.RowKit
set_option linter.unusedVariables false

theorem cell_lt {W : World} {b o : Nat} {v : Value} (q0 : W.cell? ⟨b, o, none⟩ = some v) : b < W.heap.size := by
  unfold World.cell? at q0
  rcases Nat.lt_or_ge b W.heap.size with h' | h'
  · exact h'
  · simp [Array.getElem?_eq_none h'] at q0
theorem isr_mk {α : Type} [Inhabited α] {f : α → List Value} {sz : Nat} {W : World} {y : Addr} {len : Nat} (P : α → Prop) (hf : ∀ x, 0 < (f x).length) (key : ∀ i, i < len → ∃ x : α, P x ∧ ∀ (j : Nat) v, (f x)[j]? = some v → W.cell? (y.add (i * sz + j)) = some v) :
    ∃ (b o : Nat) (l : List α), IsR f sz W (some y) len b o l ∧ ∀ x ∈ l, P x := by
  by_cases h0 : len = 0
  · subst h0
    exact ⟨0, 0, [], IsR.nil _ _ _ _, by simp⟩
  obtain ⟨V, hV⟩ := Go.Deep.choose_lt key
  obtain ⟨b, o, sp⟩ := y
  have hv0 : (f (V 0))[0]? = some ((f (V 0))[0]'(hf _)) := List.getElem?_eq_getElem _
  have q0 := (hV 0 (by omega)).2 0 _ hv0
  have hs : sp = none := by simpa [Addr.add] using World.cell?_spot q0
  subst hs
  rw [add_mk] at q0
  refine ⟨b, o, (List.range len).map V, ⟨by simp, Or.inr ⟨rfl, cell_lt q0⟩, fun k x hk j v hv => ?_⟩, fun x hx => ?_⟩
  · rw [List.getElem?_map] at hk
    by_cases hkm : k < len
    · rw [List.getElem?_range hkm] at hk
      cases hk
      have := (hV k hkm).2 j v hv
      rw [add_mk, ← Nat.add_assoc] at this
      exact this
    · rw [List.getElem?_eq_none (by simpa using hkm)] at hk
      cases hk
  · obtain ⟨k, hk, rfl⟩ := List.mem_map.1 hx
    exact (hV k (List.mem_range.1 hk)).1
theorem weights_all_in {H : Type} {P : Program} {e : TypeId} : ∀ {l : List (DataW H)} {d : DataW H}, d ∈ l → ∀ n ∈ d.weights P e, n ∈ DataW.weightsAll P e l
  | d' :: r, d, hd, n, hn => by
    simp only [DataW.weightsAll, List.mem_append]
    rcases List.mem_cons.1 hd with rfl | h
    · exact Or.inl hn
    · exact Or.inr (weights_all_in h n hn)
/-- What is within an element of a slice that came in is within the reach. -/
theorem weights_elem {H : Type} {P : Program} {t e : TypeId} {ts : List TypeId} {ds : List (DataW H)} {j : Nat} {el sp : List (DataW H)} {d : DataW H} (hsz : (DataW.weightsEach P ts ds).all (· ≤ reachBytes) = true) (ht : ts[j]? = some t) (hd : ds[j]? = some (.slice el sp)) (hu : P.underlying t = some (.slice e))
    (hm : d ∈ el) (n : Nat) (hn : n ∈ d.weights P e) : n ≤ 140737488351232 := by
  have hr : reachBytes = 140737488351232 := by decide
  rw [← hr]
  refine of_decide_eq_true (List.all_eq_true.1 hsz n (DataW.weights_mem_each ht hd n ?_))
  rw [DataW.weights, hu]
  exact List.mem_cons_of_mem _ (List.mem_append_left _ (weights_all_in hm n hn))
end Go.Proofs.Ytenohgogfddniaa
