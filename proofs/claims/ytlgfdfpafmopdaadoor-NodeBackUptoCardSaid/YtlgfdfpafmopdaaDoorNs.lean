/-
  'Split' of the document's nodes: the node alone, or as two. Conditions: texts shorter than 10^9 bytes, fewer than 10^8 entries.
-/
import Derived.Test.YtlgfdfpafmopdaaDoorNj
import Derived.StillTailTactics
namespace Go.Proofs.YtlgfdfpafmopdaaDoor
open Go.RowKit
set_option linter.unusedVariables false

/-- A row of nodes in block g. -/
def IsNs (w : World) (g : Nat) (leaf : Bool) (parts : List (List En)) : Prop :=
  ∀ (k : Nat) part, parts[k]? = some part → ∃ x c b o, w.cell? ⟨g, k * 2, none⟩ = some (.bool leaf) ∧ w.cell? ⟨g, k * 2 + 1, none⟩ = some (.slice x part.length c) ∧ IsR fEn 3 w x part.length b o part
/-- What Split answers. -/
def SpPost (w : World) (leaf : Bool) (es : List En) (e : Ending) (w' : World) : Prop :=
  ∃ g, e = .returned (.slice (some ⟨g, 0, none⟩) (splitN leaf es).length (splitN leaf es).length) ∧ w.heap.size ≤ g ∧ IsNs w' g leaf (splitN leaf es) ∧ Tch [] w w'

/-- How many bytes the first k entries have. -/
def wsum (leaf : Bool) (es : List En) (k : Nat) : Nat := ((es.take k).flatMap (enb leaf)).length
theorem wsum_step (leaf : Bool) (es : List En) (k : Nat) (e : En) (h : es[k]? = some e) : wsum leaf es (k + 1) = wsum leaf es k + (enb leaf e).length := by
  unfold wsum; rw [List.take_add_one, h, List.flatMap_append]; simp
theorem wsum_all (leaf : Bool) (es : List En) : wsum leaf es es.length = (es.flatMap (enb leaf)).length := by unfold wsum; rw [List.take_length]
theorem wsum_le (leaf : Bool) (es : List En) (k : Nat) : wsum leaf es k ≤ (es.flatMap (enb leaf)).length := by
  unfold wsum
  have : (es.flatMap (enb leaf)).length = ((es.take k).flatMap (enb leaf)).length + ((es.drop k).flatMap (enb leaf)).length := by
    rw [← List.length_append, ← List.flatMap_append, List.take_append_drop]
  omega
theorem flat_fine {leaf : Bool} {es : List En} (hf : Fine es) : (es.flatMap (enb leaf)).length ≤ es.length * 2000000020 := by
  induction es with
  | nil => simp
  | cons e es ih =>
    have := ih (fun a ha => hf a (List.mem_cons_of_mem _ ha))
    have he := hf e (List.mem_cons_self ..)
    have hk := tx_len e.key he.1
    have hv := tx_len e.val he.2.1
    have hu := ub10 e.kid.toNat (by omega)
    rw [List.flatMap_cons, List.length_append, List.length_cons, Nat.add_mul]
    have : (enb leaf e).length ≤ 2000000020 := by
      unfold enb
      rw [List.length_append]
      split <;> omega
    omega
theorem ndb_small {leaf : Bool} {es : List En} (hf : Fine es) (hl : es.length ≤ 100000000) : (ndb leaf es).length ≤ 1000000000000000000 := by
  have h1 := flat_fine (leaf := leaf) hf
  have h2 := ub10 es.length (by omega)
  unfold ndb
  simp only [List.length_cons, List.length_append]
  omega

theorem Tryd.elem_es : Tryd.prog.underlying 29 = some (.slice (Tryd.prog.elem 29)) := by kernel_rfl
theorem Tryd.size_es (w : World) : (sizeOf (Tryd.prog.elem 29)).run Tryd.prog w = .ok 3 w := by kernel_rfl
theorem slice_hi (b o len c k : Nat) (h : k + 1 ≤ c) (w : World) : (Instr.slice 29 (.slice (some ⟨b, o, none⟩) len c) none (some (.int .i64 ((k : Int) + 1))) none).run Tryd.prog w = .ok (.slice (some ⟨b, o, none⟩) (k + 1) c) w := by
  rw [run_slice_h _ _ _ _ _ Tryd.elem_es _ _ (by omega) (by omega), Tryd.size_es]
  simp only [Result.andThen, sliced]
  rw [show ((k : Int) + 1).toNat = k + 1 from by omega]
  split <;> simp [add_mk]
theorem slice_lo (b o len c k : Nat) (h : k + 1 ≤ len) (hc : k + 1 < c) (w : World) : (Instr.slice 29 (.slice (some ⟨b, o, none⟩) len c) (some (.int .i64 ((k : Int) + 1))) none none).run Tryd.prog w = .ok (.slice (some ⟨b, o + (k + 1) * 3, none⟩) (len - (k + 1)) (c - (k + 1))) w := by
  rw [run_slice_l _ _ _ _ _ Tryd.elem_es _ _ (by omega) (by omega), Tryd.size_es]
  simp only [Result.andThen, sliced]
  rw [show ((k : Int) + 1).toNat = k + 1 from by omega, if_neg (by omega)]
  simp [add_mk]
theorem cut_step (leaf : Bool) (W last s k : Nat) (es : List En) (e : En) (h : es[k]? = some e) : cutE leaf W last k s (es.drop k) = if W ≤ 2 * (s + (enb leaf e).length) ∨ k = last then k + 1 else cutE leaf W last (k + 1) (s + (enb leaf e).length) (es.drop (k + 1)) := by
  obtain ⟨hk, he⟩ := List.getElem?_eq_some_iff.1 h
  rw [List.drop_eq_getElem_cons hk, he, cutE]

end Go.Proofs.YtlgfdfpafmopdaaDoor
