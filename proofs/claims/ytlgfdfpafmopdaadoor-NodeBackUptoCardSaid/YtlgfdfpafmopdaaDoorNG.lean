/-
  The law NodeGuides, walked: it answers true and turns nothing that was there, if package node answers as the document has it. Condition: lists and texts of fewer than 10^7 parts.
-/
import Derived.Test.YtlgfdfpafmopdaaDoorNB
namespace Go.Proofs.YtlgfdfpafmopdaaDoor
open Go.RowKit
set_option linter.unusedVariables false

theorem less_tri : ∀ a b : List UInt8, Go.Op.bytesLess a b = false → Go.Op.bytesLess b a = false → a = b
  | [], [], _, _ => rfl
  | [], b :: y, h, _ => by simp [Go.Op.bytesLess] at h
  | a :: x, [], _, h => by simp [Go.Op.bytesLess] at h
  | a :: x, b :: y, h1, h2 => by
    simp only [Go.Op.bytesLess, Bool.or_eq_false_iff, Bool.and_eq_false_iff, decide_eq_false_iff_not] at h1 h2
    have hab : a = b := UInt8.toNat_inj.1 (by
      have h3 := h1.1; have h4 := h2.1
      rw [UInt8.lt_iff_toNat_lt] at h3 h4
      omega)
    subst hab
    rw [less_tri x y (by rcases h1.2 with h | h; simp at h; exact h) (by rcases h2.2 with h | h; simp at h; exact h)]
theorem slt_of {a b : ByteArray} (h : sle b a = false) : slt a b = true := by
  unfold sle slt at h
  rw [Bool.or_eq_false_iff] at h
  by_cases hs : Go.Op.bytesLess a.toList b.toList = true
  · exact hs
  · have := less_tri a.toList b.toList (by simpa using hs) h.1
    have h2 := h.2
    rw [this] at h2
    simp at h2
theorem fit_rise (leaf : Bool) : ∀ (es : List En) (prev : Option ByteArray), fitFrom leaf prev es = true → (∀ p e, prev = some p → es[0]? = some e → slt p e.key = true) ∧ ∀ (i : Nat) a b, es[i]? = some a → es[i + 1]? = some b → slt a.key b.key = true
  | [], prev, _ => ⟨fun p e _ h => by simp at h, fun i a b h => by simp at h⟩
  | e :: es, prev, h => by
    rw [show fitFrom leaf prev (e :: es) = (fitE leaf e && (match prev with | none => true | some p => !sle e.key p) && fitFrom leaf (some e.key) es) from by cases prev <;> rfl] at h
    rw [Bool.and_eq_true, Bool.and_eq_true] at h
    obtain ⟨⟨_, h2⟩, h3⟩ := h
    obtain ⟨i1, i2⟩ := fit_rise leaf es (some e.key) h3
    refine ⟨fun p e' hp he => ?_, fun i a b ha hb => ?_⟩
    · subst hp
      simp at he; subst he
      exact slt_of (by simpa using h2)
    · match i, ha, hb with
      | 0, ha, hb =>
        simp at ha; subst ha
        exact i1 e.key b rfl (by simpa using hb)
      | i + 1, ha, hb => exact i2 i a b (by simpa using ha) (by simpa using hb)
theorem Nv.rise {v : Nv} (h : v.fits = true) : Rise v.keys := by
  unfold Nv.fits fitN at h
  rw [Bool.and_eq_true, Bool.and_eq_true, Bool.and_eq_true] at h
  have hr := (fit_rise v.leaf v.es none h.2.1.1).2
  intro i a b ha hb
  exact hr i _ _ (mkN_get v.leaf v.keys v.vals v.kids i a ha) (mkN_get v.leaf v.keys v.vals v.kids (i + 1) b hb)
theorem plc_spec (key : ByteArray) : ∀ (es : List En) (at_ k : Nat), (plcE key at_ k es = at_ ∨ ∃ j : Nat, ∃ e : En, plcE key at_ k es = k + j ∧ es[j]? = some e ∧ sle e.key key = true) ∧ ∀ (j : Nat) e, es[j]? = some e → (plcE key at_ k es < k + j ∨ (plcE key at_ k es = at_ ∧ at_ < k ∧ plcE key at_ k es < k + j)) → sle e.key key = false
  | [], at_, k => ⟨Or.inl rfl, fun j e h => by simp at h⟩
  | e :: es, at_, k => by
    rw [plcE]
    obtain ⟨i1, i2⟩ := plc_spec key es (if sle e.key key then k else at_) (k + 1)
    refine ⟨?_, fun j e' hj hlt => ?_⟩
    · rcases i1 with h | ⟨j, e', h1, h2, h3⟩
      · by_cases hs : sle e.key key = true
        · right; exact ⟨0, e, by rw [h, if_pos hs]; omega, rfl, hs⟩
        · left; rw [h, if_neg hs]
      · right; exact ⟨j + 1, e', by omega, by simpa using h2, h3⟩
    · match j, hj with
      | 0, hj =>
        simp at hj; subst hj
        by_cases hs : sle e.key key = true
        · exfalso
          rw [if_pos hs] at hlt i1
          rcases i1 with h | ⟨j, e', h1, _⟩ <;> omega
        · simpa using hs
      | j + 1, hj =>
        exact i2 j e' (by simpa using hj) (Or.inl (by omega))
/-- Where a key belongs: the last entry whose key isn't above it. -/
theorem plcN_spec (es : List En) (key : ByteArray) : (plcN es key = 0 ∨ ∃ e, es[plcN es key]? = some e ∧ sle e.key key = true) ∧ (∀ (i : Nat) e, plcN es key < i → es[i]? = some e → sle e.key key = false) ∧ (0 < es.length → plcN es key < es.length) := by
  obtain ⟨h1, h2⟩ := plc_spec key es 0 0
  unfold plcN
  refine ⟨?_, fun i e hi he => h2 i e he (Or.inl (by omega)), fun hl => ?_⟩
  · rcases h1 with h | ⟨j, e, ha, hb, hc⟩
    · exact Or.inl h
    · right; rw [ha, Nat.zero_add]; exact ⟨e, hb, hc⟩
  · rcases h1 with h | ⟨j, e, ha, hb, hc⟩
    · rw [h]; exact hl
    · rw [ha, Nat.zero_add]; exact (List.getElem?_eq_some_iff.1 hb).1

end Go.Proofs.YtlgfdfpafmopdaaDoor
