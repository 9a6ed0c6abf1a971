/-
  The bulk of what came in: what a bound on it says of texts and lists.
-/
import Derived.Test.YtenohgogfddniaaOpen
import Derived.Test.YtenohgogfddniaaRow
import Derived.Lib.Strings
namespace Go.Proofs.Ytenohgogfddniaa
open Go.ChangeShapes Go.WideShapes Go.ChangeAt Go.RowKit
set_option linter.unusedVariables false

theorem bulk_pos {H : Type} (d : DataW H) : 1 ≤ Rows.uptoBulk d := by
  cases d with
  | lit l => cases l <;> simp [Rows.uptoBulk]
  | _ => simp [Rows.uptoBulk]
theorem bulk_str {H : Type} (s : ByteArray) : Rows.uptoBulk (DataW.lit (H := H) (.string s.data.toList)) = s.size + 1 := by
  simp only [Rows.uptoBulk]; rw [← Lib.size_eq]
theorem bulk_strs {H : Type} (l : List ByteArray) : Rows.uptoBulkAll (strs (H := H) l) = (l.map ByteArray.size).sum + l.length := by
  induction l with
  | nil => simp [strs, Rows.uptoBulkAll]
  | cons s l ih =>
    have h : strs (H := H) (s :: l) = .lit (.string s.data.toList) :: strs l := rfl
    rw [h, Rows.uptoBulkAll, ih, bulk_str]
    simp; omega
theorem bulk_lits {H : Type} (k : IntKind) (l : List Int) : Rows.uptoBulkAll (lits (H := H) k l) = l.length := by
  induction l with
  | nil => simp [lits, Rows.uptoBulkAll]
  | cons s l ih =>
    have h : lits (H := H) k (s :: l) = .lit (.int k s) :: lits k l := rfl
    rw [h, Rows.uptoBulkAll, ih]
    simp [Rows.uptoBulk]; omega
theorem bulk_le {H : Type} {d : DataW H} {l : List (DataW H)} (h : d ∈ l) : Rows.uptoBulk d ≤ Rows.uptoBulkAll l := by
  induction l with
  | nil => cases h
  | cons x r ih =>
    simp only [Rows.uptoBulkAll]
    rcases List.mem_cons.1 h with rfl | h
    · omega
    · have := ih h; omega
theorem sum_mem (l : List ByteArray) (s : ByteArray) (h : s ∈ l) : s.size ≤ (l.map ByteArray.size).sum := by
  induction l with
  | nil => cases h
  | cons x r ih =>
    rw [List.map_cons, List.sum_cons]
    rcases List.mem_cons.1 h with rfl | h
    · omega
    · have := ih h; omega

theorem addr_none {w : World} {y : Addr} {v : Value} (h : w.cell? (y.add 0) = some v) : ∃ b o, y = ⟨b, o, none⟩ ∧ b < w.heap.size := by
  obtain ⟨b, o, sp⟩ := y
  have hs : sp = none := by simpa [Addr.add] using World.cell?_spot h
  subst hs
  refine ⟨b, o, rfl, ?_⟩
  rw [add_mk] at h
  unfold World.cell? at h
  rcases Nat.lt_or_ge b w.heap.size with h' | h'
  · exact h'
  · simp [Array.getElem?_eq_none h'] at h
/-- A slice of texts, out of its cells. -/
theorem strs_row {H : Type} {enc : TypeId × Value → H} {W : World} {T E : TypeId} (hT : Try.prog.underlying T = some (.slice E)) (hE : Try.prog.underlying E = some .string) (hc : Try.prog.cellsOf E = 1) {fuel : Nat} {cs : List Value} {x : DataW H × List MemPlace}
    (h : DataW.trod enc Try.prog W 0 (fun _ => true) true fuel T cs = some x) :
    ∃ (a : Option Addr) (len cap b o : Nat) (l : List ByteArray), cs = [.slice a len cap] ∧ IsR fStr 1 W a len b o l ∧ len ≤ cap ∧ cap ≤ maxLen ∧ (a = none → len = 0 ∧ cap = 0) ∧ (l.map ByteArray.size).sum + l.length ≤ Rows.uptoBulk x.1 := by
  rcases open_strings hT hE hc h with ⟨rfl, rfl⟩ | ⟨y, len, cap, ss, rfl, _, hl, hm, hz, rfl, hcell, hws⟩
  · exact ⟨none, 0, 0, 0, 0, [], rfl, IsR.nil _ _ _ _, by omega, by unfold maxLen; omega, fun _ => ⟨rfl, rfl⟩, by simp⟩
  · simp at hz
    have hbk : ((ss.take len).map ByteArray.size).sum + (ss.take len).length ≤ Rows.uptoBulk (.slice (strs (H := H) (ss.take len)) (strs (ss.drop len))) := by
      rw [Rows.uptoBulk, bulk_strs]; omega
    by_cases h0 : len = 0
    · subst h0
      exact ⟨some y, 0, cap, y.block, y.off, [], rfl, IsR.nil _ _ _ _, hl, hm, (fun h => by cases h), by simp⟩
    · obtain ⟨b, o, rfl, hb⟩ := addr_none (hcell 0 (by omega))
      refine ⟨some ⟨b, o, none⟩, len, cap, b, o, ss.take len, rfl, ⟨by rw [List.length_take]; omega, Or.inr ⟨rfl, hb⟩, fun k x hk j v hv => ?_⟩, hl, hm, (fun h => by cases h), hbk⟩
      rw [List.getElem?_take] at hk
      split at hk
      · match j, hv with
        | 0, hv =>
          simp [fStr] at hv; subst hv
          have hlt := (List.getElem?_eq_some_iff.1 hk).1
          have := hcell k hlt
          rw [add_mk, List.getD_eq_getElem?_getD, hk] at this
          rw [Nat.mul_one, Nat.add_zero]; exact this
      · cases hk
/-- A slice of numbers, out of its cells. -/
theorem ints_row {H : Type} {enc : TypeId × Value → H} {W : World} {T E : TypeId} (hT : Try.prog.underlying T = some (.slice E)) (hE : Try.prog.underlying E = some (.int .i64)) (hc : Try.prog.cellsOf E = 1) {fuel : Nat} {cs : List Value} {x : DataW H × List MemPlace}
    (h : DataW.trod enc Try.prog W 0 (fun _ => true) true fuel T cs = some x) :
    ∃ (a : Option Addr) (len cap b o : Nat) (l : List Int), cs = [.slice a len cap] ∧ IsR fInt 1 W a len b o l ∧ len ≤ cap ∧ cap ≤ maxLen ∧ (a = none → len = 0 ∧ cap = 0) ∧ l.length ≤ Rows.uptoBulk x.1 ∧ ∀ n ∈ l, -9223372036854775808 ≤ n ∧ n ≤ 9223372036854775807 := by
  rcases open_ints hT hE hc h with ⟨rfl, rfl⟩ | ⟨y, len, cap, zs, rfl, _, hl, hm, hz, rfl, hcell, hws⟩
  · exact ⟨none, 0, 0, 0, 0, [], rfl, IsR.nil _ _ _ _, by omega, by unfold maxLen; omega, fun _ => ⟨rfl, rfl⟩, by simp, fun n hn => by cases hn⟩
  · simp at hz
    have hbk : (zs.take len).length ≤ Rows.uptoBulk (.slice (lits (H := H) .i64 (zs.take len)) (lits .i64 (zs.drop len))) := by
      rw [Rows.uptoBulk, bulk_lits]; omega
    by_cases h0 : len = 0
    · subst h0
      exact ⟨some y, 0, cap, y.block, y.off, [], rfl, IsR.nil _ _ _ _, hl, hm, (fun h => by cases h), by simp, fun n hn => by cases hn⟩
    · obtain ⟨b, o, rfl, hb⟩ := addr_none (hcell 0 (by omega))
      refine ⟨some ⟨b, o, none⟩, len, cap, b, o, zs.take len, rfl, ⟨by rw [List.length_take]; omega, Or.inr ⟨rfl, hb⟩, fun k x hk j v hv => ?_⟩, hl, hm, (fun h => by cases h), hbk, fun n hn => i64_of_wf (hws n (List.mem_of_mem_take hn))⟩
      rw [List.getElem?_take] at hk
      split at hk
      · match j, hv with
        | 0, hv =>
          simp [fInt] at hv; subst hv
          have hlt := (List.getElem?_eq_some_iff.1 hk).1
          have := hcell k hlt
          rw [add_mk, List.getD_eq_getElem?_getD, hk] at this
          rw [Nat.mul_one, Nat.add_zero]; exact this
      · cases hk
end Go.Proofs.Ytenohgogfddniaa
