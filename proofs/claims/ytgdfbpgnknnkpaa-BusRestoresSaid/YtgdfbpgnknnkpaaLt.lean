/-
  Letters and buses as plain data, and what the document says of each call. Plain notions that speak of no program.
-/
import Derived.Test.YtgdfbpgnknnkpaaRow
namespace Go.Proofs.Ytgdfbpgnknnkpaa
open Go.RowKit
set_option linter.unusedVariables false

/-- A letter. -/
structure Lt where
  id : Int
  dst : Int
  ord : Int
  step : Int
  tr : Int
  kind : Int
  code : Int
  verb : ByteArray
def fLt (l : Lt) : List Value := [.int .i64 l.id, .int .i64 l.dst, .int .i64 l.ord, .int .i64 l.step, .int .i64 l.tr, .int .i64 l.kind, .int .i64 l.code, .string l.verb]
theorem fLt_len (l : Lt) : (fLt l).length = 8 := rfl
theorem fLt_one (l : Lt) : ∀ u ∈ fLt l, u.oneCell' = true := by
  intro u hu
  simp only [fLt, List.mem_cons, List.not_mem_nil, or_false] at hu
  rcases hu with rfl | rfl | rfl | rfl | rfl | rfl | rfl | rfl <;> rfl
instance : Inhabited Lt := ⟨⟨0, 0, 0, 0, 0, 0, 0, ⟨#[]⟩⟩⟩
/-- The zero letter. -/
def lt0 : Lt := ⟨0, 0, 0, 0, 0, 0, 0, ⟨#[]⟩⟩
def I64 (n : Int) : Prop := -9223372036854775808 ≤ n ∧ n ≤ 9223372036854775807
/-- A letter whose text is in reach. -/
def Lt.Ok (l : Lt) : Prop := l.verb.size ≤ 140737488355328
def Lt.num (l : Lt) (n : Int) : Lt := { l with id := n }

/-- A bus: the letters, the oldest first, and the next number. -/
structure Bs where
  list : List Lt
  next : Int
def Bs.sendN (b : Bs) : Int := if b.list.length < 4096 then b.next else 0
def Bs.sendE (b : Bs) : Int := if b.list.length < 4096 then 0 else 72
def Bs.send (b : Bs) (l : Lt) : Bs := if b.list.length < 4096 then ⟨b.list ++ [l.num b.next], b.next + 1⟩ else b
/-- Is there a letter at this place? -/
def Bs.has (b : Bs) (at_ : Int) : Prop := 0 ≤ at_ ∧ at_ < (b.list.length : Int)
instance (b : Bs) (at_ : Int) : Decidable (b.has at_) := by unfold Bs.has; infer_instance
def Bs.takeL (b : Bs) (at_ : Int) : Lt := if b.has at_ then b.list.getD at_.toNat lt0 else lt0
def Bs.takeE (b : Bs) (at_ : Int) : Int := if b.has at_ then 0 else 70
def Bs.take (b : Bs) (at_ : Int) : Bs := if b.has at_ then ⟨b.list.eraseIdx at_.toNat, b.next⟩ else b
def Bs.dblN (b : Bs) (at_ : Int) : Int := if b.has at_ then b.sendN else 0
def Bs.dblE (b : Bs) (at_ : Int) : Int := if b.has at_ then b.sendE else 70
def Bs.dbl (b : Bs) (at_ : Int) : Bs := if b.has at_ then b.send (b.list.getD at_.toNat lt0) else b

/-- Do the numbers rise, from 'last' on, below 'next'? -/
def numB (next : Int) : Int → List Lt → Bool
  | _, [] => true
  | last, l :: r => if l.id ≤ last ∨ next ≤ l.id then false else numB next l.id r
/-- Is the bus restored of these? -/
def restB (next : Int) (l : List Lt) : Bool := decide (1 ≤ next) && decide (next ≤ 1152921504606846976) && decide (l.length ≤ 4096) && numB next 0 l

theorem numB_snoc (next n : Int) : ∀ (last : Int) (l : List Lt) (x : Lt), numB next last l = true → (∀ y ∈ l, y.id < x.id) → last < x.id → next ≤ n → x.id < n → numB n last (l ++ [x]) = true
  | last, [], x, _, _, h1, h2, h3 => by
    simp only [List.nil_append, numB, Bool.if_false_left, Bool.and_true, Bool.not_eq_true', decide_eq_false_iff_not]; omega
  | last, y :: l, x, h, hy, h1, h2, h3 => by
    simp only [List.cons_append, numB, Bool.if_false_left, Bool.and_eq_true, Bool.not_eq_true', decide_eq_false_iff_not] at h ⊢
    exact ⟨by omega, numB_snoc next n y.id l x h.2 (fun z hz => hy z (List.mem_cons_of_mem _ hz)) (hy y (List.mem_cons_self ..)) h2 h3⟩
theorem numB_lt (next : Int) : ∀ (last : Int) (l : List Lt), numB next last l = true → ∀ y ∈ l, last < y.id ∧ y.id < next
  | last, [], _, y, hy => by cases hy
  | last, x :: l, h, y, hy => by
    simp only [numB, Bool.if_false_left, Bool.and_eq_true, Bool.not_eq_true', decide_eq_false_iff_not] at h
    rcases List.mem_cons.1 hy with rfl | hy
    · omega
    · have := numB_lt next x.id l h.2 y hy; omega
theorem numB_low (next : Int) (a b : Int) (l : List Lt) (h : numB next b l = true) (hab : a ≤ b) : numB next a l = true := by
  cases l with
  | nil => rfl
  | cons x l =>
    simp only [numB, Bool.if_false_left, Bool.and_eq_true, Bool.not_eq_true', decide_eq_false_iff_not] at h ⊢
    exact ⟨by omega, h.2⟩
theorem numB_erase (next : Int) : ∀ (last : Int) (l : List Lt) (i : Nat), numB next last l = true → numB next last (l.eraseIdx i) = true
  | last, [], i, h => by simpa using h
  | last, x :: l, 0, h => by
    simp only [numB, Bool.if_false_left, Bool.and_eq_true, Bool.not_eq_true', decide_eq_false_iff_not] at h
    rw [List.eraseIdx_cons_zero]
    exact numB_low next last x.id l h.2 (by omega)
  | last, x :: l, i + 1, h => by
    simp only [numB, Bool.if_false_left, Bool.and_eq_true, Bool.not_eq_true', decide_eq_false_iff_not] at h
    rw [List.eraseIdx_cons_succ]
    simp only [numB, Bool.if_false_left, Bool.and_eq_true, Bool.not_eq_true', decide_eq_false_iff_not]
    exact ⟨h.1, numB_erase next x.id l i h.2⟩
/-- A letter's place tells how its number lies. -/
theorem numB_rise (next : Int) : ∀ (last : Int) (l : List Lt), numB next last l = true → ∀ (i j : Nat) x y, i < j → l[i]? = some x → l[j]? = some y → x.id < y.id
  | last, [], _, i, j, x, y, _, h, _ => by simp at h
  | last, z :: l, h, i, j, x, y, hij, hi, hj => by
    simp only [numB, Bool.if_false_left, Bool.and_eq_true, Bool.not_eq_true', decide_eq_false_iff_not] at h
    obtain ⟨j, rfl⟩ : ∃ k, j = k + 1 := ⟨j - 1, by omega⟩
    rw [List.getElem?_cons_succ] at hj
    cases i with
    | zero => simp at hi; subst hi; exact (numB_lt next z.id l h.2 y (List.mem_of_getElem? hj)).1
    | succ i => rw [List.getElem?_cons_succ] at hi; exact numB_rise next z.id l h.2 i j x y (by omega) hi hj

/-- What holds of every bus. -/
structure Bs.Good (b : Bs) : Prop where
  lo : 1 ≤ b.next
  len : b.list.length ≤ 4096
  num : numB b.next 0 b.list = true
  ok : ∀ l ∈ b.list, l.Ok
theorem Bs.good_new : (⟨[], 1⟩ : Bs).Good := ⟨by decide, by simp, rfl, by simp⟩
theorem Bs.Good.send {b : Bs} (h : b.Good) (l : Lt) (hl : l.Ok) : (b.send l).Good := by
  unfold Bs.send
  split
  · have hn := numB_lt _ _ _ h.num
    refine ⟨by have := h.lo; simp; omega, by simp; omega, ?_, fun x hx => ?_⟩
    · exact numB_snoc b.next _ 0 b.list _ h.num (fun y hy => by have := hn y hy; simp [Lt.num]; omega) (by have := h.lo; simp [Lt.num]; omega) (by simp; omega) (by simp [Lt.num]; omega)
    · rcases List.mem_append.1 hx with hx | hx
      · exact h.ok x hx
      · simp only [List.mem_singleton] at hx; subst hx; exact hl
  · exact h
theorem Bs.get_mem (b : Bs) {at_ : Int} (h : b.has at_) : b.list.getD at_.toNat lt0 ∈ b.list := by
  unfold Bs.has at h
  rw [List.getD_eq_getElem?_getD, List.getElem?_eq_getElem (by omega)]
  exact List.getElem_mem _
theorem Bs.Good.take {b : Bs} (h : b.Good) (at_ : Int) : (b.take at_).Good := by
  unfold Bs.take
  split
  · refine ⟨h.lo, ?_, numB_erase _ _ _ _ h.num, fun x hx => h.ok x (List.mem_of_mem_eraseIdx hx)⟩
    have := List.length_eraseIdx_le b.list at_.toNat
    have := h.len
    simp; omega
  · exact h
theorem Bs.Good.dbl {b : Bs} (h : b.Good) (at_ : Int) : (b.dbl at_).Good := by
  unfold Bs.dbl
  split
  · rename_i hh
    exact h.send _ (h.ok _ (b.get_mem hh))
  · exact h
theorem Bs.Good.rest {b : Bs} (h : b.Good) (hn : b.next ≤ 1152921504606846976) : restB b.next b.list = true := by
  unfold restB
  have h1 := h.lo
  have h2 := h.len
  simp [h.num, h1, h2, hn]
theorem good_rest {next : Int} {l : List Lt} (h : restB next l = true) (hok : ∀ x ∈ l, x.Ok) : (⟨l, next⟩ : Bs).Good := by
  unfold restB at h
  simp only [Bool.and_eq_true, decide_eq_true_eq] at h
  exact ⟨h.1.1.1, h.1.2, h.2, hok⟩
theorem Bs.send_next (b : Bs) (l : Lt) : b.next ≤ (b.send l).next ∧ (b.send l).next ≤ b.next + 1 := by
  unfold Bs.send; split <;> simp <;> omega
theorem Bs.take_next (b : Bs) (at_ : Int) : (b.take at_).next = b.next := by unfold Bs.take; split <;> rfl
theorem Bs.dbl_next (b : Bs) (at_ : Int) : b.next ≤ (b.dbl at_).next ∧ (b.dbl at_).next ≤ b.next + 1 := by
  unfold Bs.dbl; split
  · exact b.send_next _
  · omega
end Go.Proofs.Ytgdfbpgnknnkpaa
