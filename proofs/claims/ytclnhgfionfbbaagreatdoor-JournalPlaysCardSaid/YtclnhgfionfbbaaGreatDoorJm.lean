/-
  A journal as the document has it: what each call answers and leaves, as plain functions on its disk ('Ds'). No condition.
-/
import Derived.Test.YtclnhgfionfbbaaGreatDoorState
import Derived.Test.YtclnhgfionfbbaaGreatDoorNum
namespace Go.Proofs.YtclnhgfionfbbaaGreatDoor
set_option linter.unusedVariables false

/-- What a list of writes answers and leaves: the first error ends it. -/
def wrs : List (Int × ByteArray) → Ds → Int × Ds
  | [], D => (0, D)
  | p :: l, D => if D.wcode p.1 p.2 = 0 then wrs l (D.wstate p.1 p.2) else (D.wcode p.1 p.2, D.wstate p.1 p.2)
/-- The bytes of a head. -/
def hdb (l : List Nat) : ByteArray := ⟨(ub l.length ++ l.flatMap ub).toArray⟩
/-- How many sectors the journal has. -/
def jlen (D : Ds) (room : Nat) : Nat := D.texts.length - (room + 1)
/-- The numbers that a head names, c more of them, from place p on, n the journal's sectors. -/
def rnums (s : List UInt8) (n : Nat) : Nat → Nat → List Nat → Option (List Nat × Nat)
  | 0, p, met => some (met, p)
  | c + 1, p, met =>
    if (rdu (s.drop p) 0 0).1 ≠ 0 ∨ n ≤ (rdu (s.drop p) 0 0).2.1 ∨ (rdu (s.drop p) 0 0).2.1 ∈ met then none
    else rnums s n c (p + (rdu (s.drop p) 0 0).2.2) (met ++ [(rdu (s.drop p) 0 0).2.1])
/-- Are all bytes zero? -/
def nil0 (l : List UInt8) : Bool := l.all (· == 0)
/-- What a head names, if it is one. -/
def rhead (s : List UInt8) (room n : Nat) : Option (List Nat) :=
  if (rdu s 0 0).1 ≠ 0 ∨ room < (rdu s 0 0).2.1 then none else
  match rnums s n (rdu s 0 0).2.1 (rdu s 0 0).2.2 [] with
  | none => none
  | some (l, p) => if nil0 (s.drop p) then some l else none
/-- The copies, from the k-th on, are brought to their sectors. -/
def fin (room : Nat) : Nat → List Nat → Ds → Int × Ds
  | _, [], D => (0, D)
  | k, a :: l, D =>
    if D.rcode ((1 + k : Nat) : Int) ≠ 0 then (D.rcode ((1 + k : Nat) : Int), D)
    else if D.wcode ((room + 1 + a : Nat) : Int) (D.texts.getD (1 + k) ⟨#[]⟩) = 0 then fin room (k + 1) l (D.wstate ((room + 1 + a : Nat) : Int) (D.texts.getD (1 + k) ⟨#[]⟩))
    else (D.wcode ((room + 1 + a : Nat) : Int) (D.texts.getD (1 + k) ⟨#[]⟩), D.wstate ((room + 1 + a : Nat) : Int) (D.texts.getD (1 + k) ⟨#[]⟩))
/-- .. and then the head is emptied. -/
def fins (room : Nat) (l : List Nat) (D : Ds) : Int × Ds := if (fin room 0 l D).1 = 0 then wrs [(0, hdb [])] (fin room 0 l D).2 else fin room 0 l D
/-- Open. -/
def jopen (room : Int) (D : Ds) : Int × Ds :=
  if room < 1 ∨ 500 < room then (2, D) else if D.rcode 0 ≠ 0 then (D.rcode 0, D) else
  match rhead (D.rtext 0).data.toList room.toNat (jlen D room.toNat) with
  | none => (32, D)
  | some [] => (0, D)
  | some (a :: l) => fins room.toNat (a :: l) D
/-- Why these changes can't be, n the journal's sectors; met are the sectors of those ahead. -/
def ckc (n : Nat) : List (Int × ByteArray) → List Int → Int
  | [], _ => 0
  | p :: l, met => if p.1 < 0 ∨ n ≤ p.1 then 10 else if 1024 < p.2.size then 11 else if p.1 ∈ met then 30 else ckc n l (met ++ [p.1])
/-- The writes of copies, from the k-th on. -/
def cps : Nat → List (Int × ByteArray) → List (Int × ByteArray)
  | _, [] => []
  | k, p :: l => (((1 + k : Nat) : Int), p.2) :: cps (k + 1) l
/-- The writes of the sectors. -/
def scs (room : Nat) (l : List (Int × ByteArray)) : List (Int × ByteArray) := l.map fun p => (((room + 1 + p.1.toNat : Nat) : Int), p.2)
/-- The sectors' numbers. -/
def ats (l : List (Int × ByteArray)) : List Nat := l.map fun p => p.1.toNat
/-- All writes of a commit. -/
def cws (room : Nat) (l : List (Int × ByteArray)) : List (Int × ByteArray) := cps 0 l ++ ((0, hdb (ats l)) :: (scs room l ++ [(0, hdb [])]))
/-- Commit. -/
def jcommit (room : Nat) (l : List (Int × ByteArray)) (D : Ds) : Int × Ds :=
  if room < l.length then (31, D) else if ckc (jlen D room) l [] ≠ 0 ∨ l = [] then (ckc (jlen D room) l [], D) else wrs (cws room l) D
/-- Read. -/
def jrcode (room : Nat) (D : Ds) (i : Int) : Int := if i < 0 ∨ jlen D room ≤ i then 10 else D.rcode (room + 1 + i)
def jrtext (room : Nat) (D : Ds) (i : Int) : ByteArray := if i < 0 ∨ jlen D room ≤ i then ⟨#[]⟩ else D.rtext (room + 1 + i)

/-! ### lists of writes -/
theorem wrs_app (l m : List (Int × ByteArray)) : ∀ D, wrs (l ++ m) D = if (wrs l D).1 = 0 then wrs m (wrs l D).2 else wrs l D := by
  induction l with
  | nil => intro D; simp [wrs]
  | cons p l ih =>
    intro D
    rw [List.cons_append, wrs, wrs]
    by_cases h : D.wcode p.1 p.2 = 0
    · rw [if_pos h, if_pos h, ih]
    · rw [if_neg h, if_neg h, if_neg (by simpa using h)]
theorem wst_len (D : Ds) (i : Int) (x : ByteArray) : (D.wstate i x).texts.length = D.texts.length := by
  unfold Ds.wstate; split; rfl; split; rfl; split; rfl; split; rfl; simp
theorem wrs_len (l : List (Int × ByteArray)) : ∀ D, (wrs l D).2.texts.length = D.texts.length := by
  induction l with
  | nil => intro D; rfl
  | cons p l ih =>
    intro D
    rw [wrs]
    split
    · rw [ih, wst_len]
    · exact wst_len _ _ _
theorem wst_done (D : Ds) (i : Int) (x : ByteArray) : D.done ≤ (D.wstate i x).done ∧ (D.wstate i x).done ≤ D.done + 1 := by
  unfold Ds.wstate; split; omega; split; omega; split; omega; split; (simp; omega); simp; omega
theorem wrs_done (l : List (Int × ByteArray)) : ∀ D, (wrs l D).2.done ≤ D.done + l.length := by
  induction l with
  | nil => intro D; simp [wrs]
  | cons p l ih =>
    intro D
    have h1 := (wst_done D p.1 p.2).2
    rw [wrs]
    split
    · have := ih (D.wstate p.1 p.2)
      simp only [List.length_cons]
      omega
    · simp only [List.length_cons]
      omega
theorem fin_len (room : Nat) (l : List Nat) : ∀ k D, (fin room k l D).2.texts.length = D.texts.length := by
  induction l with
  | nil => intro k D; rfl
  | cons a l ih =>
    intro k D
    rw [fin]
    split
    · rfl
    · split
      · rw [ih, wst_len]
      · exact wst_len _ _ _
theorem fin_done (room : Nat) (l : List Nat) : ∀ k D, (fin room k l D).2.done ≤ D.done + l.length := by
  induction l with
  | nil => intro k D; simp [fin]
  | cons a l ih =>
    intro k D
    have h1 := (wst_done D ((room + 1 + a : Nat) : Int) (D.texts.getD (1 + k) ⟨#[]⟩)).2
    rw [fin]
    split
    · simp only [List.length_cons]; omega
    · split
      · have := ih (k + 1) (D.wstate ((room + 1 + a : Nat) : Int) (D.texts.getD (1 + k) ⟨#[]⟩))
        simp only [List.length_cons]
        omega
      · simp only [List.length_cons]
        omega
theorem cps_len (l : List (Int × ByteArray)) : ∀ k, (cps k l).length = l.length := by
  induction l with
  | nil => intro k; rfl
  | cons p l ih => intro k; simp [cps, ih]
theorem rnums_len (s : List UInt8) (n : Nat) : ∀ c p met l q, rnums s n c p met = some (l, q) → l.length = met.length + c := by
  intro c
  induction c with
  | zero => intro p met l q h; simp only [rnums, Option.some.injEq, Prod.mk.injEq] at h; rw [← h.1]; rfl
  | succ c ih =>
    intro p met l q h
    rw [rnums] at h
    split at h
    · cases h
    · rw [ih _ _ _ _ h]; simp; omega
theorem rhead_len {s : List UInt8} {room n : Nat} {l : List Nat} (h : rhead s room n = some l) : l.length ≤ room := by
  unfold rhead at h
  split at h
  · cases h
  · split at h
    · cases h
    · rename_i l' p he
      split at h
      · cases h
        have := rnums_len s n _ _ _ _ _ he
        simp at this
        omega
      · cases h
theorem rnums_in (s : List UInt8) (n : Nat) : ∀ c p met l q, rnums s n c p met = some (l, q) → (∀ a ∈ met, a < n) → met.Nodup → (∀ a ∈ l, a < n) ∧ l.Nodup := by
  intro c
  induction c with
  | zero => intro p met l q h h1 h2; simp only [rnums, Option.some.injEq, Prod.mk.injEq] at h; rw [← h.1]; exact ⟨h1, h2⟩
  | succ c ih =>
    intro p met l q h h1 h2
    rw [rnums] at h
    split at h
    · cases h
    · rename_i hc
      refine ih _ _ _ _ h ?_ ?_
      · intro a ha
        rcases List.mem_append.1 ha with ha | ha
        · exact h1 a ha
        · simp only [List.mem_singleton] at ha
          subst ha
          omega
      · rw [List.nodup_append]
        refine ⟨h2, by simp, fun a ha b hb hab => ?_⟩
        simp only [List.mem_singleton] at hb
        subst hb; subst hab
        exact hc (Or.inr (Or.inr ha))
theorem rhead_in {s : List UInt8} {room n : Nat} {l : List Nat} (h : rhead s room n = some l) : (∀ a ∈ l, a < n) ∧ l.Nodup := by
  unfold rhead at h
  split at h
  · cases h
  · split at h
    · cases h
    · rename_i l' p he
      split at h
      · cases h
        exact rnums_in s n _ _ _ _ _ he (by simp) (by simp)
      · cases h
end Go.Proofs.YtclnhgfionfbbaaGreatDoor
