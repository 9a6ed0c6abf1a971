/-
  Rows of elements of one kind, each of 'sz' cells: slices that came in, or of a call's own. Plain notions that speak of no program.
-/
import Derived.Test.YtenohgogfddniaaRowsIn
namespace Go.Proofs.Ytenohgogfddniaa
open Go.RowKit
set_option linter.unusedVariables false

/-- A slice of 'len' elements 'xs', the cells of each by 'f', 'sz' of them; it begins at place o of block b. -/
structure IsR {α : Type} (f : α → List Value) (sz : Nat) (w : World) (a : Option Addr) (len b o : Nat) (xs : List α) : Prop where
  hlen : len = xs.length
  at_ : len = 0 ∨ a = some ⟨b, o, none⟩ ∧ b < w.heap.size
  row : ∀ (k : Nat) x, xs[k]? = some x → ∀ (j : Nat) v, (f x)[j]? = some v → w.cell? ⟨b, o + k * sz + j, none⟩ = some v

variable {α : Type} {f : α → List Value} {sz : Nat}

theorem IsR.keep {w w' : World} {a : Option Addr} {len b o : Nat} {xs : List α} {L : List Nat} (h : IsR f sz w a len b o xs) (t : Tch L w w') (hn : 0 < len → b ∉ L) : IsR f sz w' a len b o xs := by
  have hl := h.hlen
  refine ⟨hl, ?_, fun k x hk j v hv => ?_⟩
  · rcases h.at_ with h1 | ⟨h1, h2⟩
    · exact Or.inl h1
    · exact Or.inr ⟨h1, Nat.lt_of_lt_of_le h2 t.size⟩
  · have hlt := (List.getElem?_eq_some_iff.1 hk).1
    rcases h.at_ with h1 | ⟨_, h2⟩
    · omega
    · rw [t.cell h2 (hn (by omega))]
      exact h.row k x hk j v hv
theorem IsR.keep0 {w w' : World} {a : Option Addr} {len b o : Nat} {xs : List α} (h : IsR f sz w a len b o xs) (t : Tch [] w w') : IsR f sz w' a len b o xs := h.keep t (fun _ => by simp)
theorem IsR.nil (w : World) (a : Option Addr) (b o : Nat) : IsR f sz w a 0 b o [] := ⟨rfl, Or.inl rfl, fun k x hk => by simp at hk⟩
theorem IsR.some_ {w : World} {a : Option Addr} {len b o : Nat} {xs : List α} (h : IsR f sz w a len b o xs) (hp : 0 < len) : a = some ⟨b, o, none⟩ := by
  rcases h.at_ with h1 | ⟨h1, _⟩
  · omega
  · exact h1
theorem IsR.lt {w : World} {a : Option Addr} {len b o : Nat} {xs : List α} (h : IsR f sz w a len b o xs) (hp : 0 < len) : b < w.heap.size := by
  rcases h.at_ with h1 | ⟨_, h1⟩
  · omega
  · exact h1
/-- The cells of one element. -/
theorem IsR.c0 {w : World} {a : Option Addr} {len b o : Nat} {xs : List α} (h : IsR f sz w a len b o xs) {k : Nat} {x : α} (hk : xs[k]? = some x) {v : Value} (hv : (f x)[0]? = some v) : w.cell? ⟨b, o + k * sz, none⟩ = some v := by
  have := h.row k x hk 0 v hv; rwa [Nat.add_zero] at this
theorem IsR.c {w : World} {a : Option Addr} {len b o : Nat} {xs : List α} (h : IsR f sz w a len b o xs) {k : Nat} {x : α} (hk : xs[k]? = some x) (j : Nat) {v : Value} (hv : (f x)[j]? = some v) : w.cell? ⟨b, o + k * sz + j, none⟩ = some v := h.row k x hk j v hv
/-- .. of a row of single cells. -/
theorem IsR.one {w : World} {a : Option Addr} {len b o : Nat} {xs : List α} (h : IsR f 1 w a len b o xs) {k : Nat} {x : α} (hk : xs[k]? = some x) {v : Value} (hv : (f x)[0]? = some v) : w.cell? ⟨b, o + k, none⟩ = some v := by
  have := h.row k x hk 0 v hv; rwa [Nat.add_zero, Nat.mul_one] at this

/-- The cells of all. -/
theorem fm_len (hf : ∀ x, (f x).length = sz) (xs : List α) : (xs.flatMap f).length = xs.length * sz := by
  induction xs with
  | nil => simp
  | cons x xs ih => rw [List.flatMap_cons, List.length_append, ih, hf, List.length_cons, Nat.add_mul]; omega
theorem fm_at (hf : ∀ x, (f x).length = sz) : ∀ (xs : List α) (k : Nat) x, xs[k]? = some x → ∀ (j : Nat) v, (f x)[j]? = some v → (xs.flatMap f)[k * sz + j]? = some v
  | [], k, x, hk, _, _, _ => by simp at hk
  | y :: xs, 0, x, hk, j, v, hv => by
    simp at hk; subst hk
    rw [List.flatMap_cons, Nat.zero_mul, Nat.zero_add, List.getElem?_append_left (List.getElem?_eq_some_iff.1 hv).1]; exact hv
  | y :: xs, k + 1, x, hk, j, v, hv => by
    rw [List.flatMap_cons, List.getElem?_append_right (by rw [hf, Nat.add_mul]; omega), hf, show (k + 1) * sz + j - sz = k * sz + j from by rw [Nat.add_mul]; omega]
    exact fm_at hf xs k x (by simpa using hk) j v hv
theorem fm_inv (hf : ∀ x, (f x).length = sz) : ∀ (xs : List α) (i : Nat) v, (xs.flatMap f)[i]? = some v → ∃ k x j, xs[k]? = some x ∧ (f x)[j]? = some v ∧ i = k * sz + j
  | [], i, v, h => by simp at h
  | y :: xs, i, v, h => by
    rw [List.flatMap_cons] at h
    by_cases hi : i < (f y).length
    · rw [List.getElem?_append_left hi] at h
      exact ⟨0, y, i, rfl, h, by omega⟩
    · rw [List.getElem?_append_right (by omega)] at h
      obtain ⟨k, x, j, h1, h2, h3⟩ := fm_inv hf xs _ v h
      rw [hf] at h3
      exact ⟨k + 1, x, j, by simpa using h1, h2, by rw [Nat.add_mul]; rw [hf] at hi; omega⟩
theorem fm_snoc (xs : List α) (k : Nat) (x : α) (h : xs[k]? = some x) : (xs.take (k + 1)).flatMap f = (xs.take k).flatMap f ++ f x := by
  rw [List.take_add_one, h, List.flatMap_append]; simp
theorem fm_one (h1 : ∀ x, ∀ u ∈ f x, u.oneCell' = true) (xs : List α) : ∀ u ∈ xs.flatMap f, u.oneCell' = true := fun u hu => by
  obtain ⟨x, _, hx⟩ := List.mem_flatMap.1 hu
  exact h1 x u hx
/-- A row of a call's own. -/
theorem IsR.own {T : TypeId} {w : World} {base len n : Nat} {y : Option Addr} {c : Nat} {xs : List α} (hf : ∀ x, (f x).length = sz) (h : w.ownsRow base T sz (.slice y n c) len (xs.flatMap f)) (hl : len = xs.length) :
    ∃ b, IsR f sz w y len b 0 xs ∧ n = len ∧ (0 < len → base ≤ b) := by
  rcases h.2 with ⟨hv, h0⟩ | ⟨g, cap, cur, hv, hg, hb, hcap, _, hcs, htk⟩
  · cases hv
    exact ⟨0, ⟨hl, Or.inl h0, fun k x hk => by have := (List.getElem?_eq_some_iff.1 hk).1; omega⟩, h0.symm, fun h => by omega⟩
  · cases hv
    refine ⟨g, ⟨hl, Or.inr ⟨rfl, lt_of_block hb⟩, fun k x hk j v hv => ?_⟩, rfl, fun _ => hg⟩
    have h1 := fm_at hf xs k x hk j v hv
    have hlt := (List.getElem?_eq_some_iff.1 h1).1
    rw [fm_len hf] at hlt
    rw [← htk, List.getElem?_take, if_pos (by rw [hl]; exact hlt), Array.getElem?_toList] at h1
    rw [blk_cell hb, Nat.zero_add]; exact h1
theorem own_cap {T : TypeId} {w : World} {base len n : Nat} {y : Option Addr} {c : Nat} {xs : List Value} (h : w.ownsRow base T sz (.slice y n c) len xs) : len ≤ c := by
  rcases h.2 with ⟨hv, h0⟩ | ⟨g, cap, cur, hv, _, _, hcap, _⟩
  · cases hv; omega
  · cases hv; exact hcap
/-- A part of a row. -/
theorem IsR.part {w : World} {a : Option Addr} {len b o : Nat} {xs : List α} (h : IsR f sz w a len b o xs) (i n : Nat) (hi : i + n ≤ len) (a2 : Option Addr) (ha : 0 < n → a2 = some ⟨b, o + i * sz, none⟩) : IsR f sz w a2 n b (o + i * sz) ((xs.drop i).take n) := by
  have hl := h.hlen
  refine ⟨by rw [List.length_take, List.length_drop]; omega, ?_, fun k x hk j v hv => ?_⟩
  · by_cases h0 : 0 < n
    · exact Or.inr ⟨ha h0, h.lt (by omega)⟩
    · exact Or.inl (by omega)
  · rw [List.getElem?_take] at hk
    split at hk
    · rw [List.getElem?_drop] at hk
      have := h.row (i + k) x hk j v hv
      rw [Nat.add_mul] at this
      rw [show o + i * sz + k * sz + j = o + (i * sz + k * sz) + j from by omega]
      exact this
    · cases hk
/-- All cells of a row, as a slice's address has them. -/
theorem IsR.cells {w : World} {y : Addr} {len b o : Nat} {xs : List α} (hf : ∀ x, (f x).length = sz) (h : IsR f sz w (some y) len b o xs) : ∀ j u, (xs.flatMap f)[j]? = some u → w.cell? (y.add j) = some u := fun j u hu => by
  obtain ⟨k, x, i, h1, h2, rfl⟩ := fm_inv hf xs j u hu
  have hlt := (List.getElem?_eq_some_iff.1 h1).1
  have hy := h.some_ (by have := h.hlen; omega)
  cases hy
  rw [add_mk, ← Nat.add_assoc]
  exact h.row k x h1 i u h2

/-- The cells of a text, of a number. -/
def fStr (s : ByteArray) : List Value := [.string s]
def fInt (n : Int) : List Value := [.int .i64 n]
end Go.Proofs.Ytenohgogfddniaa
