/-
  Plain notions that speak of no program: which blocks of memory a call may have turned ('Tch'), what a whole block holds, rows of a call's own.
-/
import Derived.WalkKit
import Derived.Lib.Repeat
import Derived.Lib.Hide
import Derived.Laws.AppendOwn
import Derived.Deep.QuietTactic
namespace Go.Proofs.Ytenohgogfddniaa
open Go.RowKit
set_option linter.unusedVariables false

/-- What turned between two worlds lies in the blocks of L, or is new. -/
structure Tch (L : List Nat) (w w' : World) : Prop where
  os : w'.os = w.os
  tape : w'.tape = w.tape
  output : w'.output = w.output
  size : w.heap.size ≤ w'.heap.size
  block : ∀ k, k < w.heap.size → k ∉ L → w'.heap[k]? = w.heap[k]?

theorem Tch.refl (L : List Nat) (w : World) : Tch L w w := ⟨rfl, rfl, rfl, Nat.le_refl _, fun _ _ _ => rfl⟩
theorem Tch.trans {L : List Nat} {a b c : World} (h : Tch L a b) (k : Tch L b c) : Tch L a c :=
  ⟨k.os.trans h.os, k.tape.trans h.tape, k.output.trans h.output, Nat.le_trans h.size k.size, fun i hi hn => (k.block i (Nat.lt_of_lt_of_le hi h.size) hn).trans (h.block i hi hn)⟩
theorem Tch.mono {L L' : List Nat} {w w' : World} (h : Tch L w w') (hL : ∀ k ∈ L, k ∈ L') : Tch L' w w' :=
  ⟨h.os, h.tape, h.output, h.size, fun k hk hn => h.block k hk (fun hm => hn (hL k hm))⟩
theorem Tch.drew {L : List Nat} {a w : World} (h : Tch L a w) : Tch L a w.drew := ⟨h.os, h.tape, h.output, h.size, h.block⟩
theorem Tch.ofBelow {w w' : World} (h : Below w.heap.size w w') : Tch [] w w' := ⟨h.os, h.tape, h.output, h.size, fun k hk _ => h.block k hk⟩
theorem Tch.alloc {L : List Nat} {a w : World} (h : Tch L a w) (o : Obj) : Tch L a (w.alloc o) :=
  h.trans ⟨rfl, rfl, rfl, by simp, fun _ hk _ => Below.heap_alloc _ _ _ hk⟩
theorem Tch.setCell {L : List Nat} {a w : World} (h : Tch L a w) {p : Addr} (hp : p.block ∈ L) (u : Value) : Tch L a (w.setCell p u) :=
  h.trans ⟨rfl, rfl, rfl, by simp [World.setCell], fun _ _ hn => Below.heap_setCell _ _ _ _ (fun e => hn (e ▸ hp))⟩
/-- A store into a block that is newer than 'a'. -/
theorem Tch.setNew {L : List Nat} {a w : World} (h : Tch L a w) {p : Addr} (hp : a.heap.size ≤ p.block) (u : Value) : Tch L a (w.setCell p u) :=
  ⟨h.os, h.tape, h.output, by have := h.size; simp [World.setCell]; exact this, fun k hk hn => (Below.heap_setCell _ _ _ _ (by omega)).trans (h.block k hk hn)⟩
/-- What a later step turns, and what was not there at first, is new. -/
theorem Tch.transNew {L M : List Nat} {a b c : World} (h : Tch L a b) (k : Tch M b c) (hM : ∀ m ∈ M, m ∈ L ∨ a.heap.size ≤ m) : Tch L a c :=
  ⟨k.os.trans h.os, k.tape.trans h.tape, k.output.trans h.output, Nat.le_trans h.size k.size, fun i hi hn => (k.block i (Nat.lt_of_lt_of_le hi h.size) (fun hm => by rcases hM i hm with h1 | h1; exact hn h1; omega)).trans (h.block i hi hn)⟩
theorem Tch.below {L : List Nat} {B : Nat} {w w' : World} (h : Tch L w w') (hB : B ≤ w.heap.size) (hL : ∀ k ∈ L, B ≤ k) : Below B w w' :=
  ⟨h.os, h.tape, h.output, h.size, fun k hk => h.block k (by omega) (fun hm => by have := hL k hm; omega)⟩
theorem Tch.keep {L : List Nat} {w w' : World} (h : Tch L w w') {b : Nat} {o : Obj} (hb : w.heap[b]? = some o) (hn : b ∉ L) : w'.heap[b]? = some o :=
  (h.block b (lt_of_block hb) hn).trans hb

theorem blk_cell {w : World} {b : Nat} {cs : Array Value} {t : TypeId} {f : Nat × Nat} (h : w.heap[b]? = some (.cells cs t f)) (o : Nat) : w.cell? ⟨b, o, none⟩ = cs[o]? := by simp [World.cell?, h]
theorem blk_free {w : World} {b : Nat} {cs : Array Value} {t : TypeId} (h : w.heap[b]? = some (.cells cs t (0, 0))) (o : Nat) : w.frozen? ⟨b, o, none⟩ = false := by simp [World.frozen?, h]
theorem blk_set {w : World} {b : Nat} {cs : Array Value} {t : TypeId} {f : Nat × Nat} (h : w.heap[b]? = some (.cells cs t f)) (o : Nat) (u : Value) : (w.setCell ⟨b, o, none⟩ u).heap[b]? = some (.cells (cs.setIfInBounds o u) t f) := by
  have hlt := lt_of_block h
  have h' : w.heap[b] = .cells cs t f := by simpa [Array.getElem?_eq_getElem hlt] using h
  show (w.heap.modify b _)[b]? = _
  rw [Array.getElem?_eq_getElem (by simpa using hlt), Array.getElem_modify_self, h']
  rfl
theorem blk_other {w : World} {b c : Nat} {o : Obj} (h : w.heap[b]? = some o) (hn : b ≠ c) (i : Nat) (u : Value) : (w.setCell ⟨c, i, none⟩ u).heap[b]? = some o := (Below.heap_setCell _ _ _ _ hn).trans h
theorem blk_alloc {w : World} {b : Nat} {o : Obj} (h : w.heap[b]? = some o) (x : Obj) : (w.alloc x).heap[b]? = some o := (Below.heap_alloc _ _ _ (lt_of_block h)).trans h
theorem blk_new (w : World) (x : Obj) : (w.alloc x).heap[w.heap.size]? = some x := by show (w.heap.push x)[w.heap.size]? = some x; simp
theorem own_keep {w w' : World} {base size n : Nat} {e : TypeId} {v : Value} {xs : List Value} {L : List Nat} (h : w.ownsRow base e size v n xs) (t : Tch L w w') (hn : ∀ k, v.ownBlock = some k → k ∉ L) : w'.ownsRow base e size v n xs := by
  refine ⟨h.1, ?_⟩
  rcases h.2 with h2 | ⟨g, cap, cur, rfl, h3, h4, h5⟩
  · exact Or.inl h2
  · exact Or.inr ⟨g, cap, cur, rfl, h3, t.keep h4 (hn g rfl), h5⟩
theorem own_base {w : World} {base base' size n : Nat} {e : TypeId} {v : Value} {xs : List Value} (h : w.ownsRow base e size v n xs) (hb : base' ≤ base) : w.ownsRow base' e size v n xs := by
  refine ⟨h.1, ?_⟩
  rcases h.2 with h2 | ⟨g, cap, cur, rfl, h3, h4⟩
  · exact Or.inl h2
  · exact Or.inr ⟨g, cap, cur, rfl, Nat.le_trans hb h3, h4⟩
theorem Tch.belowNew {w a b : World} (t : Tch [] w a) (h : Below w.heap.size a b) : Tch [] w b :=
  ⟨h.os.trans t.os, h.tape.trans t.tape, h.output.trans t.output, Nat.le_trans t.size h.size, fun k hk hn => (h.block k hk).trans (t.block k hk hn)⟩
theorem tdrewN {L : List Nat} {a w : World} (h : Tch L a w) (n : Nat) : Tch L a (w.drewN n) := ⟨h.os, h.tape, h.output, h.size, h.block⟩
/-- A call that leaves the world alone, in a region that only reads. -/
theorem quietSame' {P : Program} {f : FuncId} {args : Array Value} {w : World} {n : Nat} {v : Value}
    (h : Calls P f args (w.drewN n) fun e w' => e = .returned v ∧ w.drewN n = w') : Calls P f args (w.drewN n) fun e w'' => e = .returned v ∧ ∃ m, w'' = w.drewN m :=
  h.mono fun _ _ ⟨he, hm⟩ => ⟨he, n, hm.symm⟩
theorem Tch.grown {w a b : World} {row : Option Nat} (t : Tch [] w a) (hg : a.grownBy b row) (h : ∀ k, row = some k → w.heap.size ≤ k) : Tch [] w b :=
  ⟨hg.os.trans t.os, hg.tape.trans t.tape, hg.output.trans t.output, Nat.le_trans t.size hg.size, fun k hk hn => (hg.block k (Nat.lt_of_lt_of_le hk t.size) (fun e => by have := h k e.symm; omega)).trans (t.block k hk hn)⟩
theorem Tch.own {w a b : World} {base : Nat} {e : TypeId} {size n : Nat} {v : Value} {xs : List Value} (t : Tch [] w a) (ho : a.ownsRow base e size v n xs) (hb : w.heap.size ≤ base) (hg : a.grownBy b v.ownBlock) : Tch [] w b :=
  t.grown hg (fun k hk => Nat.le_trans hb (ho.lt k hk).1)
theorem own_slice {w : World} {base : Nat} {e : TypeId} {v : Value} {n : Nat} {xs : List Value} {size : Nat} (h : w.ownsRow base e size v n xs) : ∃ x c, v = .slice x n c := by
  rcases h.2 with ⟨h1, h2⟩ | ⟨g, c, cur, h1, _⟩
  · exact ⟨_, _, by rw [h1, h2]⟩
  · exact ⟨_, _, h1⟩
end Go.Proofs.Ytenohgogfddniaa
