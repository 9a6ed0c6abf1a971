/-
  A bus in memory: a block of two cells, and the letters' row in a block of its own; the blocks that a call on it may turn. Plain; the types are the caller's.
-/
import Derived.Test.YtgdfbpgnknnkpaaApd
import Derived.Test.YtgdfbpgnknnkpaaLt
namespace Go.Proofs.Ytgdfbpgnknnkpaa
open Go.RowKit
set_option linter.unusedVariables false

/-- Block bb is a bus, its letters' slice v: these letters, and this next number. -/
structure IsBus (TB TL : TypeId) (w : World) (bb : Nat) (v : Value) (b : Bs) : Prop where
  blk : w.heap[bb]? = some (.cells #[v, .int .i64 b.next] TB (0, 0))
  own : w.ownsRow 0 TL 8 v b.list.length (b.list.flatMap fLt)
/-- The blocks that a call on the bus may turn. -/
def dom (bb : Nat) (v : Value) : List Nat := bb :: v.ownBlock.toList
theorem mem_dom {bb k : Nat} {v : Value} : k ∈ dom bb v ↔ k = bb ∨ v.ownBlock = some k := by
  unfold dom
  simp [Option.mem_toList, eq_comm]
/-- What a bus may turn behind a call it might have turned before, or is new. -/
def Nearer (n : Nat) (D D' : List Nat) : Prop := ∀ k ∈ D', k ∈ D ∨ n ≤ k
theorem Nearer.refl (n : Nat) (D : List Nat) : Nearer n D D := fun _ h => Or.inl h
theorem Nearer.trans {n m : Nat} {A B C : List Nat} (h : Nearer n A B) (k : Nearer m B C) (hm : n ≤ m) : Nearer n A C := fun x hx => by
  rcases k x hx with h1 | h1
  · exact h x h1
  · exact Or.inr (Nat.le_trans hm h1)
theorem Moved.nearer {n : Nat} {v v' : Value} (h : Moved n v v') (bb : Nat) : Nearer n (dom bb v) (dom bb v') := fun k hk => by
  rcases mem_dom.1 hk with rfl | hk
  · exact Or.inl (mem_dom.2 (Or.inl rfl))
  · rcases h with h | ⟨q, h1, h2⟩
    · exact Or.inl (mem_dom.2 (Or.inr (h.symm.trans hk)))
    · rw [h1] at hk; cases hk; exact Or.inr h2
section
variable {TB TL : TypeId} {w w' : World} {bb : Nat} {v : Value} {b : Bs}
theorem IsBus.dom_lt (h : IsBus TB TL w bb v b) : ∀ k ∈ dom bb v, k < w.heap.size := fun k hk => by
  rcases mem_dom.1 hk with rfl | hk
  · exact lt_of_block h.blk
  · exact (h.own.lt k hk).2
theorem IsBus.keep {L : List Nat} (h : IsBus TB TL w bb v b) (t : Tch L w w') (hn : ∀ k ∈ dom bb v, k ∉ L) : IsBus TB TL w' bb v b :=
  ⟨t.keep h.blk (hn bb (mem_dom.2 (Or.inl rfl))), own_keep h.own t (fun k hk => hn k (mem_dom.2 (Or.inr hk)))⟩
theorem IsBus.keep0 (h : IsBus TB TL w bb v b) (t : Tch [] w w') : IsBus TB TL w' bb v b := h.keep t (fun _ _ => by simp)
theorem IsBus.slice (h : IsBus TB TL w bb v b) : ∃ y c, v = .slice y b.list.length c ∧ b.list.length ≤ c := by
  rcases h.own.2 with ⟨h1, h2⟩ | ⟨g, c, cur, h1, _, _, h3, _⟩
  · exact ⟨none, 0, by rw [h1, h2], by omega⟩
  · exact ⟨_, c, h1, h3⟩
/-- The letters, as a row of them. -/
theorem IsBus.row (h : IsBus TB TL w bb v b) : ∃ y c rb ro, v = .slice y b.list.length c ∧ IsR fLt 8 w y b.list.length rb ro b.list ∧ (0 < b.list.length → rb ∈ dom bb v) := by
  obtain ⟨y, c, hv, hc⟩ := h.slice
  have ho := h.own
  rw [hv] at ho
  obtain ⟨rb, hr, _, _⟩ := IsR.own fLt_len ho rfl
  refine ⟨y, c, rb, 0, hv, hr, fun h0 => mem_dom.2 (Or.inr ?_)⟩
  rw [hv, hr.some_ h0]; rfl
theorem IsBus.c0 (h : IsBus TB TL w bb v b) : w.cell? ⟨bb, 0, none⟩ = some v := by rw [blk_cell h.blk]; rfl
theorem IsBus.c1 (h : IsBus TB TL w bb v b) : w.cell? ⟨bb, 1, none⟩ = some (.int .i64 b.next) := by rw [blk_cell h.blk]; rfl
/-- Another frame for a call on the bus: from a world in which all that it may turn is new. -/
theorem Tch.bus {a w w' : World} {D : List Nat} (t : Tch [] a w) (k : Tch D w w') (hD : ∀ q ∈ D, a.heap.size ≤ q) : Tch [] a w' := t.transNew k (fun m hm => Or.inr (hD m hm))
theorem Nearer.new {a n : Nat} {D D' : List Nat} (h : Nearer n D D') (hD : ∀ q ∈ D, a ≤ q) (ha : a ≤ n) : ∀ q ∈ D', a ≤ q := fun q hq => by
  rcases h q hq with h1 | h1
  · exact hD q h1
  · omega
end
/-- Two lists of blocks without a block in common. -/
def Dj (D E : List Nat) : Prop := ∀ k ∈ D, k ∉ E
theorem Dj.symm {D E : List Nat} (h : Dj D E) : Dj E D := fun k h1 h2 => h k h2 h1
theorem Dj.near {D D' E : List Nat} {n : Nat} (h : Dj D E) (hn : Nearer n D D') (hE : ∀ k ∈ E, k < n) : Dj D' E := fun k h1 h2 => by
  rcases hn k h1 with h3 | h3
  · exact h k h3 h2
  · have := hE k h2; omega
/-- A block of eight cells, all written. -/
theorem blk_set8 {w : World} {b : Nat} {t : TypeId} {f : Nat × Nat} {a0 a1 a2 a3 a4 a5 a6 a7 : Value} (h : w.heap[b]? = some (.cells #[a0, a1, a2, a3, a4, a5, a6, a7] t f)) (v0 v1 v2 v3 v4 v5 v6 v7 : Value) :
    ((((((((w.setCell ⟨b, 0, none⟩ v0).setCell ⟨b, 1, none⟩ v1).setCell ⟨b, 2, none⟩ v2).setCell ⟨b, 3, none⟩ v3).setCell ⟨b, 4, none⟩ v4).setCell ⟨b, 5, none⟩ v5).setCell ⟨b, 6, none⟩ v6).setCell ⟨b, 7, none⟩ v7).heap[b]? = some (.cells #[v0, v1, v2, v3, v4, v5, v6, v7] t f) := by
  have := blk_set (blk_set (blk_set (blk_set (blk_set (blk_set (blk_set (blk_set h 0 v0) 1 v1) 2 v2) 3 v3) 4 v4) 5 v5) 6 v6) 7 v7
  simpa using this
theorem tch_set8 (w : World) (b : Nat) (v0 v1 v2 v3 v4 v5 v6 v7 : Value) :
    Tch [b] w ((((((((w.setCell ⟨b, 0, none⟩ v0).setCell ⟨b, 1, none⟩ v1).setCell ⟨b, 2, none⟩ v2).setCell ⟨b, 3, none⟩ v3).setCell ⟨b, 4, none⟩ v4).setCell ⟨b, 5, none⟩ v5).setCell ⟨b, 6, none⟩ v6).setCell ⟨b, 7, none⟩ v7) :=
  ((((((((Tch.refl [b] w).setCell (by simp) _).setCell (by simp) _).setCell (by simp) _).setCell (by simp) _).setCell (by simp) _).setCell (by simp) _).setCell (by simp) _).setCell (by simp) _
/-- The bus, one letter more. -/
theorem IsBus.sent {TB TL : TypeId} {wa w2 : World} {bb : Nat} {v v' : Value} {l : List Lt} {nx : Int} (hT : TL ≠ TB) {x : Lt} (h : wa.heap[bb]? = some (.cells #[v, .int .i64 nx] TB (0, 0))) (ho : wa.ownsRow 0 TL 8 v l.length (l.flatMap fLt))
    (ho2 : w2.ownsRow 0 TL 8 v' (l.length + 1) (l.flatMap fLt ++ fLt x)) (hg : wa.grownBy w2 v.ownBlock) (hm : Moved wa.heap.size v v') :
    IsBus TB TL (w2.setCell ⟨bb, 0, none⟩ v') bb v' ⟨l ++ [x], nx⟩ ∧ Tch (dom bb v) wa (w2.setCell ⟨bb, 0, none⟩ v') ∧ w2.heap[bb]? = some (.cells #[v, .int .i64 nx] TB (0, 0)) := by
  have hn := own_neT ho h hT
  have hb2 : w2.heap[bb]? = some (.cells #[v, .int .i64 nx] TB (0, 0)) := by rw [hg.block bb (lt_of_block h) (fun e => hn e.symm)]; exact h
  have hn2 := own_neT ho2 hb2 hT
  have ts : Tch [bb] w2 (w2.setCell ⟨bb, 0, none⟩ v') := (Tch.refl [bb] w2).setCell (by simp) _
  refine ⟨⟨?_, ?_⟩, ?_, hb2⟩
  · have := blk_set hb2 0 v'
    simpa using this
  · show World.ownsRow _ 0 TL 8 v' (l ++ [x]).length ((l ++ [x]).flatMap fLt)
    rw [List.length_append, List.flatMap_append]
    simp only [List.length_singleton, List.flatMap_cons, List.flatMap_nil, List.append_nil]
    exact own_keep ho2 ts (fun k hk hm => by simp only [List.mem_singleton] at hm; subst hm; exact hn2 hk)
  · exact (Tch.ofGrown hg (fun k hk => mem_dom.2 (Or.inr hk))).trans (ts.mono (fun k hk => by simp only [List.mem_singleton] at hk; subst hk; exact mem_dom.2 (Or.inl rfl)))
/-- .. behind a draw and a new block, as a statement 'b.list = append(b.list, x)' goes. -/
theorem IsBus.step {TB TL : TypeId} {W5 : World} {bb : Nat} {v : Value} {l : List Lt} {nx : Int} (hT : TL ≠ TB) (x : Lt) (h : IsBus TB TL W5 bb v ⟨l, nx⟩) (t : TypeId) (cs : Array Value) (v' : Value) (W' : World)
    (h1 : W'.ownsRow 0 TL 8 v' (l.length + 1) (l.flatMap fLt ++ fLt x)) (h2 : ((W5.alloc (.cells cs t)).drew).grownBy W' v.ownBlock) (h3 : Moved ((W5.alloc (.cells cs t)).drew).heap.size v v') :
    W'.frozen? ⟨bb, 0, none⟩ = false ∧ W'.cell? ⟨bb, 0, none⟩ = some v ∧ IsBus TB TL (W'.setCell ⟨bb, 0, none⟩ v') bb v' ⟨l ++ [x], nx⟩ ∧ Tch (dom bb v) W5 (W'.setCell ⟨bb, 0, none⟩ v') ∧ Nearer W5.heap.size (dom bb v) (dom bb v') := by
  have ta : Tch [] W5 ((W5.alloc (.cells cs t)).drew) := ((Tch.refl [] W5).alloc _).drew
  have hk := h.keep0 ta
  obtain ⟨g1, g2, g3⟩ := IsBus.sent (x := x) (l := l) hT hk.blk hk.own h1 h2 h3
  refine ⟨blk_free g3 0, by rw [blk_cell g3]; rfl, g1, (ta.mono (by simp)).trans g2, ?_⟩
  refine Moved.nearer ?_ bb
  rcases h3 with h3 | ⟨k, h4, h5⟩
  · exact Or.inl h3
  · exact Or.inr ⟨k, h4, Nat.le_trans ta.size h5⟩
end Go.Proofs.Ytgdfbpgnknnkpaa
