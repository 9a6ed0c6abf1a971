/-
  The law NodeKeeps, walked: what is handed in isn't changed by Split, Join, Encode, nor by what is written into what they answer. Condition: lists and texts of fewer than 10^7 parts.
-/
import Derived.Test.YtlgfdfpafmopdaaNtw
import Derived.Test.YtlgfdfpafmopdaaNen
import Derived.Test.YtlgfdfpafmopdaaNwp
namespace Go.Proofs.Ytlgfdfpafmopdaa
open Go.RowKit
set_option linter.unusedVariables false

/-! ### rows that may be written -/
/-- A slice whose n elements may be written: its block is of type e, from B on. -/
def RowW (B : Nat) (e : TypeId) (x : Option Addr) (n : Nat) (w : World) : Prop := n = 0 ∨ ∃ (g : Nat) (cur : Array Value), x = some ⟨g, 0, none⟩ ∧ B ≤ g ∧ w.heap[g]? = some (.cells cur e (0, 0)) ∧ n ≤ cur.size ∧ n ≤ maxLen
theorem RowW.own {B n c : Nat} {e : TypeId} {x : Option Addr} {xs : List Value} {w : World} (h : w.ownsRow B e 1 (.slice x n c) n xs) : RowW B e x n w := by
  rcases h.2 with ⟨hv, h0⟩ | ⟨g, cap, cur, hv, hg, hb, h1, h2, h3, _⟩
  · exact Or.inl h0
  · cases hv; exact Or.inr ⟨g, cur, rfl, hg, hb, by omega, by omega⟩
theorem RowW.keep {B n : Nat} {e : TypeId} {x : Option Addr} {w w' : World} (h : RowW B e x n w) (t : Tch [] w w') : RowW B e x n w' := by
  rcases h with h | ⟨g, cur, h1, h2, h3, h4⟩
  · exact Or.inl h
  · exact Or.inr ⟨g, cur, h1, h2, t.keep h3 (by simp), h4⟩
theorem RowW.set {B n : Nat} {e : TypeId} {x : Option Addr} {w : World} (h : RowW B e x n w) (q i : Nat) (u : Value) : RowW B e x n (w.setCell ⟨q, i, none⟩ u) := by
  rcases h with h | ⟨g, cur, h1, h2, h3, h4⟩
  · exact Or.inl h
  · by_cases hq : g = q
    · subst hq
      exact Or.inr ⟨g, cur.setIfInBounds i u, h1, h2, blk_set h3 i u, by simp; exact h4⟩
    · exact Or.inr ⟨g, cur, h1, h2, blk_other h3 hq _ _, h4⟩
structure MkN (B : Nat) (ka : Option Addr) (kn : Nat) (va : Option Addr) (vn : Nat) (ia : Option Addr) (im : Nat) (w : World) : Prop where
  k : RowW B 9 ka kn w
  v : RowW B 9 va vn w
  i : RowW B 3 ia im w
theorem MkN.keep {B : Nat} {ka va ia : Option Addr} {kn vn im : Nat} {w w' : World} (h : MkN B ka kn va vn ia im w) (t : Tch [] w w') : MkN B ka kn va vn ia im w' := ⟨h.k.keep t, h.v.keep t, h.i.keep t⟩
theorem MkN.set {B : Nat} {ka va ia : Option Addr} {kn vn im : Nat} {w : World} (h : MkN B ka kn va vn ia im w) (q i : Nat) (u : Value) : MkN B ka kn va vn ia im (w.setCell ⟨q, i, none⟩ u) := ⟨h.k.set q i u, h.v.set q i u, h.i.set q i u⟩
/-- What stays while what was answered is written over: all that is older than B, the list of the nodes; and their rows may be written. -/
structure Mk (B : Nat) (W0 : World) (gl : Nat) (cs : Array Value) (us : List Nv) (w : World) : Prop where
  below : Below B W0 w
  row : w.heap[gl]? = some (.cells cs 25 (0, 0))
  nodes : ∀ u ∈ us, MkN B u.ka u.kn u.va u.vn u.ia u.im w
theorem Mk.keep {B gl : Nat} {W0 : World} {cs : Array Value} {us : List Nv} {w w' : World} (h : Mk B W0 gl cs us w) (hB : B ≤ w.heap.size) (t : Tch [] w w') : Mk B W0 gl cs us w' :=
  ⟨by
    have b := h.below
    exact ⟨t.os.trans b.os, t.tape.trans b.tape, t.output.trans b.output, Nat.le_trans b.size t.size, fun k hk => (t.block k (by omega) (by simp)).trans (b.block k hk)⟩, t.keep h.row (by simp), fun u hu => (h.nodes u hu).keep t⟩
theorem Mk.set {B gl : Nat} {W0 : World} {cs : Array Value} {us : List Nv} {w : World} (h : Mk B W0 gl cs us w) {q : Nat} {cur : Array Value} {e : TypeId} (hq : B ≤ q) (hb : w.heap[q]? = some (.cells cur e (0, 0))) (he : e ≠ 25) (i : Nat) (u : Value) : Mk B W0 gl cs us (w.setCell ⟨q, i, none⟩ u) := by
  have hne : gl ≠ q := fun e1 => by
    subst e1
    have h1 := h.row
    rw [hb] at h1
    simp only [Option.some.injEq, Obj.cells.injEq] at h1
    exact he h1.2.1
  exact ⟨h.below.setCell (p := ⟨q, i, none⟩) hq u, blk_other h.row hne _ _, fun x hx => (h.nodes x hx).set q i u⟩

theorem zk1 {X w3 : World} {o : Obj} (t : Tch [] (X.alloc o) w3) : w3.heap[X.heap.size]? = some o := t.keep (blk_new X o) (by simp)
theorem zk2 {X w3 : World} {o o2 : Obj} (t : Tch [] ((X.alloc o).alloc o2) w3) : w3.heap[X.heap.size]? = some o ∧ w3.heap[X.heap.size + 1]? = some o2 :=
  ⟨t.keep (blk_alloc (blk_new X o) o2) (by simp), by
    have := t.keep (blk_new (X.alloc o) o2) (by simp)
    rw [show (X.alloc o).heap.size = X.heap.size + 1 from by simp] at this
    exact this⟩
theorem zk1d {X w3 : World} {o : Obj} (t : Tch [] (X.alloc o).drew w3) : w3.heap[X.heap.size]? = some o := t.keep (show (X.alloc o).drew.heap[X.heap.size]? = some o from blk_new X o) (by simp)
theorem zk2d {X w3 : World} {o o2 : Obj} (t : Tch [] ((X.alloc o).alloc o2).drew w3) : w3.heap[X.heap.size]? = some o ∧ w3.heap[X.heap.size + 1]? = some o2 :=
  zk2 (X := X) (o := o) (o2 := o2) ((Tch.refl [] _).drew.trans t)
theorem blk_set4 {X : World} {q : Nat} {a b c d : Value} {t : TypeId} {f : Nat × Nat} (h : X.heap[q]? = some (.cells #[.bool false, .slice none 0 0, .slice none 0 0, .slice none 0 0] t f)) : ((((X.setCell ⟨q, 0, none⟩ a).setCell ⟨q, 1, none⟩ b).setCell ⟨q, 2, none⟩ c).setCell ⟨q, 3, none⟩ d).heap[q]? = some (.cells #[a, b, c, d] t f) :=
  blk_set (blk_set (blk_set (blk_set h 0 a) 1 b) 2 c) 3 d
theorem blk_new' {X : World} {o : Obj} {q : Nat} (hq : q = X.heap.size) : (X.alloc o).heap[q]? = some o := by subst hq; exact blk_new _ _
/-- The blocks from B to T stay. -/
structure Rng (B T : Nat) (w w' : World) : Prop where
  size : T ≤ w'.heap.size
  block : ∀ k, B ≤ k → k < T → w'.heap[k]? = w.heap[k]?
theorem Rng.refl {B : Nat} (w : World) : Rng B w.heap.size w w := ⟨Nat.le_refl _, fun _ _ _ => rfl⟩
theorem Rng.tch {B T : Nat} {w a b : World} (h : Rng B T w a) (t : Tch [] a b) : Rng B T w b := ⟨Nat.le_trans h.size t.size, fun k h1 h2 => (t.block k (Nat.lt_of_lt_of_le h2 h.size) (by simp)).trans (h.block k h1 h2)⟩
theorem Rng.alloc {B T : Nat} {w a : World} (h : Rng B T w a) (o : Obj) : Rng B T w (a.alloc o) := h.tch ((Tch.refl _ _).alloc o)
theorem Rng.set {B T : Nat} {w a : World} (h : Rng B T w a) {p : Addr} (hp : p.block < B ∨ T ≤ p.block) (u : Value) : Rng B T w (a.setCell p u) :=
  ⟨by have := h.size; simp [World.setCell]; exact this, fun k h1 h2 => (Below.heap_setCell _ _ _ _ (by omega)).trans (h.block k h1 h2)⟩
theorem IsR.rng {α : Type} {f : α → List Value} {sz : Nat} {w w' : World} {a : Option Addr} {len b o : Nat} {xs : List α} {B : Nat} (h : IsR f sz w a len b o xs) (hb : 0 < len → B ≤ b) (t : Rng B w.heap.size w w') : IsR f sz w' a len b o xs := by
  have hl := h.hlen
  refine ⟨hl, ?_, fun k x hk j v hv => ?_⟩
  · rcases h.at_ with h1 | ⟨h1, h2⟩
    · exact Or.inl h1
    · exact Or.inr ⟨h1, Nat.lt_of_lt_of_le h2 t.size⟩
  · have hlt := (List.getElem?_eq_some_iff.1 hk).1
    have h1 := h.lt (by omega)
    have h2 := t.block b (hb (by omega)) h1
    have := h.row k x hk j v hv
    rw [World.cell?_of_block (a := ⟨b, o + k * sz + j, none⟩) h2]
    exact this
theorem IsNv.rng {w w' : World} {u : Nv} {B : Nat} (h : IsNv w u) (hf : FreshNv B u) (t : Rng B w.heap.size w w') : IsNv w' u := ⟨h.rk.rng hf.1 t, h.rv.rng hf.2.1 t, h.ri.rng hf.2.2 t⟩
/-- The zero node's block: its cells, that it may be written, that it is there. -/
theorem zfacts {w : World} {q : Nat} (h : w.heap[q]? = some (.cells #[.bool false, .slice none 0 0, .slice none 0 0, .slice none 0 0] 25 (0, 0))) :
    w.cell? ⟨q, 0, none⟩ = some (.bool false) ∧ w.cell? ⟨q, 1, none⟩ = some (.slice none 0 0) ∧ w.cell? ⟨q, 2, none⟩ = some (.slice none 0 0) ∧ w.cell? ⟨q, 3, none⟩ = some (.slice none 0 0) ∧
    w.frozen? ⟨q, 0, none⟩ = false ∧ w.frozen? ⟨q, 1, none⟩ = false ∧ w.frozen? ⟨q, 2, none⟩ = false ∧ w.frozen? ⟨q, 3, none⟩ = false ∧ q < w.heap.size :=
  ⟨blk_cell h 0, blk_cell h 1, blk_cell h 2, blk_cell h 3, blk_free h 0, blk_free h 1, blk_free h 2, blk_free h 3, lt_of_block h⟩

theorem Try.info_nnode : (Try.prog.info? 25).map (fun i => (i.zero, i.size, i.bytes)) = some (some (.agg #[.bool false, .slice none 0 0, .slice none 0 0, .slice none 0 0]), 4, 80) := by kernel_rfl
theorem RowW.mono {B B' n : Nat} {e : TypeId} {x : Option Addr} {w : World} (h : RowW B e x n w) (hb : B' ≤ B) : RowW B' e x n w := by
  rcases h with h | ⟨g, cur, h1, h2, h3, h4⟩
  · exact Or.inl h
  · exact Or.inr ⟨g, cur, h1, by omega, h3, h4⟩
theorem MkN.mono {B B' : Nat} {ka va ia : Option Addr} {kn vn im : Nat} {w : World} (h : MkN B ka kn va vn ia im w) (hb : B' ≤ B) : MkN B' ka kn va vn ia im w := ⟨h.k.mono hb, h.v.mono hb, h.i.mono hb⟩
theorem MkN.of {B : Nat} {u : Nv} {w : World} (h : NwN B u w) (i : IsNv w u) : MkN B u.ka u.kn u.va u.vn u.ia u.im w :=
  ⟨RowW.own (xs := u.keys.map Value.string) (by have := h.hk; rw [← i.rk.hlen] at this; exact this), RowW.own (xs := u.vals.map Value.string) (by have := h.hv; rw [← i.rv.hlen] at this; exact this), RowW.own (xs := u.kids.map (Value.int .i64)) (by have := h.hi; rw [← i.ri.hlen] at this; exact this)⟩
/-- A list of nodes grows: the rows of texts and numbers stay. -/
theorem RowW.grown {B n g : Nat} {e : TypeId} {x : Option Addr} {w w' : World} {cs : Array Value} (h : RowW B e x n w) (hg : w.heap[g]? = some (.cells cs 25 (0, 0))) (he : e ≠ 25) (t : w.grownBy w' (some g)) : RowW B e x n w' := by
  rcases h with h | ⟨b, cur, h1, h2, h3, h4⟩
  · exact Or.inl h
  · have hne : b ≠ g := fun e1 => by
      subst e1
      rw [hg] at h3
      simp only [Option.some.injEq, Obj.cells.injEq] at h3
      exact he h3.2.1.symm
    exact Or.inr ⟨b, cur, h1, h2, (t.block b (lt_of_block h3) (fun e1 => hne (Option.some.inj e1))).trans h3, h4⟩
theorem MkN.grown {B g : Nat} {ka va ia : Option Addr} {kn vn im : Nat} {w w' : World} {cs : Array Value} (h : MkN B ka kn va vn ia im w) (hg : w.heap[g]? = some (.cells cs 25 (0, 0))) (t : w.grownBy w' (some g)) : MkN B ka kn va vn ia im w' := ⟨h.k.grown hg (by decide) t, h.v.grown hg (by decide) t, h.i.grown hg (by decide) t⟩
theorem kp_set {B W0 gl cs us} {w : World} {q g : Nat} {ob cur : Array Value} {e : TypeId} (h : Mk B W0 gl cs us w) (hq : w.heap[q]? = some (.cells ob 25 (0, 0))) (hg : B ≤ g) (hb : w.heap[g]? = some (.cells cur e (0, 0))) (he : e ≠ 25) (i : Nat) (u : Value) :
    Mk B W0 gl cs us (w.setCell ⟨g, i, none⟩ u) ∧ (w.setCell ⟨g, i, none⟩ u).heap[q]? = some (.cells ob 25 (0, 0)) := by
  refine ⟨h.set hg hb he i u, blk_other hq (fun e1 => ?_) _ _⟩
  subst e1
  rw [hb] at hq
  simp only [Option.some.injEq, Obj.cells.injEq] at hq
  exact he hq.2.1
theorem Tch.belowTo {a b c : World} (t : Tch [] a b) (h : Below a.heap.size b c) : Tch [] a c := ⟨h.os.trans t.os, h.tape.trans t.tape, h.output.trans t.output, Nat.le_trans t.size h.size, fun k hk _ => (h.block k hk).trans (t.block k hk (by simp))⟩
theorem cells_nv (w : World) (u : Nv) (t : TypeId) (j : Nat) (x : Value) (h : (fNv u)[j]? = some x) : (w.alloc (.cells #[.bool u.leaf, .slice u.ka u.kn u.kc, .slice u.va u.vn u.vc, .slice u.ia u.im u.ic] t)).cell? ((⟨w.heap.size, 0, none⟩ : Addr).add j) = some x := by
  rw [add_mk, blk_cell (blk_new w _), Nat.zero_add]; simpa [fNv] using h
theorem fNv_one (u : Nv) : ∀ x ∈ fNv u, x.oneCell' = true := by
  intro x hx
  simp only [fNv, List.mem_cons, List.not_mem_nil, or_false] at hx
  rcases hx with rfl | rfl | rfl | rfl <;> rfl
theorem flat4 (us : List Nv) : (us.flatMap fNv).length = us.length * 4 := by
  induction us with
  | nil => rfl
  | cons u t ih => simp [ih, fNv]; omega
theorem flat4_get (us : List Nv) (k j : Nat) (u : Nv) (h : us[k]? = some u) (hj : j < 4) : (us.flatMap fNv)[k * 4 + j]? = (fNv u)[j]? := by
  induction us generalizing k with
  | nil => simp at h
  | cons x t ih =>
    cases k with
    | zero =>
      simp only [List.getElem?_cons_zero, Option.some.injEq] at h
      subst h
      rw [List.flatMap_cons, List.getElem?_append_left (by simp [fNv]; omega)]
      simp
    | succ k =>
      rw [List.getElem?_cons_succ] at h
      rw [List.flatMap_cons, List.getElem?_append_right (by simp [fNv]; omega), show (k + 1) * 4 + j - (fNv x).length = k * 4 + j from by simp [fNv]; omega]
      exact ih k h
/-- What holds while the marks are laid: the counters. -/
def MoRel (B : Nat) (W0 : World) (gl : Nat) (cs : Array Value) (us : List Nv) (v : Value) (w : World) : Prop := ∃ k : Nat, k ≤ us.length ∧ v = .int .i64 k ∧ Mk B W0 gl cs us w ∧ B ≤ w.heap.size
def MiRel (B : Nat) (W0 : World) (gl : Nat) (cs : Array Value) (us : List Nv) (q : Nat) (ob : Array Value) (n : Nat) (v : Value) (w : World) : Prop := ∃ k : Nat, k ≤ n ∧ v = .int .i64 k ∧ Mk B W0 gl cs us w ∧ B ≤ w.heap.size ∧ w.heap[q]? = some (.cells ob 25 (0, 0))
/-- The cells of the list's node at k. -/
theorem Mk.cell {B gl : Nat} {W0 : World} {cs : Array Value} {us : List Nv} {w : World} (h : Mk B W0 gl cs us w) (hcs : ∀ i, i < us.length * 4 → cs[i]? = (us.flatMap fNv)[i]?) {k j : Nat} {u : Nv} (hk : us[k]? = some u) (hj : j < 4) : w.cell? ⟨gl, k * 4 + j, none⟩ = (fNv u)[j]? := by
  have hl := (List.getElem?_eq_some_iff.1 hk).1
  rw [blk_cell h.row, hcs _ (by omega), flat4_get us k j u hk hj]

set_option maxRecDepth 100000 in
set_option maxHeartbeats 4000000 in
theorem nkeeps_walk (v u : Nv) (w : World) (hv : IsNv w v) (hov : v.Ok) (hcv : v.caps) (hlv : v.upto 10000000) (hu : IsNv w u) (hou : u.Ok) (hcu : u.caps) (hlu : u.upto 10000000) :
    Calls Try.prog 8 #[.agg #[.bool v.leaf, .slice v.ka v.kn v.kc, .slice v.va v.vn v.vc, .slice v.ia v.im v.ic], .agg #[.bool u.leaf, .slice u.ka u.kn u.kc, .slice u.va u.vn u.vc, .slice u.ia u.im u.ic]] w fun e w' => e = .returned (.bool true) ∧ Tch [] w w' := by
  obtain ⟨W2, hW2⟩ : ∃ W2, W2 = (w.alloc (.cells #[.bool v.leaf, .slice v.ka v.kn v.kc, .slice v.va v.vn v.vc, .slice v.ia v.im v.ic] 25)).alloc (.cells #[.bool u.leaf, .slice u.ka u.kn u.kc, .slice u.va u.vn u.vc, .slice u.ia u.im u.ic] 25) := ⟨_, rfl⟩
  have T0 : Tch [] w W2 := by rw [hW2]; exact ((Tch.refl _ _).alloc _).alloc _
  have hb0 : W2.heap[w.heap.size]? = some (.cells #[.bool v.leaf, .slice v.ka v.kn v.kc, .slice v.va v.vn v.vc, .slice v.ia v.im v.ic] 25 (0, 0)) := by rw [hW2]; exact blk_alloc (blk_new _ _) _
  have hb1 : W2.heap[w.heap.size + 1]? = some (.cells #[.bool u.leaf, .slice u.ka u.kn u.kc, .slice u.va u.vn u.vc, .slice u.ia u.im u.ic] 25 (0, 0)) := by
    rw [hW2, show w.heap.size + 1 = (w.alloc (.cells #[.bool v.leaf, .slice v.ka v.kn v.kc, .slice v.va v.vn v.vc, .slice v.ia v.im v.ic] 25)).heap.size from by simp]; exact blk_new _ _
  have HBX : Hid (∀ w', Tch [] W2 w' → w'.heap[w.heap.size]? = some (.cells #[.bool v.leaf, .slice v.ka v.kn v.kc, .slice v.va v.vn v.vc, .slice v.ia v.im v.ic] 25 (0, 0)) ∧ w'.heap[w.heap.size + 1]? = some (.cells #[.bool u.leaf, .slice u.ka u.kn u.kc, .slice u.va u.vn u.vc, .slice u.ia u.im u.ic] 25 (0, 0))) := fun w' t => ⟨t.keep hb0 (by simp), t.keep hb1 (by simp)⟩
  have HC : Hid (∀ w', Tch [] W2 w' → w'.cell? ⟨w.heap.size, 0, none⟩ = some (.bool v.leaf) ∧ w'.cell? ⟨w.heap.size, 1, none⟩ = some (.slice v.ka v.kn v.kc) ∧ w'.cell? ⟨w.heap.size, 2, none⟩ = some (.slice v.va v.vn v.vc) ∧ w'.cell? ⟨w.heap.size, 3, none⟩ = some (.slice v.ia v.im v.ic) ∧
      w'.cell? ⟨w.heap.size + 1, 0, none⟩ = some (.bool u.leaf) ∧ w'.cell? ⟨w.heap.size + 1, 1, none⟩ = some (.slice u.ka u.kn u.kc) ∧ w'.cell? ⟨w.heap.size + 1, 2, none⟩ = some (.slice u.va u.vn u.vc) ∧ w'.cell? ⟨w.heap.size + 1, 3, none⟩ = some (.slice u.ia u.im u.ic)) := fun w' t => by
    obtain ⟨h0, h1⟩ := HBX.out w' t
    exact ⟨blk_cell h0 0, blk_cell h0 1, blk_cell h0 2, blk_cell h0 3, blk_cell h1 0, blk_cell h1 1, blk_cell h1 2, blk_cell h1 3⟩
  have HT1 : Hid (∀ w', Tch [] W2 w' → Calls Try.prog 24 _ w' (TwPost w' v)) := fun w' t => ntwin_any v w' (hv.keep0 (T0.trans t)) hov hcv
  have HT2 : Hid (∀ w', Tch [] W2 w' → Calls Try.prog 24 _ w' (TwPost w' u)) := fun w' t => ntwin_any u w' (hu.keep0 (T0.trans t)) hou hcu
  have HT0 := Lib.hid T0
  clear T0
  go_enter Try.func8, Try.ntmps8
  go_upto_region 2 with fail
  rw [← hW2]
  clear hW2
  go_cut [6, 7] from 14 to 80 (fun v6 v7 wx => ∃ (ba bb : Nat) (a b : Nv), v6 = .pointer (some ⟨ba, 0, none⟩) ∧ v7 = .pointer (some ⟨bb, 0, none⟩) ∧
    wx.heap[ba]? = some (.cells #[.bool v.leaf, .slice a.ka a.kn a.kc, .slice a.va a.vn a.vc, .slice a.ia a.im a.ic] 25 (0, 0)) ∧ wx.heap[bb]? = some (.cells #[.bool u.leaf, .slice b.ka b.kn b.kc, .slice b.va b.vn b.vc, .slice b.ia b.im b.ic] 25 (0, 0)) ∧
    (IsNv wx a ∧ a.leaf = v.leaf ∧ a.keys = v.keys ∧ a.vals = v.vals ∧ a.kids = v.kids ∧ a.caps) ∧ (IsNv wx b ∧ b.leaf = u.leaf ∧ b.keys = u.keys ∧ b.vals = u.vals ∧ b.kids = u.kids ∧ b.caps) ∧ Tch [] W2 wx)
  case first =>
    go_region_held3 (fun w' => w'.cell? ⟨w.heap.size, 0, none⟩ = some (.bool v.leaf) ∧ w'.cell? ⟨w.heap.size, 1, none⟩ = some (.slice v.ka v.kn v.kc) ∧ w'.cell? ⟨w.heap.size, 2, none⟩ = some (.slice v.va v.vn v.vc) ∧ w'.cell? ⟨w.heap.size, 3, none⟩ = some (.slice v.ia v.im v.ic) ∧
        w'.cell? ⟨w.heap.size + 1, 0, none⟩ = some (.bool u.leaf) ∧ w'.cell? ⟨w.heap.size + 1, 1, none⟩ = some (.slice u.ka u.kn u.kc) ∧ w'.cell? ⟨w.heap.size + 1, 2, none⟩ = some (.slice u.va u.vn u.vc) ∧ w'.cell? ⟨w.heap.size + 1, 3, none⟩ = some (.slice u.ia u.im u.ic))
      (((with_reducible refine HC.out _ ?_); repeat (first | with_reducible exact t4 | with_reducible exact t3 | with_reducible exact Tch.refl _ _ | with_reducible refine Tch.drew ?_ | with_reducible refine Tch.alloc ?_ _ | with_reducible refine Tch.setNew ?_ ?_ _ | (show W2.heap.size ≤ _; try dsimp only; omega))))
      (first
        | (go_at_call 24; (with_reducible refine (HT1.out _ (by repeat (first | with_reducible exact Tch.refl _ _ | with_reducible refine Tch.drew ?_ | with_reducible refine Tch.alloc ?_ _))).mono ?_); rintro e w3 ⟨t3a, a, rfl, hna, ha1, ha2, ha3, ha4, ha5, ha6⟩; (first | (have zA := zk2 t3a; have zA0 := zA.1; have zA1 := zA.2; clear zA; have fA0 := zfacts zA0; have fA1 := zfacts zA1) | (have zA := zk2d t3a; have zA0 := zA.1; have zA1 := zA.2; clear zA; have fA0 := zfacts zA0; have fA1 := zfacts zA1) | (have zA0 := zk1 t3a; have fA0 := zfacts zA0) | (have zA0 := zk1d t3a; have fA0 := zfacts zA0) | skip); have t3 : Tch [] W2 w3 := Tch.trans (by repeat (first | with_reducible exact Tch.refl _ _ | with_reducible refine Tch.drew ?_ | with_reducible refine Tch.alloc ?_ _)) t3a; have s3 : W2.heap.size ≤ w3.heap.size := t3.size)
        | (go_at_call 24; (with_reducible refine (HT2.out _ (by repeat (first | with_reducible exact t3 | with_reducible refine Tch.drew ?_ | with_reducible refine Tch.alloc ?_ _))).mono ?_); rintro e w4 ⟨t4a, b, rfl, hnb, hb1, hb2, hb3, hb4, hb5, hb6⟩; (first | (have zB := zk2 t4a; have zB0 := zB.1; have zB1 := zB.2; clear zB; have fB0 := zfacts zB0; have fB1 := zfacts zB1) | (have zB := zk2d t4a; have zB0 := zB.1; have zB1 := zB.2; clear zB; have fB0 := zfacts zB0; have fB1 := zfacts zB1) | (have zB0 := zk1 t4a; have fB0 := zfacts zB0) | (have zB0 := zk1d t4a; have fB0 := zfacts zB0) | skip); (first | (have zC0 := t4a.keep zA0 (by simp); have fC0 := zfacts zC0) | (have zC0 := t4a.keep (blk_alloc zA0 _) (by simp); have fC0 := zfacts zC0) | skip); (first | (have zC1 := t4a.keep zA1 (by simp); have fC1 := zfacts zC1) | skip); have t34 : Tch [] w3 w4 := Tch.trans (by repeat (first | with_reducible exact Tch.refl _ _ | with_reducible refine Tch.drew ?_ | with_reducible refine Tch.alloc ?_ _)) t4a; have t4 : Tch [] W2 w4 := t3.trans t34; have s4 : W2.heap.size ≤ w4.heap.size := t4.size; have s34 : w3.heap.size ≤ w4.heap.size := t34.size))
    all_goals
      go_wp2_with fail
      go_meet
      exact ⟨_, _, a, b, rfl, rfl, (by repeat (first | with_reducible exact blk_new _ _ | with_reducible exact zB0 | with_reducible exact zB1 | with_reducible exact zC0 | with_reducible exact zC1 | ((with_reducible refine blk_new' ?_); (first | rfl | focus (simp [World.setCell]; done))) | with_reducible refine blk_set4 ?_ | with_reducible refine blk_alloc ?_ _ | with_reducible refine blk_other ?_ ?_ _ _ | omega)), (by repeat (first | with_reducible exact blk_new _ _ | with_reducible exact zB0 | with_reducible exact zB1 | with_reducible exact zC0 | with_reducible exact zC1 | ((with_reducible refine blk_new' ?_); (first | rfl | focus (simp [World.setCell]; done))) | with_reducible refine blk_set4 ?_ | with_reducible refine blk_alloc ?_ _ | with_reducible refine blk_other ?_ ?_ _ _ | omega)), ⟨hna.rng ha6 (by repeat (first | with_reducible exact (Rng.refl _).tch t34 | with_reducible exact Rng.refl _ | with_reducible refine Rng.alloc ?_ _ | with_reducible refine Rng.set ?_ ?_ _ | focus (simp; done) | focus (simp; omega))), ha1, ha2, ha3, ha4, ha5⟩, ⟨hnb.rng hb6 (by repeat (first | with_reducible exact (Rng.refl _).tch t34 | with_reducible exact Rng.refl _ | with_reducible refine Rng.alloc ?_ _ | with_reducible refine Rng.set ?_ ?_ _ | focus (simp; done) | focus (simp; omega))), hb1, hb2, hb3, hb4, hb5⟩, (by repeat (first | with_reducible exact t4 | with_reducible refine Tch.drew ?_ | with_reducible refine Tch.alloc ?_ _ | with_reducible refine Tch.setNew ?_ ?_ _ | (show W2.heap.size ≤ _; try dsimp only; omega)))⟩
  case rest =>
    obtain ⟨ba, bb, a, b, rfl, rfl, hba, hbb, ⟨hna, ha1, ha2, ha3, ha4, hca⟩, ⟨hnb, hd1, hd2, hd3, hd4, hcb⟩, T1⟩ := hcut
    have hoa : a.Ok := ⟨by rw [ha2]; exact hov.lk, by rw [ha3]; exact hov.lv, by rw [ha4]; exact hov.li, by rw [ha2]; exact hov.ks, by rw [ha3]; exact hov.vs, by rw [ha4]; exact hov.is, by rw [ha2, ha3]; exact hov.tot⟩
    have hob : b.Ok := ⟨by rw [hd2]; exact hou.lk, by rw [hd3]; exact hou.lv, by rw [hd4]; exact hou.li, by rw [hd2]; exact hou.ks, by rw [hd3]; exact hou.vs, by rw [hd4]; exact hou.is, by rw [hd2, hd3]; exact hou.tot⟩
    have hla : a.upto 10000000 := by unfold Nv.upto; rw [ha2, ha3, ha4]; exact hlv
    have hlb : b.upto 10000000 := by unfold Nv.upto; rw [hd2, hd3, hd4]; exact hlu
    obtain ⟨iN, hiN, hz0, hz1, hz2⟩ := info_parts Try.info_nnode
    have HS : Hid (∀ w', Tch [] wc w' → Calls Try.prog 16 #[.agg #[.bool v.leaf, .slice a.ka a.kn a.kc, .slice a.va a.vn a.vc, .slice a.ia a.im a.ic]] w' (SpNew w' v.leaf a.es)) := fun w' t => by
      have := nsplit_any a w' (hna.keep0 t) hoa hca
      rw [ha1] at this
      exact this
    have HJ : Hid (∀ w', Tch [] wc w' → Calls Try.prog 20 #[.agg #[.bool v.leaf, .slice a.ka a.kn a.kc, .slice a.va a.vn a.vc, .slice a.ia a.im a.ic], .agg #[.bool u.leaf, .slice b.ka b.kn b.kc, .slice b.va b.vn b.vc, .slice b.ia b.im b.ic]] w' (NwPost w' v.leaf (a.es ++ mkN v.leaf b.keys b.vals b.kids))) := fun w' t => by
      have := njoin_any a b w' (hna.keep0 t) (hnb.keep0 t) hoa hob hla hlb
      rw [ha1, hd1] at this
      exact this
    have HE : Hid (∀ w', Tch [] wc w' → Calls Try.prog 10 #[.agg #[.bool v.leaf, .slice a.ka a.kn a.kc, .slice a.va a.vn a.vc, .slice a.ia a.im a.ic]] w' (fun e w2 => (∃ s n, e = .returned (.tuple #[.string s, .int .i64 n])) ∧ Tch [] w' w2)) := fun w' t => by
      have := encode_any a w' (hna.keep0 t) hoa hca
      rw [ha1] at this
      exact this.mono (fun e w2 h => ⟨⟨_, _, h.1⟩, h.2⟩)
    have HQ1 : Hid (∀ w', Tch [] wc w' → Calls Try.prog 25 #[.agg #[.bool v.leaf, .slice a.ka a.kn a.kc, .slice a.va a.vn a.vc, .slice a.ia a.im a.ic], .agg #[.bool v.leaf, .slice v.ka v.kn v.kc, .slice v.va v.vn v.vc, .slice v.ia v.im v.ic]] w' fun e w2 => e = .returned (.bool true) ∧ Tch [] w' w2) := fun w' t => by
      have := nequal_yes a v w' (hna.keep0 t) (hv.keep0 ((HT0.out.trans T1).trans t)) hov ha1 ha2 ha3 ha4
      rw [ha1] at this
      exact this
    have HQ2 : Hid (∀ w', Tch [] wc w' → Calls Try.prog 25 #[.agg #[.bool u.leaf, .slice b.ka b.kn b.kc, .slice b.va b.vn b.vc, .slice b.ia b.im b.ic], .agg #[.bool u.leaf, .slice u.ka u.kn u.kc, .slice u.va u.vn u.vc, .slice u.ia u.im u.ic]] w' fun e w2 => e = .returned (.bool true) ∧ Tch [] w' w2) := fun w' t => by
      have := nequal_yes b u w' (hnb.keep0 t) (hu.keep0 ((HT0.out.trans T1).trans t)) hou hd1 hd2 hd3 hd4
      rw [hd1] at this
      exact this
    have HX : Hid (∀ w', Tch [] wc w' → (w'.cell? ⟨ba, 0, none⟩ = some (.bool v.leaf) ∧ w'.cell? ⟨ba, 1, none⟩ = some (.slice a.ka a.kn a.kc) ∧ w'.cell? ⟨ba, 2, none⟩ = some (.slice a.va a.vn a.vc) ∧ w'.cell? ⟨ba, 3, none⟩ = some (.slice a.ia a.im a.ic)) ∧
        (w'.cell? ⟨bb, 0, none⟩ = some (.bool u.leaf) ∧ w'.cell? ⟨bb, 1, none⟩ = some (.slice b.ka b.kn b.kc) ∧ w'.cell? ⟨bb, 2, none⟩ = some (.slice b.va b.vn b.vc) ∧ w'.cell? ⟨bb, 3, none⟩ = some (.slice b.ia b.im b.ic))) := fun w' t => by
      have h0 := t.keep hba (by simp)
      have h1 := t.keep hbb (by simp)
      exact ⟨⟨blk_cell h0 0, blk_cell h0 1, blk_cell h0 2, blk_cell h0 3⟩, ⟨blk_cell h1 0, blk_cell h1 1, blk_cell h1 2, blk_cell h1 3⟩⟩
    have HY : Hid (∀ w', Tch [] wc w' → w'.cell? ⟨w.heap.size, 0, none⟩ = some (.bool v.leaf) ∧ w'.cell? ⟨w.heap.size, 1, none⟩ = some (.slice v.ka v.kn v.kc) ∧ w'.cell? ⟨w.heap.size, 2, none⟩ = some (.slice v.va v.vn v.vc) ∧ w'.cell? ⟨w.heap.size, 3, none⟩ = some (.slice v.ia v.im v.ic) ∧
      w'.cell? ⟨w.heap.size + 1, 0, none⟩ = some (.bool u.leaf) ∧ w'.cell? ⟨w.heap.size + 1, 1, none⟩ = some (.slice u.ka u.kn u.kc) ∧ w'.cell? ⟨w.heap.size + 1, 2, none⟩ = some (.slice u.va u.vn u.vc) ∧ w'.cell? ⟨w.heap.size + 1, 3, none⟩ = some (.slice u.ia u.im u.ic)) := fun w' t => HC.out w' (T1.trans t)
    have HTT : Hid (Tch [] w wc) := HT0.out.trans T1
    have HWK : Hid (∀ w', Calls Try.prog 13 #[] w' fun e w2 => e = .returned (.bool true) ∧ Tch [] w' w2) := fun w' => nwakes_any encode_any place_any w'
    clear hba hbb hna hnb ha1 ha2 ha3 ha4 hca hd1 hd2 hd3 hd4 hcb T1 hoa hob hla hlb HT0 HT1 HT2 HC HBX hb0 hb1 hv hov hcv hlv hu hou hcu hlu
    obtain ⟨⟨x0, x1, x2, x3⟩, ⟨y0, y1, y2, y3⟩⟩ := HX.out wc (Tch.refl _ _)
    go_wp2_with fail
    refine (HS.out _ (Tch.refl _ _)).mono ?_
    rintro e w1 ⟨t1, us, g, rfl, hg, hgb, hmap, hus⟩
    have hul : us.length ≤ 2 := by
      have := congrArg List.length hmap
      rw [List.length_map] at this
      rw [this]
      unfold splitN
      split <;> simp
    have hM1 : ∀ x ∈ us, MkN wc.heap.size x.ka x.kn x.va x.vn x.ia x.im w1 := fun x hx => MkN.of (hus x hx).2 (hus x hx).1.nv
    clear x0 x1 x2 x3 y0 y1 y2 y3 hmap hus HS
    obtain ⟨⟨x0, x1, x2, x3⟩, ⟨y0, y1, y2, y3⟩⟩ := HX.out w1 t1
    have HM1 := Lib.hid hM1
    have HUL := Lib.hid hul
    have HG := Lib.hid (And.intro hg hgb)
    clear hM1 hul hg hgb
    go_wp2_with fail
    refine (HJ.out _ t1).mono ?_
    rintro e w2 ⟨t2, z, rfl, hzg, hzn, _⟩
    have T2 := t1.trans t2
    have hsz2 := T2.size
    have HM2 : Hid (∀ x ∈ us ++ [z], MkN wc.heap.size x.ka x.kn x.va x.vn x.ia x.im w2) := fun x hx => by
      rcases List.mem_append.1 hx with hx | hx
      · exact (HM1.out x hx).keep t2
      · simp only [List.mem_singleton] at hx
        subst hx
        exact (MkN.of hzn hzg.nv).mono t1.size
    have tA : Tch [] w2 (w2.alloc (.cells #[.bool z.leaf, .slice z.ka z.kn z.kc, .slice z.va z.vn z.vc, .slice z.ia z.im z.ic] 25)) := (Tch.refl _ _).alloc _
    have hg3 := (t2.trans tA).keep HG.out.2 (by simp)
    have HOW : Hid ((w2.alloc (.cells #[.bool z.leaf, .slice z.ka z.kn z.kc, .slice z.va z.vn z.vc, .slice z.ia z.im z.ic] 25)).ownsRow wc.heap.size 25 4 (.slice (some ⟨g, 0, none⟩) us.length us.length) us.length (us.flatMap fNv)) :=
      ⟨flat4 us, Or.inr ⟨g, us.length, _, rfl, HG.out.1, hg3, Nat.le_refl _, by have := HUL.out; unfold maxLen; omega, by rw [List.size_toArray]; exact flat4 us, by rw [← flat4 us]; exact List.take_length⟩⟩
    have hap1 : us.length + 1 ≤ maxLen := by have := HUL.out; unfold maxLen; omega
    have hap2 : (us.length + 1) * 80 ≤ 140737488355328 := by have := HUL.out; omega
    clear x0 x1 x2 x3 y0 y1 y2 y3 HJ hzg hzn HM1 t1 t2
    obtain ⟨⟨x0, x1, x2, x3⟩, ⟨y0, y1, y2, y3⟩⟩ := HX.out w2 T2
    have HH := Lib.hid hap2
    clear hap2
    go_wp2_with (at_builtin; refine wpList_append_apart _ rfl _ _ 37 rfl wc.heap.size 25 iN (.agg #[.bool false, .slice none 0 0, .slice none 0 0, .slice none 0 0]) 4 80 Try.underlying37 hiN hz0 hz1 hz2 rfl (by decide) (.slice (some ⟨g, 0, none⟩) us.length us.length) us.length (us.flatMap fNv) rfl HOW.out ⟨w2.heap.size, 0, none⟩ 1 1 (fNv z) rfl rfl ?c1 ?c2 (by omega) hap1 HH.out ?c5 ?_)
    case c1 => exact cells_nv _ _ _
    case c2 => exact fNv_one z
    case c5 => simp; omega
    intro v' w4 hown4 hg4 _
    obtain ⟨gl, cl, rfl, hgl, csl, hcsl, hcs⟩ : ∃ gl cl, v' = .slice (some ⟨gl, 0, none⟩) (us.length + 1) cl ∧ wc.heap.size ≤ gl ∧ ∃ cs, w4.heap[gl]? = some (.cells cs 25 (0, 0)) ∧ ∀ i, i < (us ++ [z]).length * 4 → cs[i]? = ((us ++ [z]).flatMap fNv)[i]? := by
      rcases hown4.2 with ⟨_, h0⟩ | ⟨gl, cap, cur, hv', h1, h2, h3, h4, h5, h6⟩
      · omega
      · refine ⟨gl, cap, hv', h1, cur, h2, fun i hi => ?_⟩
        rw [List.flatMap_append, show [z].flatMap fNv = fNv z from by simp, ← h6, List.getElem?_take, if_pos (by simpa using hi)]
        simp
    have T4 : Tch [] wc w4 := (T2.trans tA).grown hg4 (fun k hk => by simp only [Value.ownBlock, Option.some.injEq] at hk; subst hk; exact HG.out.1)
    have HMK : Hid (∀ w', Tch [] w4 w' → Mk wc.heap.size w' gl csl (us ++ [z]) w') := fun w' t =>
      ⟨⟨rfl, rfl, rfl, Nat.le_refl _, fun _ _ => rfl⟩, t.keep hcsl (by simp), fun x hx => (((HM2.out x hx).keep tA).grown hg3 hg4).keep t⟩
    have hlen : (us ++ [z]).length = us.length + 1 := by simp
    generalize hus2 : us ++ [z] = us2 at HMK hcs hlen
    rw [← hlen]
    clear hus2 hown4 hg4 hcsl hg3 HOW HM2 tA T2 hsz2 x0 x1 x2 x3 y0 y1 y2 y3 HH hap1 HG
    have HCS := Lib.hid hcs
    have hul2 : us2.length ≤ 3 := by have := HUL.out; omega
    clear hlen HUL hcs
    obtain ⟨⟨x0, x1, x2, x3⟩, ⟨y0, y1, y2, y3⟩⟩ := HX.out w4 T4
    go_wp2_with fail
    refine (HE.out _ T4).mono ?_
    rintro e w5 ⟨⟨sE, nE, rfl⟩, t5⟩
    have HT5 := Lib.hid (T4.trans t5)
    have HMK5 := Lib.hid (HMK.out w5 t5)
    have hs5 : wc.heap.size ≤ w5.heap.size := (T4.trans t5).size
    clear HMK t5 T4 HE x0 x1 x2 x3 y0 y1 y2 y3
    go_wp2_with fail
    go_loopw [32] (fun v32 wr => MoRel wc.heap.size w5 gl csl us2 v32 wr) (fun v32 _ => us2.length - (intOf v32).toNat)
    case atStart => exact ⟨0, by omega, rfl, HMK5.out, hs5⟩
    case round =>
      obtain ⟨k, hk, rfl, M, hwr⟩ := hrel
      rename_i wr
      by_cases hkl : k < us2.length
      · have hget := List.getElem?_eq_getElem hkl
        have c0 := M.cell HCS.out hget (j := 0) (by omega)
        have c1 := M.cell HCS.out hget (j := 1) (by omega)
        have c2 := M.cell HCS.out hget (j := 2) (by omega)
        have c3 := M.cell HCS.out hget (j := 3) (by omega)
        have hmem := List.getElem_mem hkl
        have hgl2 := lt_of_block M.row
        generalize us2[k] = x at c0 c1 c2 c3 hmem
        have hI2 : (k : Int) < (us2.length : Int) := by omega
        simp only [fNv, Nat.add_zero, List.getElem?_cons_zero, List.getElem?_cons_succ] at c0 c1 c2 c3
        clear hget
        have hM := Lib.hid M
        clear M
        go_wp2_with fail
        have tq : Tch [] wr (wr.alloc (.cells #[.bool x.leaf, .slice x.ka x.kn x.kc, .slice x.va x.vn x.vc, .slice x.ia x.im x.ic] 25)) := (Tch.refl _ _).alloc _
        have HIN := Lib.hid (And.intro (hM.out.keep hwr tq) (And.intro (Nat.le_trans hwr tq.size) (blk_new wr (.cells #[.bool x.leaf, .slice x.ka x.kn x.kc, .slice x.va x.vn x.vc, .slice x.ia x.im x.ic] 25))))
        clear hM tq c0 c1 c2 c3
        generalize wr.alloc (.cells #[.bool x.leaf, .slice x.ka x.kn x.kc, .slice x.va x.vn x.vc, .slice x.ia x.im x.ic] 25) = wz at HIN ⊢
        generalize wr.heap.size = qb at HIN ⊢
        go_loopw [39] (fun v39 wq => MiRel wc.heap.size w5 gl csl us2 qb #[.bool x.leaf, .slice x.ka x.kn x.kc, .slice x.va x.vn x.vc, .slice x.ia x.im x.ic] x.kn v39 wq) (fun v39 _ => x.kn - (intOf v39).toNat)
        case atStart => exact ⟨0, by omega, rfl, HIN.out.1, HIN.out.2.1, HIN.out.2.2⟩
        case round =>
          obtain ⟨i, hi, rfl, M1, hB1, hq1⟩ := hrel
          clear HIN
          by_cases hil : i < x.kn
          · rcases (M1.nodes x hmem).k with h0 | ⟨gk, ck, hka, hgk, hbk, hck, hmx⟩
            · omega
            · unfold maxLen at hmx
              have q1 := blk_cell hq1 1
              have ql := lt_of_block hq1
              simp only [List.getElem?_toArray, List.getElem?_cons_zero, List.getElem?_cons_succ] at q1
              rw [hka] at q1
              have hKS := Lib.hid (fun u => kp_set M1 hq1 hgk hbk (by decide) i u)
              have f1 := blk_free hbk i
              have l1 := lt_of_block hbk
              have e1 := blk_cell hbk i
              rw [Array.getElem?_eq_getElem (by omega)] at e1
              have hI3 : (i : Int) < (x.kn : Int) := by omega
              clear M1 hq1 hbk hka
              go_wp2_with fail
              go_roundw
              case rel => exact ⟨i + 1, by omega, by go_num, (hKS.out _).1, by simp [World.setCell]; exact hB1, (hKS.out _).2⟩
              case measure => simp [intOf]; omega
          · rename_i wi
            have HIN := Lib.hid (And.intro M1 (And.intro hB1 hq1))
            have q1 := blk_cell hq1 2
            have ql := lt_of_block hq1
            simp only [List.getElem?_toArray, List.getElem?_cons_zero, List.getElem?_cons_succ] at q1
            clear M1 hB1 hq1
            go_wp2_with fail
            go_loopw [50] (fun v50 wq => MiRel wc.heap.size w5 gl csl us2 qb #[.bool x.leaf, .slice x.ka x.kn x.kc, .slice x.va x.vn x.vc, .slice x.ia x.im x.ic] x.vn v50 wq) (fun v50 _ => x.vn - (intOf v50).toNat)
            case atStart => exact ⟨0, by omega, rfl, HIN.out.1, HIN.out.2.1, HIN.out.2.2⟩
            case round =>
              obtain ⟨i, hi, rfl, M1, hB1, hq1⟩ := hrel
              clear HIN
              by_cases hil : i < x.vn
              · rcases (M1.nodes x hmem).v with h0 | ⟨gk, ck, hka, hgk, hbk, hck, hmx⟩
                · omega
                · unfold maxLen at hmx
                  have q1 := blk_cell hq1 2
                  have ql := lt_of_block hq1
                  simp only [List.getElem?_toArray, List.getElem?_cons_zero, List.getElem?_cons_succ] at q1
                  rw [hka] at q1
                  have hKS := Lib.hid (fun u => kp_set M1 hq1 hgk hbk (by decide) i u)
                  have f1 := blk_free hbk i
                  have l1 := lt_of_block hbk
                  have e1 := blk_cell hbk i
                  rw [Array.getElem?_eq_getElem (by omega)] at e1
                  have hI3 : (i : Int) < (x.vn : Int) := by omega
                  clear M1 hq1 hbk hka
                  go_wp2_with fail
                  go_roundw
                  case rel => exact ⟨i + 1, by omega, by go_num, (hKS.out _).1, by simp [World.setCell]; exact hB1, (hKS.out _).2⟩
                  case measure => simp [intOf]; omega
              · rename_i wi
                have HIN := Lib.hid (And.intro M1 (And.intro hB1 hq1))
                have q1 := blk_cell hq1 3
                have ql := lt_of_block hq1
                simp only [List.getElem?_toArray, List.getElem?_cons_zero, List.getElem?_cons_succ] at q1
                clear M1 hB1 hq1
                go_wp2_with fail
                go_loopw [61] (fun v61 wq => MiRel wc.heap.size w5 gl csl us2 qb #[.bool x.leaf, .slice x.ka x.kn x.kc, .slice x.va x.vn x.vc, .slice x.ia x.im x.ic] x.im v61 wq) (fun v61 _ => x.im - (intOf v61).toNat)
                case atStart => exact ⟨0, by omega, rfl, HIN.out.1, HIN.out.2.1, HIN.out.2.2⟩
                case round =>
                  obtain ⟨i, hi, rfl, M1, hB1, hq1⟩ := hrel
                  clear HIN
                  by_cases hil : i < x.im
                  · rcases (M1.nodes x hmem).i with h0 | ⟨gk, ck, hka, hgk, hbk, hck, hmx⟩
                    · omega
                    · unfold maxLen at hmx
                      have q1 := blk_cell hq1 3
                      have ql := lt_of_block hq1
                      simp only [List.getElem?_toArray, List.getElem?_cons_zero, List.getElem?_cons_succ] at q1
                      rw [hka] at q1
                      have hKS := Lib.hid (fun u => kp_set M1 hq1 hgk hbk (by decide) i u)
                      have f1 := blk_free hbk i
                      have l1 := lt_of_block hbk
                      have e1 := blk_cell hbk i
                      rw [Array.getElem?_eq_getElem (by omega)] at e1
                      have hI3 : (i : Int) < (x.im : Int) := by omega
                      clear M1 hq1 hbk hka
                      go_wp2_with fail
                      go_roundw
                      case rel => exact ⟨i + 1, by omega, by go_num, (hKS.out _).1, by simp [World.setCell]; exact hB1, (hKS.out _).2⟩
                      case measure => simp [intOf]; omega
                  · rename_i wi
                    have HIN := Lib.hid (And.intro M1 (And.intro hB1 hq1))
                    have q1 := blk_cell hq1 0
                    have ql := lt_of_block hq1
                    simp only [List.getElem?_toArray, List.getElem?_cons_zero] at q1
                    clear M1 hB1 hq1
                    go_wp2_with fail
                    go_roundw
                    case rel => exact ⟨k + 1, by omega, by go_num, HIN.out.1, HIN.out.2.1⟩
                    case measure => simp [intOf]; omega
      · have TW := HT5.out.belowTo M.below
        have HTW := Lib.hid TW
        clear M TW HMK5
        go_wp2_with fail
        refine (HWK.out _).mono ?_
        rintro e w6 ⟨rfl, t6⟩
        have T6 := HTW.out.trans t6
        obtain ⟨⟨x0, x1, x2, x3⟩, ⟨y0, y1, y2, y3⟩⟩ := HX.out w6 T6
        obtain ⟨z0, z1, z2, z3, s0, s1, s2, s3⟩ := HY.out w6 T6
        go_wp2_with fail
        refine (HQ1.out _ T6).mono ?_
        rintro e w7 ⟨rfl, t7⟩
        have T7 := T6.trans t7
        clear x0 x1 x2 x3 y0 y1 y2 y3 z0 z1 z2 z3 s0 s1 s2 s3
        obtain ⟨⟨x0, x1, x2, x3⟩, ⟨y0, y1, y2, y3⟩⟩ := HX.out w7 T7
        obtain ⟨z0, z1, z2, z3, s0, s1, s2, s3⟩ := HY.out w7 T7
        go_wp2_with fail
        refine (HQ2.out _ T7).mono ?_
        rintro e w8 ⟨rfl, t8⟩
        have T8 := T7.trans t8
        go_wp2_with fail
        go_ret
        exact ⟨rfl, HTT.out.trans T8⟩
end Go.Proofs.Ytlgfdfpafmopdaa
