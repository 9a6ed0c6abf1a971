/-
  Plain notions that speak of no program: which blocks of memory a call may have turned ('Tch'), what a whole block holds, and what a disk of package sector holds as data ('Dk', 'IsDk').
-/
import Derived.WalkKit
import Derived.Lib.Repeat
import Derived.Lib.Hide
namespace Go.Proofs.YtclnhgfionfbbaaGreatDoor
open Go.RowKit
set_option linter.unusedVariables false

/-- What turned between two worlds lies in the blocks of L, or is new. -/
structure Tch (L : List Nat) (w w' : World) : Prop where
  os : w'.os = w.os
  tape : w'.tape = w.tape
  output : w'.output = w.output
  size : w.heap.size ≤ w'.heap.size
  block : ∀ k, k < w.heap.size → k ∉ L → w'.heap[k]? = w.heap[k]?

theorem Tch.refl (L : List Nat) (w : World) : Tch L w w := ⟨rfl, rfl, rfl, Nat.le_refl _, fun _ _ _ => rfl⟩
theorem Tch.trans {L : List Nat} {a b c : World} (h : Tch L a b) (k : Tch L b c) : Tch L a c :=
  ⟨k.os.trans h.os, k.tape.trans h.tape, k.output.trans h.output, Nat.le_trans h.size k.size, fun i hi hn => (k.block i (Nat.lt_of_lt_of_le hi h.size) hn).trans (h.block i hi hn)⟩
theorem Tch.mono {L L' : List Nat} {w w' : World} (h : Tch L w w') (hL : ∀ k ∈ L, k ∈ L') : Tch L' w w' :=
  ⟨h.os, h.tape, h.output, h.size, fun k hk hn => h.block k hk (fun hm => hn (hL k hm))⟩
theorem Tch.drew {L : List Nat} {a w : World} (h : Tch L a w) : Tch L a w.drew := ⟨h.os, h.tape, h.output, h.size, h.block⟩
theorem Tch.ofBelow {w w' : World} (h : Below w.heap.size w w') : Tch [] w w' := ⟨h.os, h.tape, h.output, h.size, fun k hk _ => h.block k hk⟩
theorem Tch.alloc {L : List Nat} {a w : World} (h : Tch L a w) (o : Obj) : Tch L a (w.alloc o) :=
  h.trans ⟨rfl, rfl, rfl, by simp, fun _ hk _ => Below.heap_alloc _ _ _ hk⟩
theorem Tch.setCell {L : List Nat} {a w : World} (h : Tch L a w) {p : Addr} (hp : p.block ∈ L) (u : Value) : Tch L a (w.setCell p u) :=
  h.trans ⟨rfl, rfl, rfl, by simp [World.setCell], fun _ _ hn => Below.heap_setCell _ _ _ _ (fun e => hn (e ▸ hp))⟩
/-- A store into a block that is newer than 'a'. -/
theorem Tch.setNew {L : List Nat} {a w : World} (h : Tch L a w) {p : Addr} (hp : a.heap.size ≤ p.block) (u : Value) : Tch L a (w.setCell p u) :=
  ⟨h.os, h.tape, h.output, by have := h.size; simp [World.setCell]; exact this, fun k hk hn => (Below.heap_setCell _ _ _ _ (by omega)).trans (h.block k hk hn)⟩
/-- What a later step turns, and what was not there at first, is new. -/
theorem Tch.transNew {L M : List Nat} {a b c : World} (h : Tch L a b) (k : Tch M b c) (hM : ∀ m ∈ M, m ∈ L ∨ a.heap.size ≤ m) : Tch L a c :=
  ⟨k.os.trans h.os, k.tape.trans h.tape, k.output.trans h.output, Nat.le_trans h.size k.size, fun i hi hn => (k.block i (Nat.lt_of_lt_of_le hi h.size) (fun hm => by rcases hM i hm with h1 | h1; exact hn h1; omega)).trans (h.block i hi hn)⟩
theorem Tch.below {L : List Nat} {B : Nat} {w w' : World} (h : Tch L w w') (hB : B ≤ w.heap.size) (hL : ∀ k ∈ L, B ≤ k) : Below B w w' :=
  ⟨h.os, h.tape, h.output, h.size, fun k hk => h.block k (by omega) (fun hm => by have := hL k hm; omega)⟩
theorem Tch.keep {L : List Nat} {w w' : World} (h : Tch L w w') {b : Nat} {o : Obj} (hb : w.heap[b]? = some o) (hn : b ∉ L) : w'.heap[b]? = some o :=
  (h.block b (lt_of_block hb) hn).trans hb

theorem blk_cell {w : World} {b : Nat} {cs : Array Value} {t : TypeId} {f : Nat × Nat} (h : w.heap[b]? = some (.cells cs t f)) (o : Nat) : w.cell? ⟨b, o, none⟩ = cs[o]? := by simp [World.cell?, h]
theorem blk_free {w : World} {b : Nat} {cs : Array Value} {t : TypeId} (h : w.heap[b]? = some (.cells cs t (0, 0))) (o : Nat) : w.frozen? ⟨b, o, none⟩ = false := by simp [World.frozen?, h]
theorem blk_set {w : World} {b : Nat} {cs : Array Value} {t : TypeId} {f : Nat × Nat} (h : w.heap[b]? = some (.cells cs t f)) (o : Nat) (u : Value) : (w.setCell ⟨b, o, none⟩ u).heap[b]? = some (.cells (cs.setIfInBounds o u) t f) := by
  have hlt := lt_of_block h
  have h' : w.heap[b] = .cells cs t f := by simpa [Array.getElem?_eq_getElem hlt] using h
  show (w.heap.modify b _)[b]? = _
  rw [Array.getElem?_eq_getElem (by simpa using hlt), Array.getElem_modify_self, h']
  rfl
theorem blk_other {w : World} {b c : Nat} {o : Obj} (h : w.heap[b]? = some o) (hn : b ≠ c) (i : Nat) (u : Value) : (w.setCell ⟨c, i, none⟩ u).heap[b]? = some o := (Below.heap_setCell _ _ _ _ hn).trans h
theorem blk_alloc {w : World} {b : Nat} {o : Obj} (h : w.heap[b]? = some o) (x : Obj) : (w.alloc x).heap[b]? = some o := (Below.heap_alloc _ _ _ (lt_of_block h)).trans h
theorem blk_new (w : World) (x : Obj) : (w.alloc x).heap[w.heap.size]? = some x := by show (w.heap.push x)[w.heap.size]? = some x; simp

/-- 1024 zero bytes. -/
def zer : ByteArray := ⟨(Lib.repeatL [0] 1024).toArray⟩
/-- What a disk of package sector holds. -/
structure Dk where
  secs : List ByteArray
  done : Int
  reach : Int
  left : Int
  power : Int
  once : Int
  mu : Int
  zeros : ByteArray

def Dk.cells (S : Dk) (bs : Nat) : Array Value :=
  #[.slice (some ⟨bs, 0, none⟩) S.secs.length S.secs.length, .int .i64 S.done, .int .i64 S.reach, .int .i64 S.left, .int .i64 S.power, .int .u32 S.once, .int .i32 S.mu, .int .u32 0, .string S.zeros]

/-- Block b is the disk S, its sectors' texts in block bs. -/
structure IsDk (w : World) (b bs : Nat) (S : Dk) : Prop where
  blk : w.heap[b]? = some (.cells (S.cells bs) 56 (0, 0))
  arr : w.heap[bs]? = some (.cells (S.secs.map Value.string).toArray 9 (0, 0))
  ne : b ≠ bs
  len : S.secs.length ≤ 16384

theorem IsDk.keep {L : List Nat} {w w' : World} {b bs : Nat} {S : Dk} (h : IsDk w b bs S) (t : Tch L w w') (h1 : b ∉ L) (h2 : bs ∉ L) : IsDk w' b bs S :=
  ⟨t.keep h.blk h1, t.keep h.arr h2, h.ne, h.len⟩
theorem IsDk.c {w : World} {b bs : Nat} {S : Dk} (h : IsDk w b bs S) (o : Nat) : w.cell? ⟨b, o, none⟩ = (S.cells bs)[o]? := blk_cell h.blk o
theorem IsDk.z {w : World} {b bs : Nat} {S : Dk} (h : IsDk w b bs S) (o : Nat) : w.frozen? ⟨b, o, none⟩ = false := blk_free h.blk o
theorem IsDk.c0 {w : World} {b bs : Nat} {S : Dk} (h : IsDk w b bs S) : w.cell? ⟨b, 0, none⟩ = some (.slice (some ⟨bs, 0, none⟩) S.secs.length S.secs.length) := h.c 0
theorem IsDk.c1 {w : World} {b bs : Nat} {S : Dk} (h : IsDk w b bs S) : w.cell? ⟨b, 1, none⟩ = some (.int .i64 S.done) := h.c 1
theorem IsDk.c2 {w : World} {b bs : Nat} {S : Dk} (h : IsDk w b bs S) : w.cell? ⟨b, 2, none⟩ = some (.int .i64 S.reach) := h.c 2
theorem IsDk.c3 {w : World} {b bs : Nat} {S : Dk} (h : IsDk w b bs S) : w.cell? ⟨b, 3, none⟩ = some (.int .i64 S.left) := h.c 3
theorem IsDk.c4 {w : World} {b bs : Nat} {S : Dk} (h : IsDk w b bs S) : w.cell? ⟨b, 4, none⟩ = some (.int .i64 S.power) := h.c 4
theorem IsDk.c5 {w : World} {b bs : Nat} {S : Dk} (h : IsDk w b bs S) : w.cell? ⟨b, 5, none⟩ = some (.int .u32 S.once) := h.c 5
theorem IsDk.c6 {w : World} {b bs : Nat} {S : Dk} (h : IsDk w b bs S) : w.cell? ⟨b, 6, none⟩ = some (.int .i32 S.mu) := h.c 6
theorem IsDk.c8 {w : World} {b bs : Nat} {S : Dk} (h : IsDk w b bs S) : w.cell? ⟨b, 8, none⟩ = some (.string S.zeros) := h.c 8

theorem IsDk.set {w : World} {b bs : Nat} {S S' : Dk} (h : IsDk w b bs S) (o : Nat) (u : Value) (he : (S.cells bs).setIfInBounds o u = S'.cells bs) (hs : S'.secs = S.secs) : IsDk (w.setCell ⟨b, o, none⟩ u) b bs S' :=
  ⟨by rw [← he]; exact blk_set h.blk o u, by rw [hs]; exact blk_other h.arr (Ne.symm h.ne) o u, h.ne, by rw [hs]; exact h.len⟩
theorem IsDk.set1 {w : World} {b bs : Nat} {S : Dk} (h : IsDk w b bs S) (x : Int) : IsDk (w.setCell ⟨b, 1, none⟩ (.int .i64 x)) b bs { S with done := x } := h.set 1 _ rfl rfl
theorem IsDk.set2 {w : World} {b bs : Nat} {S : Dk} (h : IsDk w b bs S) (x : Int) : IsDk (w.setCell ⟨b, 2, none⟩ (.int .i64 x)) b bs { S with reach := x } := h.set 2 _ rfl rfl
theorem IsDk.set3 {w : World} {b bs : Nat} {S : Dk} (h : IsDk w b bs S) (x : Int) : IsDk (w.setCell ⟨b, 3, none⟩ (.int .i64 x)) b bs { S with left := x } := h.set 3 _ rfl rfl
theorem IsDk.set4 {w : World} {b bs : Nat} {S : Dk} (h : IsDk w b bs S) (x : Int) : IsDk (w.setCell ⟨b, 4, none⟩ (.int .i64 x)) b bs { S with power := x } := h.set 4 _ rfl rfl
theorem IsDk.set5 {w : World} {b bs : Nat} {S : Dk} (h : IsDk w b bs S) (x : Int) : IsDk (w.setCell ⟨b, 5, none⟩ (.int .u32 x)) b bs { S with once := x } := h.set 5 _ rfl rfl
theorem IsDk.set6 {w : World} {b bs : Nat} {S : Dk} (h : IsDk w b bs S) (x : Int) : IsDk (w.setCell ⟨b, 6, none⟩ (.int .i32 x)) b bs { S with mu := x } := h.set 6 _ rfl rfl
theorem IsDk.drew {w : World} {b bs : Nat} {S : Dk} (h : IsDk w b bs S) : IsDk w.drew b bs S := ⟨h.blk, h.arr, h.ne, h.len⟩
/-- A sector is written. -/
theorem IsDk.sec {w : World} {b bs : Nat} {S : Dk} (h : IsDk w b bs S) (i : Nat) (s : ByteArray) : IsDk (w.setCell ⟨bs, i, none⟩ (.string s)) b bs { S with secs := S.secs.set i s } :=
  ⟨by rw [show Dk.cells { S with secs := S.secs.set i s } bs = S.cells bs from by simp [Dk.cells]]; exact blk_other h.blk h.ne i _,
   by
    have := blk_set h.arr i (.string s)
    rw [this]
    congr 2
    simp [List.map_set], h.ne, by simp; exact h.len⟩
theorem IsDk.sc {w : World} {b bs : Nat} {S : Dk} (h : IsDk w b bs S) (i : Nat) (s : ByteArray) (hi : S.secs[i]? = some s) : w.cell? ⟨bs, i, none⟩ = some (.string s) := by
  rw [blk_cell h.arr i]; simp [hi]
theorem IsDk.sz {w : World} {b bs : Nat} {S : Dk} (h : IsDk w b bs S) (i : Nat) : w.frozen? ⟨bs, i, none⟩ = false := blk_free h.arr i
end Go.Proofs.YtclnhgfionfbbaaGreatDoor
