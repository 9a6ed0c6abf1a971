/-
  Opening a slice of calls (Op) of layer 3 that was handed in.
-/
import Derived.Test.YtclnhgfionfbbaaGreatDoorOpen
import Derived.Test.YtclnhgfionfbbaaGreatDoorSec
import Derived.Deep.Slices
import Derived.Deep.Strs
import Derived.ChangeMaps5
namespace Go.Proofs.YtclnhgfionfbbaaGreatDoor
open Go.ChangeShapes Go.WideShapes Go.ChangeAt Go.RowKit
set_option linter.unusedVariables false

theorem two_of {α : Type} {l : List α} (h : l.length = 2) : ∃ a b, l = [a, b] := by
  match l, h with
  | [a, b], _ => exact ⟨a, b, rfl⟩

theorem trod_two {H : Type} {enc : TypeId × Value → H} {P : Program} {w : World} {base : Nat} {spare : Nat → Bool} {held : Bool} {t : TypeId} {f0 f1 : Field} {fuel : Nat} {cs : List Value} {x : DataW H × List MemPlace} (ht : P.underlying t = some (.struct #[f0, f1])) (h : DataW.trod enc P w base spare held fuel t cs = some x) :
    ∃ y0 y1 n, cs.length = P.cellsOf t ∧ DataW.trod enc P w base spare held n f0.type ((cs.drop f0.offset).take (P.cellsOf f0.type)) = some y0 ∧
      DataW.trod enc P w base spare held n f1.type ((cs.drop f1.offset).take (P.cellsOf f1.type)) = some y1 := by
  obtain ⟨xs, n, _, rfl, hl, hlen, hf⟩ := DataW.trod_struct ht h
  obtain ⟨y0, y1, rfl⟩ := two_of hlen
  exact ⟨y0, y1, n, hl, by simpa using hf 0 f0 rfl, by simpa using hf 1 f1 rfl⟩

set_option maxRecDepth 100000 in
/-- A slice of changes, out of its cells. -/
theorem chs_of {H : Type} {enc : TypeId × Value → H} {W : World} {fuel : Nat} {cs : List Value} {x : DataW H × List MemPlace}
    (h : DataW.trod enc Tryz.prog W 0 (fun _ => true) true fuel 34 cs = some x) :
    ∃ (a : Option Addr) (len cap cb o : Nat) (l : List (Int × ByteArray)), cs = [.slice a len cap] ∧ IsChs W a len cb o l ∧ len ≤ maxLen ∧ (len = 0 ∨ ∃ el sp, x.1 = .slice el sp ∧ el.length = len) ∧ (a = none → len = 0 ∧ cap = 0) := by
  rcases Go.Deep.open_slice Tryz.underlying34 h with ⟨rfl, rfl⟩ | ⟨y, len, cap, m, n, D, Pl, rfl, _, hl, hm, hmm, hx, hi⟩
  · exact ⟨none, 0, 0, 0, 0, [], rfl, ⟨rfl, Or.inl rfl, fun k c hk => by simp at hk, fun c hc => by simp at hc⟩, by omega, Or.inl rfl, fun _ => ⟨rfl, rfl⟩⟩
  · have hsz : Tryz.prog.cellsOf 65 = 2 := by kernel_rfl
    have key : ∀ i, i < len → ∃ c : Int × ByteArray, W.cell? (y.add (i * 2)) = some (.int .i64 c.1) ∧ W.cell? (y.add (i * 2 + 1)) = some (.string c.2) ∧ -9223372036854775808 ≤ c.1 ∧ c.1 ≤ 9223372036854775807 ∧ c.2.size ≤ 9223372036854775807 := by
      intro i him
      obtain ⟨cs', hc, ht⟩ := hi i (by rw [hmm]; split <;> omega)
      rw [hsz] at hc
      obtain ⟨_, hlen, hat⟩ := World.cells?_some hc
      obtain ⟨y0, y1, n', _, g0, g1⟩ := trod_two Tryz.underlying65 ht
      obtain ⟨v0, v1, rfl⟩ := two_of hlen
      have k3 : Tryz.prog.cellsOf 3 = 1 := by kernel_rfl
      have k9 : Tryz.prog.cellsOf 9 = 1 := by kernel_rfl
      simp only [k3, k9] at g0 g1
      obtain ⟨q, e0, _, wq⟩ := DataW.trod_int Tryz.underlying3 g0
      obtain ⟨s, e1, _, ws⟩ := DataW.trod_string Tryz.underlying9 g1
      simp at e0 e1
      have a0 := hat 0 (by omega)
      have a1 := hat 1 (by omega)
      simp only [Go.Deep.add_add] at a0 a1
      have hb := i64_of_wf wq
      unfold maxLen at ws
      exact ⟨(q, s), by simpa [e0] using a0, by simpa [e1] using a1, hb.1, hb.2, ws⟩
    refine ⟨some y, len, cap, y.block, y.off, ?_⟩
    by_cases h0 : len = 0
    · exact ⟨[], rfl, ⟨by simpa using h0, Or.inl h0, fun k c hk => by simp at hk, fun c hc => by simp at hc⟩, by omega, Or.inl h0, fun h => by cases h⟩
    haveI : Inhabited (Int × ByteArray) := ⟨(0, ⟨#[]⟩)⟩
    obtain ⟨V, hV⟩ := Go.Deep.choose_lt key
    obtain ⟨b, o, sp⟩ := y
    have hs : sp = none := by simpa [Addr.add] using World.cell?_spot (hV 0 (by omega)).1
    subst hs
    have hlt : b < W.heap.size := by
      have q0 := (hV 0 (by omega)).1
      rw [add_mk] at q0
      unfold World.cell? at q0
      rcases Nat.lt_or_ge b W.heap.size with h' | h'
      · exact h'
      · simp [Array.getElem?_eq_none h'] at q0
    refine ⟨(List.range len).map V, rfl, ⟨by simp, Or.inr ⟨rfl, hlt⟩, fun k c hk => ?_, fun c hc => ?_⟩, by omega, Or.inr ⟨_, _, by rw [hx], by simp⟩, fun h => by cases h⟩
    · rw [List.getElem?_map] at hk
      by_cases hkm : k < len
      · rw [List.getElem?_range hkm] at hk
        cases hk
        obtain ⟨f0, f1, _⟩ := hV k hkm
        rw [add_mk] at f0 f1
        exact ⟨f0, by rw [Nat.add_assoc]; exact f1⟩
      · rw [List.getElem?_eq_none (by simpa using hkm)] at hk
        cases hk
    · obtain ⟨k, hk, rfl⟩ := List.mem_map.1 hc
      obtain ⟨_, _, f2, f3, f4⟩ := hV k (List.mem_range.1 hk)
      exact ⟨f2, f3, f4⟩

/-- What is known of a slice of changes: where it lies, what it holds. -/
structure Chs where
  cb : Nat
  o : Nat
  l : List (Int × ByteArray)
/-- A slice of changes, with what is known of it. -/
structure Sl where
  a : Option Addr
  len : Nat
  cap : Nat
  z : Chs

structure Op5 where
  q : Int
  i : Int
  s : Sl
  x : ByteArray
/-- A slice of calls: a row in block b from o on, four cells each. -/
def IsOps5 (W : World) (a : Option Addr) (len : Nat) (os : List Op5) : Prop :=
  len = os.length ∧ (len = 0 ∨ ∃ b o, a = some ⟨b, o, none⟩ ∧ b < W.heap.size ∧ ∀ (k : Nat) c, os[k]? = some c →
    W.cell? ⟨b, o + k * 4, none⟩ = some (.int .i64 c.q) ∧ W.cell? ⟨b, o + k * 4 + 1, none⟩ = some (.int .i64 c.i) ∧ W.cell? ⟨b, o + k * 4 + 2, none⟩ = some (.slice c.s.a c.s.len c.s.cap) ∧ W.cell? ⟨b, o + k * 4 + 3, none⟩ = some (.string c.x)) ∧
  ∀ c ∈ os, IsChs W c.s.a c.s.len c.s.z.cb c.s.z.o c.s.z.l ∧ c.s.len * 24 ≤ 140737488351232 ∧ (c.s.a = none → c.s.len = 0 ∧ c.s.cap = 0) ∧ -9223372036854775808 ≤ c.i ∧ c.i ≤ 9223372036854775807 ∧ c.x.size ≤ 9223372036854775807
theorem weightsAll_in {H : Type} {P : Program} {e : TypeId} : ∀ {l : List (DataW H)} {d : DataW H}, d ∈ l → ∀ n ∈ d.weights P e, n ∈ DataW.weightsAll P e l
  | d' :: r, d, hd, n, hn => by
    simp only [DataW.weightsAll, List.mem_append]
    rcases List.mem_cons.1 hd with rfl | h
    · exact Or.inl hn
    · exact Or.inr (weightsAll_in h n hn)
theorem four_of {α : Type} {l : List α} (h : l.length = 4) : ∃ a b c d, l = [a, b, c, d] := by
  match l, h with
  | [a, b, c, d], _ => exact ⟨a, b, c, d, rfl⟩
theorem trod_four {H : Type} {enc : TypeId × Value → H} {P : Program} {w : World} {base : Nat} {spare : Nat → Bool} {held : Bool} {t : TypeId} {f0 f1 f2 f3 : Field} {fuel : Nat} {cs : List Value} {x : DataW H × List MemPlace} (ht : P.underlying t = some (.struct #[f0, f1, f2, f3])) (h : DataW.trod enc P w base spare held fuel t cs = some x) :
    ∃ y0 y1 y2 y3 n, x.1 = .agg [y0.1, y1.1, y2.1, y3.1] ∧ cs.length = P.cellsOf t ∧ DataW.trod enc P w base spare held n f0.type ((cs.drop f0.offset).take (P.cellsOf f0.type)) = some y0 ∧
      DataW.trod enc P w base spare held n f1.type ((cs.drop f1.offset).take (P.cellsOf f1.type)) = some y1 ∧ DataW.trod enc P w base spare held n f2.type ((cs.drop f2.offset).take (P.cellsOf f2.type)) = some y2 ∧
      DataW.trod enc P w base spare held n f3.type ((cs.drop f3.offset).take (P.cellsOf f3.type)) = some y3 := by
  obtain ⟨xs, n, _, rfl, hl, hlen, hf⟩ := DataW.trod_struct ht h
  obtain ⟨y0, y1, y2, y3, rfl⟩ := four_of hlen
  exact ⟨y0, y1, y2, y3, n, rfl, hl, by simpa using hf 0 f0 rfl, by simpa using hf 1 f1 rfl, by simpa using hf 2 f2 rfl, by simpa using hf 3 f3 rfl⟩

set_option maxRecDepth 100000 in
theorem ops3_in {H : Type} {enc : TypeId × Value → H} {W : World} {a : Option Addr} {len cap : Nat} {d : DataW H} {p : List MemPlace} {ts : List TypeId} {ds : List (DataW H)} {j : Nat}
    (h : DataW.Trod enc Tryz.prog W 0 (fun _ => true) true 22 (.slice a len cap) d p) (hsz : (DataW.weightsEach Tryz.prog ts ds).all (· ≤ reachBytes) = true) (ht : ts[j]? = some 22) (hd : ds[j]? = some d) :
    ∃ os, IsOps5 W a len os ∧ (len = 0 ∨ ∃ el sp, d = .slice el sp ∧ el.length = len) := by
  obtain ⟨fuel, hf⟩ := h
  rcases Go.Deep.open_slice Tryz.underlying22 hf with ⟨hcs, _⟩ | ⟨y, l, c, m, n, D, Pl, hcs, _, hl, hm, hmm, hx, hi⟩
  · simp [Value.cells] at hcs
    obtain ⟨rfl, rfl, rfl⟩ := hcs
    exact ⟨[], ⟨rfl, Or.inl rfl, fun c hc => by simp at hc⟩, Or.inl rfl⟩
  · simp [Value.cells] at hcs
    obtain ⟨rfl, rfl, rfl⟩ := hcs
    have hs4 : Tryz.prog.cellsOf 36 = 4 := by kernel_rfl
    have hde := (Prod.mk.inj hx).1
    simp at hmm
    have key : ∀ i, i < len → ∃ c : Op5, W.cell? (y.add (i * 4)) = some (.int .i64 c.q) ∧ W.cell? (y.add (i * 4 + 1)) = some (.int .i64 c.i) ∧ W.cell? (y.add (i * 4 + 2)) = some (.slice c.s.a c.s.len c.s.cap) ∧ W.cell? (y.add (i * 4 + 3)) = some (.string c.x) ∧
        (IsChs W c.s.a c.s.len c.s.z.cb c.s.z.o c.s.z.l ∧ c.s.len * 24 ≤ 140737488351232 ∧ (c.s.a = none → c.s.len = 0 ∧ c.s.cap = 0) ∧ -9223372036854775808 ≤ c.i ∧ c.i ≤ 9223372036854775807 ∧ c.x.size ≤ 9223372036854775807) := by
      intro i him
      obtain ⟨cs', hc, ht'⟩ := hi i (by omega)
      rw [hs4] at hc
      obtain ⟨_, hlen, hat⟩ := World.cells?_some hc
      obtain ⟨y0, y1, y2, y3, n', hDi, _, g0, g1, g2, g3⟩ := trod_four Tryz.underlying36 ht'
      obtain ⟨v0, v1, v2, v3, rfl⟩ := four_of hlen
      have k3 : Tryz.prog.cellsOf 3 = 1 := by kernel_rfl
      have k9 : Tryz.prog.cellsOf 9 = 1 := by kernel_rfl
      have kc : Tryz.prog.cellsOf 34 = 1 := by kernel_rfl
      simp only [k3, k9, kc] at g0 g1 g2 g3
      obtain ⟨q, e0, _, _⟩ := DataW.trod_int Tryz.underlying3 g0
      obtain ⟨r, e1, _, wr⟩ := DataW.trod_int Tryz.underlying3 g1
      obtain ⟨sa, sl, sc, cb, o, z, e2, hch, _, hgs, hnn⟩ := chs_of g2
      obtain ⟨s, e3, _, ws⟩ := DataW.trod_string Tryz.underlying9 g3
      simp at e0 e1 e2 e3
      have a0 := hat 0 (by omega)
      have a1 := hat 1 (by omega)
      have a2 := hat 2 (by omega)
      have a3 := hat 3 (by omega)
      simp only [Go.Deep.add_add] at a0 a1 a2 a3
      have hb := i64_of_wf wr
      unfold maxLen at ws
      refine ⟨⟨q, r, ⟨sa, sl, sc, ⟨cb, o, z⟩⟩, s⟩, by simpa [e0] using a0, by simpa [e1] using a1, by simpa [e2] using a2, by simpa [e3] using a3, hch, ?_, hnn, hb.1, hb.2, ws⟩
      show sl * 24 ≤ _
      rcases hgs with rfl | ⟨el, sp, hy, rfl⟩
      · simp
      · have hbt : Tryz.prog.bytesOf 65 = 24 := by kernel_rfl
        have hm1 : (el.length + sp.length) * Tryz.prog.bytesOf 65 ∈ d.weights Tryz.prog 22 := by
          rw [hde]
          simp only [DataW.weights, Tryz.underlying22, List.mem_cons, List.mem_append]
          refine Or.inr (Or.inl (weightsAll_in (d := D i) (List.mem_map.2 ⟨i, List.mem_range.2 him, rfl⟩) _ ?_))
          rw [show D i = _ from hDi, hy]
          simp [DataW.weights, DataW.weightsEach, Tryz.underlying36, Tryz.underlying34]
        have hm2 := of_decide_eq_true (List.all_eq_true.1 hsz _ (DataW.weights_mem_each ht hd _ hm1))
        rw [hbt, show reachBytes = 140737488351232 from by decide] at hm2
        omega
    by_cases h0 : len = 0
    · exact ⟨[], ⟨by simpa using h0, Or.inl h0, fun c hc => by simp at hc⟩, Or.inl h0⟩
    haveI : Inhabited Op5 := ⟨⟨0, 0, ⟨none, 0, 0, ⟨0, 0, []⟩⟩, ⟨#[]⟩⟩⟩
    obtain ⟨V, hV⟩ := Go.Deep.choose_lt key
    obtain ⟨b, o, sp⟩ := y
    have hs : sp = none := by simpa [Addr.add] using World.cell?_spot (hV 0 (by omega)).1
    subst hs
    have hlt : b < W.heap.size := by
      have q0 := (hV 0 (by omega)).1
      rw [add_mk] at q0
      unfold World.cell? at q0
      rcases Nat.lt_or_ge b W.heap.size with h' | h'
      · exact h'
      · simp [Array.getElem?_eq_none h'] at q0
    refine ⟨(List.range len).map V, ⟨by simp, Or.inr ⟨b, o, rfl, hlt, fun k c hk => ?_⟩, fun c hc => ?_⟩, Or.inr ⟨_, _, hde, by simp⟩⟩
    · rw [List.getElem?_map] at hk
      by_cases hkm : k < len
      · rw [List.getElem?_range hkm] at hk
        cases hk
        obtain ⟨f0, f1, f2, f3, _⟩ := hV k hkm
        rw [add_mk] at f0 f1 f2 f3
        exact ⟨f0, by rw [Nat.add_assoc]; exact f1, by rw [Nat.add_assoc]; exact f2, by rw [Nat.add_assoc]; exact f3⟩
      · rw [List.getElem?_eq_none (by simpa using hkm)] at hk
        cases hk
    · obtain ⟨k, hk, rfl⟩ := List.mem_map.1 hc
      exact (hV k (List.mem_range.1 hk)).2.2.2.2
end Go.Proofs.YtclnhgfionfbbaaGreatDoor
