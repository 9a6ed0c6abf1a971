/-
  Opening what was handed in: a slice of changes, a slice of such slices.
-/
import Derived.Test.YtclnhgfionfbbaaDoorOpen
import Derived.Test.YtclnhgfionfbbaaDoorSec
import Derived.Deep.Slices
import Derived.Deep.Strs
import Derived.ChangeMaps5
namespace Go.Proofs.YtclnhgfionfbbaaDoor
open Go.ChangeShapes Go.WideShapes Go.ChangeAt Go.RowKit
set_option linter.unusedVariables false

theorem two_of {α : Type} {l : List α} (h : l.length = 2) : ∃ a b, l = [a, b] := by
  match l, h with
  | [a, b], _ => exact ⟨a, b, rfl⟩

theorem trod_two {H : Type} {enc : TypeId × Value → H} {P : Program} {w : World} {base : Nat} {spare : Nat → Bool} {held : Bool} {t : TypeId} {f0 f1 : Field} {fuel : Nat} {cs : List Value} {x : DataW H × List MemPlace} (ht : P.underlying t = some (.struct #[f0, f1])) (h : DataW.trod enc P w base spare held fuel t cs = some x) :
    ∃ y0 y1 n, cs.length = P.cellsOf t ∧ DataW.trod enc P w base spare held n f0.type ((cs.drop f0.offset).take (P.cellsOf f0.type)) = some y0 ∧
      DataW.trod enc P w base spare held n f1.type ((cs.drop f1.offset).take (P.cellsOf f1.type)) = some y1 := by
  obtain ⟨xs, n, _, rfl, hl, hlen, hf⟩ := DataW.trod_struct ht h
  obtain ⟨y0, y1, rfl⟩ := two_of hlen
  exact ⟨y0, y1, n, hl, by simpa using hf 0 f0 rfl, by simpa using hf 1 f1 rfl⟩

set_option maxRecDepth 100000 in
/-- A slice of changes, out of its cells. -/
theorem chs_of {H : Type} {enc : TypeId × Value → H} {W : World} {fuel : Nat} {cs : List Value} {x : DataW H × List MemPlace}
    (h : DataW.trod enc Tryd.prog W 0 (fun _ => true) true fuel 36 cs = some x) :
    ∃ (a : Option Addr) (len cap cb o : Nat) (l : List (Int × ByteArray)), cs = [.slice a len cap] ∧ IsChs W a len cb o l ∧ len ≤ maxLen ∧ (len = 0 ∨ ∃ el sp, x.1 = .slice el sp ∧ el.length = len) := by
  rcases Go.Deep.open_slice Tryd.underlying36 h with ⟨rfl, rfl⟩ | ⟨y, len, cap, m, n, D, Pl, rfl, _, hl, hm, hmm, hx, hi⟩
  · exact ⟨none, 0, 0, 0, 0, [], rfl, ⟨rfl, Or.inl rfl, fun k c hk => by simp at hk, fun c hc => by simp at hc⟩, by omega, Or.inl rfl⟩
  · have hsz : Tryd.prog.cellsOf 39 = 2 := by kernel_rfl
    have key : ∀ i, i < len → ∃ c : Int × ByteArray, W.cell? (y.add (i * 2)) = some (.int .i64 c.1) ∧ W.cell? (y.add (i * 2 + 1)) = some (.string c.2) ∧ -9223372036854775808 ≤ c.1 ∧ c.1 ≤ 9223372036854775807 ∧ c.2.size ≤ 9223372036854775807 := by
      intro i him
      obtain ⟨cs', hc, ht⟩ := hi i (by rw [hmm]; split <;> omega)
      rw [hsz] at hc
      obtain ⟨_, hlen, hat⟩ := World.cells?_some hc
      obtain ⟨y0, y1, n', _, g0, g1⟩ := trod_two Tryd.underlying39 ht
      obtain ⟨v0, v1, rfl⟩ := two_of hlen
      have k3 : Tryd.prog.cellsOf 3 = 1 := by kernel_rfl
      have k9 : Tryd.prog.cellsOf 9 = 1 := by kernel_rfl
      simp only [k3, k9] at g0 g1
      obtain ⟨q, e0, _, wq⟩ := DataW.trod_int Tryd.underlying3 g0
      obtain ⟨s, e1, _, ws⟩ := DataW.trod_string Tryd.underlying9 g1
      simp at e0 e1
      have a0 := hat 0 (by omega)
      have a1 := hat 1 (by omega)
      simp only [Go.Deep.add_add] at a0 a1
      have hb := i64_of_wf wq
      unfold maxLen at ws
      exact ⟨(q, s), by simpa [e0] using a0, by simpa [e1] using a1, hb.1, hb.2, ws⟩
    refine ⟨some y, len, cap, y.block, y.off, ?_⟩
    by_cases h0 : len = 0
    · exact ⟨[], rfl, ⟨by simpa using h0, Or.inl h0, fun k c hk => by simp at hk, fun c hc => by simp at hc⟩, by omega, Or.inl h0⟩
    haveI : Inhabited (Int × ByteArray) := ⟨(0, ⟨#[]⟩)⟩
    obtain ⟨V, hV⟩ := Go.Deep.choose_lt key
    obtain ⟨b, o, sp⟩ := y
    have hs : sp = none := by simpa [Addr.add] using World.cell?_spot (hV 0 (by omega)).1
    subst hs
    have hlt : b < W.heap.size := by
      have q0 := (hV 0 (by omega)).1
      rw [add_mk] at q0
      unfold World.cell? at q0
      rcases Nat.lt_or_ge b W.heap.size with h' | h'
      · exact h'
      · simp [Array.getElem?_eq_none h'] at q0
    refine ⟨(List.range len).map V, rfl, ⟨by simp, Or.inr ⟨rfl, hlt⟩, fun k c hk => ?_, fun c hc => ?_⟩, by omega, Or.inr ⟨_, _, by rw [hx], by simp⟩⟩
    · rw [List.getElem?_map] at hk
      by_cases hkm : k < len
      · rw [List.getElem?_range hkm] at hk
        cases hk
        obtain ⟨f0, f1, _⟩ := hV k hkm
        rw [add_mk] at f0 f1
        exact ⟨f0, by rw [Nat.add_assoc]; exact f1⟩
      · rw [List.getElem?_eq_none (by simpa using hkm)] at hk
        cases hk
    · obtain ⟨k, hk, rfl⟩ := List.mem_map.1 hc
      obtain ⟨_, _, f2, f3, f4⟩ := hV k (List.mem_range.1 hk)
      exact ⟨f2, f3, f4⟩

/-- What is known of a slice of changes: where it lies, what it holds. -/
structure Chs where
  cb : Nat
  o : Nat
  l : List (Int × ByteArray)
theorem chs_in {H : Type} {enc : TypeId × Value → H} {W : World} {a : Option Addr} {len cap : Nat} {d : DataW H} {p : List MemPlace}
    (h : DataW.Trod enc Tryd.prog W 0 (fun _ => true) true 36 (.slice a len cap) d p) : ∃ z : Chs, IsChs W a len z.cb z.o z.l ∧ (len = 0 ∨ ∃ el sp, d = .slice el sp ∧ el.length = len) := by
  obtain ⟨fuel, hf⟩ := h
  obtain ⟨a', len', cap', cb, o, l, he, hc, _, hs⟩ := chs_of hf
  simp [Value.cells] at he
  obtain ⟨rfl, rfl, rfl⟩ := he
  exact ⟨⟨cb, o, l⟩, hc, hs⟩

/-- A slice of slices of changes: a row in block b from o on; the i-th is the slice '(zs i)'. -/
structure Sl where
  a : Option Addr
  len : Nat
  cap : Nat
  z : Chs
def IsChss (W : World) (a : Option Addr) (len : Nat) (zs : List Sl) : Prop :=
  len = zs.length ∧ (len = 0 ∨ ∃ b o, a = some ⟨b, o, none⟩ ∧ b < W.heap.size ∧ ∀ (k : Nat) s, zs[k]? = some s → W.cell? ⟨b, o + k, none⟩ = some (.slice s.a s.len s.cap)) ∧ ∀ s ∈ zs, IsChs W s.a s.len s.z.cb s.z.o s.z.l ∧ s.len ≤ maxLen

set_option maxRecDepth 100000 in
theorem chss_of {H : Type} {enc : TypeId × Value → H} {W : World} {fuel : Nat} {cs : List Value} {x : DataW H × List MemPlace}
    (h : DataW.trod enc Tryd.prog W 0 (fun _ => true) true fuel 22 cs = some x) :
    ∃ (a : Option Addr) (len cap : Nat) (zs : List Sl), cs = [.slice a len cap] ∧ IsChss W a len zs ∧ len ≤ maxLen ∧ (len = 0 ∨ ∃ el sp, x.1 = .slice el sp ∧ el.length = len) := by
  rcases Go.Deep.open_slice1 Tryd.underlying22 (by kernel_rfl) h with ⟨rfl, rfl⟩ | ⟨y, len, cap, m, n, V, D, Pl, rfl, _, hl, hm, hmm, hx, hi⟩
  · exact ⟨none, 0, 0, [], rfl, ⟨rfl, Or.inl rfl, fun c hc => by simp at hc⟩, by omega, Or.inl rfl⟩
  · refine ⟨some y, len, cap, ?_⟩
    by_cases h0 : len = 0
    · exact ⟨[], rfl, ⟨by simpa using h0, Or.inl h0, fun c hc => by simp at hc⟩, by omega, Or.inl h0⟩
    have key : ∀ i, i < len → ∃ s : Sl, W.cell? (y.add i) = some (.slice s.a s.len s.cap) ∧ IsChs W s.a s.len s.z.cb s.z.o s.z.l ∧ s.len ≤ maxLen := by
      intro i him
      obtain ⟨hc, ht⟩ := hi i (by rw [hmm]; split <;> omega)
      obtain ⟨a', len', cap', cb, o, l, he, hc', hml, _⟩ := chs_of ht
      simp at he
      exact ⟨⟨a', len', cap', ⟨cb, o, l⟩⟩, by rw [hc, he], hc', hml⟩
    haveI : Inhabited Sl := ⟨⟨none, 0, 0, ⟨0, 0, []⟩⟩⟩
    obtain ⟨S, hS⟩ := Go.Deep.choose_lt key
    obtain ⟨b, o, sp⟩ := y
    have hs : sp = none := by simpa [Addr.add] using World.cell?_spot (hS 0 (by omega)).1
    subst hs
    have hlt : b < W.heap.size := by
      have q0 := (hS 0 (by omega)).1
      rw [add_mk] at q0
      unfold World.cell? at q0
      rcases Nat.lt_or_ge b W.heap.size with h' | h'
      · exact h'
      · simp [Array.getElem?_eq_none h'] at q0
    refine ⟨(List.range len).map S, rfl, ⟨by simp, Or.inr ⟨b, o, rfl, hlt, fun k s hk => ?_⟩, fun c hc => ?_⟩, by omega, Or.inr ⟨_, _, by rw [hx], by simp⟩⟩
    · rw [List.getElem?_map] at hk
      by_cases hkm : k < len
      · rw [List.getElem?_range hkm] at hk
        cases hk
        have f0 := (hS k hkm).1
        rw [add_mk] at f0
        exact f0
      · rw [List.getElem?_eq_none (by simpa using hkm)] at hk
        cases hk
    · obtain ⟨k, hk, rfl⟩ := List.mem_map.1 hc
      exact (hS k (List.mem_range.1 hk)).2
theorem chss_in {H : Type} {enc : TypeId × Value → H} {W : World} {a : Option Addr} {len cap : Nat} {d : DataW H} {p : List MemPlace}
    (h : DataW.Trod enc Tryd.prog W 0 (fun _ => true) true 22 (.slice a len cap) d p) : ∃ zs, IsChss W a len zs ∧ (len = 0 ∨ ∃ el sp, d = .slice el sp ∧ el.length = len) := by
  obtain ⟨fuel, hf⟩ := h
  obtain ⟨a', len', cap', zs, he, hc, _, hs⟩ := chss_of hf
  simp [Value.cells] at he
  obtain ⟨rfl, rfl, rfl⟩ := he
  exact ⟨zs, hc, hs⟩
end Go.Proofs.YtclnhgfionfbbaaDoor
