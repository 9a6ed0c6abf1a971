/-
  Opening a table, a pair and a row that were handed in.
-/
import Derived.Test.YtenohgogfddniaaRin
import Derived.Test.YtenohgogfddniaaIsm
import Derived.Test.YtenohgogfddniaaHav
import Derived.Deep.SlicePairs
namespace Go.Proofs.Ytenohgogfddniaa
open Go.ChangeShapes Go.WideShapes Go.ChangeAt Go.RowKit
set_option linter.unusedVariables false

theorem four_cells6 {α : Type} {l : Array α} (h : l.toList.length = 4) : ∃ a b c d, l = #[a, b, c, d] := by
  obtain ⟨l⟩ := l
  match l, h with
  | [a, b, c, d], _ => exact ⟨a, b, c, d, rfl⟩
theorem two_cells6 {α : Type} {l : Array α} (h : l.toList.length = 2) : ∃ a b, l = #[a, b] := by
  obtain ⟨l⟩ := l
  match l, h with
  | [a, b], _ => exact ⟨a, b, rfl⟩
theorem u8_nat {n : Int} (h : (Lit.int .u8 n).wf = true) : ∃ k : Nat, n = (k : Int) ∧ k < 256 := by
  have : 0 ≤ n ∧ n ≤ 255 := by simpa [Lit.wf, IntKind.min, IntKind.max, IntKind.signed, IntKind.bits] using h
  exact ⟨n.toNat, by omega, by omega⟩

set_option maxRecDepth 100000 in
theorem tbl_in {H : Type} {enc : TypeId × Value → H} {W : World} {base : Nat} {v : Value} {d : DataW H} {p : List MemPlace}
    (h : DataW.Trod enc Try.prog W 0 (fun _ => true) true 24 v d p) (hb : Rows.uptoBulk d ≤ 1048576) (hok : Value.okWide Try.prog W .any base 24 v) :
    ∃ (t : Tb) (a : Option Addr) (c b o : Nat), v = t.agg a c ∧ IsKs W a t.cols.length b o t.cols ∧ t.cols.length ≤ c ∧ t.cols.length ≤ 1048576 ∧ t.name < 256 := by
  obtain ⟨cs, rfl, _⟩ := okWide_struct Try.underlying24 hok
  obtain ⟨fuel, hf⟩ := h
  have hcl : Try.prog.cellsOf 24 = 4 := by kernel_rfl
  obtain ⟨y0, y1, y2, y3, m, hx, hlen, g0, g1, g2, g3⟩ := trod_four Try.underlying24 hf
  obtain ⟨v0, v1, v2, v3, rfl⟩ := four_cells6 (l := cs) (by rw [hcl] at hlen; simpa [Value.cells] using hlen)
  have k0 : Try.prog.cellsOf 5 = 1 := by kernel_rfl
  have k1 : Try.prog.cellsOf 22 = 1 := by kernel_rfl
  have k2 : Try.prog.cellsOf 3 = 1 := by kernel_rfl
  simp only [k0, k1, k2] at g0 g1 g2 g3
  obtain ⟨nm, e0, _, w0⟩ := DataW.trod_int Try.underlying5 g0
  obtain ⟨a, n, c, b, o, cols, e1, r1, c1, _, _, b1, _⟩ := ints_row Try.underlying22 Try.underlying56 (by kernel_rfl) g1
  obtain ⟨tk, e2, _, _⟩ := DataW.trod_int Try.underlying3 g2
  obtain ⟨ti, e3, _, _⟩ := DataW.trod_int Try.underlying3 g3
  simp [Value.cells] at e0 e1 e2 e3
  subst e0 e1 e2 e3
  obtain ⟨k, rfl, hk⟩ := u8_nat w0
  have hbb : Rows.uptoBulk y1.1 ≤ 1048576 := by
    rw [show d = _ from hx] at hb
    simp only [Rows.uptoBulk, Rows.uptoBulkAll] at hb
    omega
  have hl := r1.hlen
  subst hl
  exact ⟨⟨k, cols, tk, ti⟩, a, c, b, o, rfl, r1, c1, by show cols.length ≤ _; omega, hk⟩

set_option maxRecDepth 100000 in
theorem pair_in {H : Type} {enc : TypeId × Value → H} {W : World} {base : Nat} {v : Value} {d : DataW H} {p : List MemPlace}
    (h : DataW.Trod enc Try.prog W 0 (fun _ => true) true 28 v d p) (hb : Rows.uptoBulk d ≤ 1048576) (hok : Value.okWide Try.prog W .any base 28 v) :
    ∃ K V : ByteArray, v = .agg #[.string K, .string V] ∧ K.size ≤ 1048576 ∧ V.size ≤ 1048576 := by
  obtain ⟨cs, rfl, _⟩ := okWide_struct Try.underlying28 hok
  obtain ⟨fuel, hf⟩ := h
  have hcl : Try.prog.cellsOf 28 = 2 := by kernel_rfl
  obtain ⟨xs, m, _, hx, hlen, hxs, hel⟩ := DataW.trod_struct Try.underlying28 hf
  obtain ⟨v0, v1, rfl⟩ := two_cells6 (l := cs) (by rw [hcl] at hlen; simpa [Value.cells] using hlen)
  have k9 : Try.prog.cellsOf 9 = 1 := by kernel_rfl
  match xs, hxs with
  | [x0, x1], _ =>
    have g0 : DataW.trod enc Try.prog W 0 (fun _ => true) true m 9 [v0] = some x0 := by have := hel 0 _ rfl; simpa [k9, Value.cells] using this
    have g1 : DataW.trod enc Try.prog W 0 (fun _ => true) true m 9 [v1] = some x1 := by have := hel 1 _ rfl; simpa [k9, Value.cells] using this
    obtain ⟨s0, e0, u0, _⟩ := DataW.trod_string Try.underlying9 g0
    obtain ⟨s1, e1, u1, _⟩ := DataW.trod_string Try.underlying9 g1
    simp at e0 e1
    subst e0 e1
    have hd : d = .agg [x0.1, x1.1] := (Prod.mk.inj hx).1
    rw [hd, u0, u1] at hb
    simp only [Rows.uptoBulk, Rows.uptoBulkAll, ← Lib.size_eq] at hb
    exact ⟨s0, s1, rfl, by omega, by omega⟩

instance : Inhabited Vl := ⟨⟨0, ⟨#[]⟩⟩⟩
set_option maxRecDepth 100000 in
theorem vals_row {H : Type} {enc : TypeId × Value → H} {W : World} {fuel : Nat} {cs : List Value} {x : DataW H × List MemPlace}
    (h : DataW.trod enc Try.prog W 0 (fun _ => true) true fuel 26 cs = some x) (hb : Rows.uptoBulk x.1 ≤ 1048576) :
    ∃ (a : Option Addr) (len cap b o : Nat) (l : List Vl), cs = [.slice a len cap] ∧ IsVs W a len b o l ∧ len ≤ cap ∧ len ≤ 1048576 ∧ ∀ y ∈ l, y.Ok := by
  rcases Go.Deep.open_slice_pairs Try.underlying26 Try.underlying58 (by kernel_rfl) rfl rfl (by kernel_rfl) (by kernel_rfl) h with ⟨rfl, rfl⟩ | ⟨y, len, cap, m, n, V0, V1, D0, D1, P0, P1, rfl, _, hl, hm, hmm, rfl, hi⟩
  · exact ⟨none, 0, 0, 0, 0, [], rfl, IsR.nil _ _ _ _, by omega, by omega, fun y hy => by cases hy⟩
  · have hlm : len ≤ m := by rw [hmm]; simp; omega
    have hlb : ∀ (l : List (DataW H)), l.length ≤ Rows.uptoBulkAll l := fun l => by
      induction l with
      | nil => simp
      | cons e l ih => simp only [List.length_cons, Rows.uptoBulkAll]; have := bulk_pos e; omega
    have hle : len ≤ 1048576 := by
      simp only [Rows.uptoBulk] at hb
      have := hlb ((List.range len).map fun i => .agg [D0 i, D1 i])
      rw [List.length_map, List.length_range] at this
      omega
    have key : ∀ i, i < len → ∃ z : Vl, z.Ok ∧ ∀ (j : Nat) v, (fVl z)[j]? = some v → W.cell? (y.add (i * 2 + j)) = some v := by
      intro i him
      obtain ⟨a0, a1, g0, g1⟩ := hi i (by omega)
      obtain ⟨z0, e0, _, w0⟩ := DataW.trod_int Try.underlying2 g0
      obtain ⟨s1, e1, u1, _⟩ := DataW.trod_string Try.underlying9 g1
      simp at e0 e1 u1
      have r0 : -9223372036854775808 ≤ z0 ∧ z0 ≤ 9223372036854775807 := by simpa [Lit.wf, IntKind.min, IntKind.max, IntKind.signed, IntKind.bits] using w0
      have hsz : s1.size ≤ 1048576 := by
        have h1 : Rows.uptoBulk (.agg [D0 i, D1 i]) ≤ Rows.uptoBulkAll ((List.range len).map fun i => .agg [D0 i, D1 i]) := bulk_le (List.mem_map.2 ⟨i, List.mem_range.2 him, rfl⟩)
        simp only [Rows.uptoBulk] at hb
        simp only [Rows.uptoBulk, Rows.uptoBulkAll] at h1
        rw [u1.1, bulk_str] at h1
        omega
      refine ⟨⟨z0, s1⟩, ⟨r0.1, by simp only; omega, by simp only; omega⟩, fun j v hv => ?_⟩
      match j, hv with
      | 0, hv => simp [fVl] at hv; subst hv; simpa [e0] using a0
      | 1, hv => simp [fVl] at hv; subst hv; simpa [e1] using a1
      | j + 2, hv => simp [fVl] at hv
    obtain ⟨b, o, l, hr, hok⟩ := isr_mk (f := fVl) (sz := 2) Vl.Ok (fun _ => by simp [fVl]) key
    exact ⟨some y, len, cap, b, o, l, rfl, hr, hl, hle, hok⟩
end Go.Proofs.Ytenohgogfddniaa
