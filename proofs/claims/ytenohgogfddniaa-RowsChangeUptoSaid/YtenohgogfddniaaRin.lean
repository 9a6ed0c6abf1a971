/-
  Opening what the laws of layer 6 are handed: the variable that a library's text stands on, an array of two numbers. The wrap that hands on the shape of the variables, for a statement of bounded bulk.
-/
import Derived.Test.YtenohgogfddniaaRkf
import Derived.Test.YtenohgogfddniaaUp
import Derived.JoinedCond
import Derived.Shelf.Vars
import Derived.OpenShut
namespace Go.Proofs.Ytenohgogfddniaa
open Go.ChangeShapes Go.WideShapes Go.ChangeAt Go.RowKit
set_option linter.unusedVariables false

section
variable {H : Type} {enc : TypeId × Value → H}
theorem handed_cond_shaped {a : Assume} {C : Checked} {os : Os} {f : FuncId} {fn : Func} {s : OpenSpec} {k : (H : Type) → List (DataW H) → Bool} (hk : s.cond = some k) {F : Stop.Interp} {conds : List PathCond} {apart fresh handsOn again : Bool}
    (own : ownKnob C.prog.godebug = none) (started : os.Started) (noInit : C.prog.inits.idxOf? f = none) (hfn : C.prog.funcs[f]? = some fn)
    (witness : ∃ (w : World) (tape : Tape) (i : Input), w.os = os ∧ (w.forCall tape i).Shaped C.prog ∧ i.vars = [] ∧ Input.okWide C.prog (w.forCall tape i) .any w.heap.size f i ∧
      s.pre6 enc C.prog fn conds apart (w.forCall tape i).memory i.args ∧ a.holds C.prog (lone (Frame.enter C.prog f i.args .normal) [] (w.forCall tape i)))
    (contract : ∀ (W : World) (base : Nat) (args : Array Value) (ds gs : List (DataW H)) (before : List MemPlace),
      (∀ (j : Nat) t v, fn.params[j]? = some t → args[j]? = some v → Value.okWide C.prog W .any base t v) →
      DataW.Whole enc C.prog fn.params.toList s.vars apart W args.toList ds gs before → k H (ds ++ gs) = true → W.ShapedOpen C.prog →
      Calls C.prog f args W fun e W' => ∃ v, e = .returned v ∧ (s.at F).post enc C.prog fn apart fresh handsOn again W args v W') :
    ReturnsInHanded a C os f .any (s.pre6 enc C.prog fn conds apart) ((s.at F).post enc C.prog fn apart fresh handsOn again) := by
  refine returnsInHanded_of_calls own started noInit witness ?_
  intro w tape i _ hsh _ hok hpre _
  obtain ⟨_, _, _, fn', hfn', _, _, _, _, hval⟩ := hok
  cases Option.some.inj (hfn'.symm.trans hfn)
  obtain ⟨ds, gs, before, hw, _, hkk⟩ := (OpenSpec.pre_some hk conds apart _ _).1 hpre.1
  refine (contract _ w.heap.size i.args ds gs before hval (DataW.Whole.of_heap (by rfl) hw) hkk hsh).mono fun e W' ⟨v, he, hp⟩ => ?_
  cases he
  exact ChangeSpec.post_blind hp
end

theorem maxl_of {W : World} (h : W.ShapedOpen Try.prog) : MaxL W := by
  obtain ⟨m, hm⟩ := cell_of_shapedOpen_int (P := Try.prog) (g := 0) (t := 3) (zero := #[.int .i64 0]) h (of_decide_eq_true (by kernel_rfl)) (by kernel_rfl) rfl (by kernel_rfl) (by kernel_rfl) Try.underlying3
  refine ⟨m, hm, ?_⟩
  unfold World.cell? at hm
  rcases Nat.lt_or_ge 0 W.heap.size with h' | h'
  · exact h'
  · simp [Array.getElem?_eq_none h'] at hm

set_option maxRecDepth 100000 in
theorem two_in {H : Type} {enc : TypeId × Value → H} {W : World} {base : Nat} {v : Value} {d : DataW H} {p : List MemPlace}
    (h : DataW.Trod enc Try.prog W 0 (fun _ => true) true 55 v d p) (hok : Value.okWide Try.prog W .any base 55 v) :
    ∃ a b : Int, v = .agg #[.int .i64 a, .int .i64 b] ∧ (-9223372036854775808 ≤ a ∧ a < 9223372036854775808) ∧ -9223372036854775808 ≤ b ∧ b < 9223372036854775808 := by
  simp only [Value.okWide, Try.underlying55] at hok
  obtain ⟨cs, rfl, hs, _⟩ := hok
  have c2 : Try.prog.cellsOf 55 = 2 := by kernel_rfl
  have c1 : Try.prog.cellsOf 2 = 1 := by kernel_rfl
  rw [c2] at hs
  obtain ⟨fu, hf⟩ := h
  obtain ⟨xs, m, _, _, _, hn, hel⟩ := DataW.trod_array Try.underlying55 hf
  obtain ⟨l⟩ := cs
  match l, hs with
  | [x, y], _ =>
    match xs, hn with
    | [x0, x1], _ =>
      have k0 := hel 0 (by omega); have k1 := hel 1 (by omega)
      rw [c1] at k0 k1
      obtain ⟨z0, a0, _, w0⟩ := DataW.trod_int Try.underlying2 k0
      obtain ⟨z1, a1, _, w1⟩ := DataW.trod_int Try.underlying2 k1
      simp [Value.cells] at a0 a1
      have r0 : -9223372036854775808 ≤ z0 ∧ z0 ≤ 9223372036854775807 := by simpa [Lit.wf, IntKind.min, IntKind.max, IntKind.signed, IntKind.bits] using w0
      have r1 : -9223372036854775808 ≤ z1 ∧ z1 ≤ 9223372036854775807 := by simpa [Lit.wf, IntKind.min, IntKind.max, IntKind.signed, IntKind.bits] using w1
      exact ⟨z0, z1, by rw [a0, a1], ⟨r0.1, by omega⟩, r1.1, by omega⟩
end Go.Proofs.Ytenohgogfddniaa
