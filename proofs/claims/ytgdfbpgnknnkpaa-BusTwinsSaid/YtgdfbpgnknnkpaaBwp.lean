/-
  The law BusPlays, walked.
-/
import Derived.Test.YtgdfbpgnknnkpaaBst
namespace Go.Proofs.Ytgdfbpgnknnkpaa
open Go.RowKit
set_option linter.unusedVariables false

/-- A new bus and a new one of the document's. -/
theorem plst_new {w w1 : World} {bb : Nat} {v : Value} (s : BSt w bb v ⟨[], 1⟩ w1) :
    PlSt (w1.alloc (.cells #[.slice none 0 0, .int .i64 1] 30)) (dom bb v) (dom w1.heap.size (.slice none 0 0)) bb v w1.heap.size (.slice none 0 0) ⟨[], 1⟩ (w1.alloc (.cells #[.slice none 0 0, .int .i64 1] 30)) ∧
    Tch [] w (w1.alloc (.cells #[.slice none 0 0, .int .i64 1] 30)) ∧ (∀ q ∈ dom bb v ++ dom w1.heap.size (.slice none 0 0), w.heap.size ≤ q) := by
  obtain ⟨q1, q2, q3⟩ := bus_new (TB := 30) (TL := 38) (w := w1) (w1 := w1) (l := []) (v := .slice none 0 0) 1 ⟨World.ownsRow_nil _ _ _ _, Tch.refl _ _⟩
  refine ⟨⟨s.p.keep0 q3, q1, s.g, fun k h1 h2 => ?_, Nearer.refl _ _, Nearer.refl _ _, Tch.refl _ _⟩, s.t.trans q3, fun q hq => ?_⟩
  · have := s.p.dom_lt k h1
    have := q2 k h2
    omega
  · rcases List.mem_append.1 hq with h | h
    · exact s.n q h
    · exact Nat.le_trans s.t.size (q2 q h)

set_option maxRecDepth 100000 in
set_option maxHeartbeats 1000000 in
theorem plays7_walk (a : Option Addr) (len cap sb so : Nat) (ops : List POp) (w : World) (hs : IsR fOp 10 w a len sb so ops) (hok : ∀ o ∈ ops, o.lt.Ok) (hl : len * 88 ≤ 140737488351232) (_hc : len ≤ cap) :
    Calls Try.prog 3 #[.slice a len cap] w (TchPost w) := by
  have HW := Lib.hid (bwakes_any w)
  have HN : Hid (∀ W, Tch [] w W → Calls Try.prog 11 #[] W fun e w' => ∃ bb v, e = .returned (.pointer (some ⟨bb, 0, none⟩)) ∧ BSt w bb v ⟨[], 1⟩ w') := fun W t => bst_new w W t
  have HP : Hid (∀ bb v W, BSt w bb v ⟨[], 1⟩ W → Calls Try.prog 10 #[.pointer (some ⟨bb, 0, none⟩), .pointer (some ⟨W.heap.size, 0, none⟩), .slice a len cap] (W.alloc (.cells #[.slice none 0 0, .int .i64 1] 30)) (TchPost w)) := fun bb v W s => by
    obtain ⟨h1, h2, h3⟩ := plst_new s
    have hln := hs.hlen
    refine (bplay_any bb W.heap.size v _ ⟨[], 1⟩ ops a len cap sb so _ _ _ h1 (hs.keep0 h2) (fun h0 hm => by have := h3 _ hm; have := hs.lt h0; omega) hok (by show (1 : Int) + _ ≤ _; omega) (by omega)).mono ?_
    rintro e w' ⟨rfl, bb', v', rv', b', s', _, _⟩
    exact ⟨rfl, h2.transNew s'.t (fun m hm => Or.inr (h3 m hm))⟩
  have HF : Hid (∀ W, Tch [] w W → TchPost w (.returned (.bool true)) W) := fun W t => ⟨rfl, t⟩
  generalize hQ : TchPost w = Q at HF ⊢
  clear hQ
  clear hs hok hl
  go_enter Try.func3, Try.ntmps3
  go_wp2_with fail
  refine HW.out.mono ?_
  rintro e w1 ⟨rfl, t1⟩
  have HN1 := Lib.hid (HN.out w1 t1)
  clear HW HN t1
  go_wp2_with fail
  refine HN1.out.mono ?_
  rintro e w2 ⟨bb, v, rfl, s2⟩
  have HP2 := Lib.hid (HP.out bb v w2 s2)
  clear HN1 HP s2
  go_wp2_with fail
  refine HP2.out.mono ?_
  rintro e w3 ⟨rfl, t3⟩
  have HE := Lib.hid (HF.out w3 t3)
  clear HF HP2 t3
  go_wp2_with fail
  first | exact HE.out | (go_ret; exact HE.out)
end Go.Proofs.Ytgdfbpgnknnkpaa
