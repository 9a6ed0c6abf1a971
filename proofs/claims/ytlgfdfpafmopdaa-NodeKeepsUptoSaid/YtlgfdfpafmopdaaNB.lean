/-
  The law NodeBytes, walked: it answers true and turns nothing that was there, if package node answers as the document has it. Condition: lists and texts of fewer than 10^8 parts.
-/
import Derived.Test.YtlgfdfpafmopdaaNspec
namespace Go.Proofs.Ytlgfdfpafmopdaa
open Go.RowKit
set_option linter.unusedVariables false

/-- Block p is the boxed node. -/
def IsNb (w : World) (p : Nat) (v : Nv) : Prop := w.heap[p]? = some (.cells #[.bool v.leaf, .slice v.ka v.kn v.kc, .slice v.va v.vn v.vc, .slice v.ia v.im v.ic] 25 (0, 0))
theorem IsNb.c {w : World} {p : Nat} {v : Nv} (h : IsNb w p v) : w.cell? ⟨p, 0, none⟩ = some (.bool v.leaf) ∧ w.cell? ⟨p, 1, none⟩ = some (.slice v.ka v.kn v.kc) ∧ w.cell? ⟨p, 2, none⟩ = some (.slice v.va v.vn v.vc) ∧ w.cell? ⟨p, 3, none⟩ = some (.slice v.ia v.im v.ic) := by
  refine ⟨?_, ?_, ?_, ?_⟩ <;> rw [blk_cell h] <;> rfl

set_option maxRecDepth 100000 in
set_option maxHeartbeats 1000000 in
theorem nbytes_walk (HE : EncSpec) (HW : WeiSpec) (HP : PlaSpec) (v : Nv) (w : World) (h : IsNv w v) (ho : v.Ok) (hc : v.caps) :
    Calls Try.prog 3 #[.agg #[.bool v.leaf, .slice v.ka v.kn v.kc, .slice v.va v.vn v.vc, .slice v.ia v.im v.ic]] w fun e w' => e = .returned (.bool true) ∧ Tch [] w w' := by
  have T0 : Tch [] w (w.alloc (.cells #[.bool v.leaf, .slice v.ka v.kn v.kc, .slice v.va v.vn v.vc, .slice v.ia v.im v.ic] 25)) := (Tch.refl _ _).alloc _
  have hb : IsNb (w.alloc (.cells #[.bool v.leaf, .slice v.ka v.kn v.kc, .slice v.va v.vn v.vc, .slice v.ia v.im v.ic] 25)) w.heap.size v := blk_new w _
  have HEE : Hid (∀ w', Tch [] w w' → _) := fun w' t => HE v w' (h.keep0 t) ho hc
  have HWW : Hid (∀ w', Tch [] w w' → _) := fun w' t => HW v w' (h.keep0 t) ho hc
  have HRR : Hid (∀ w', Tch [] w w' → _) := fun w' t => nref_any v w' (h.keep0 t) ho
  have HFF : Hid (∀ w', Tch [] w w' → _) := fun w' t => nfit_any v w' (h.keep0 t) ho
  have HBB : Hid (∀ w' x c b, IsR fEn 3 w' x v.es.length b 0 v.es → _) := fun w' x c b hx => rbytes_any v.leaf x v.es.length c b 0 v.es w' hx (Nv.fine ho) (ndb_small (Nv.fine ho) (by rw [Nv.es_len]; exact ho.lk))
  have HKK := Lib.hid (nwakes_any HE HP)
  have hsz : (⟨(ndb v.leaf v.es).toArray⟩ : ByteArray).size = (ndb v.leaf v.es).length := List.size_toArray
  rw [← hsz] at HWW
  generalize (⟨(ndb v.leaf v.es).toArray⟩ : ByteArray) = sb at HEE HWW HBB
  generalize v.es = es at HRR HBB
  have HKEEP : Hid (∀ w', Tch [] (w.alloc (.cells #[.bool v.leaf, .slice v.ka v.kn v.kc, .slice v.va v.vn v.vc, .slice v.ia v.im v.ic] 25)) w' → IsNb w' w.heap.size v) := fun w' t => t.keep hb (by simp)
  clear hsz h ho hc
  cases hfit : v.fits
  all_goals
    rw [hfit] at HEE HFF
    simp only [if_true, if_false, Bool.false_eq_true] at HEE
    clear hfit
    obtain ⟨c0, c1, c2, c3⟩ := hb.c
    go_enter Try.func3, Try.ntmps3
    go_wp2_with fail
    generalize w.alloc (.cells #[.bool v.leaf, .slice v.ka v.kn v.kc, .slice v.va v.vn v.vc, .slice v.ia v.im v.ic] 25) = W1 at T0 hb c0 c1 c2 c3 HKEEP ⊢
    generalize w.heap.size = p at hb c0 c1 c2 c3 HKEEP ⊢
    refine (HEE.out _ T0).mono ?_
    rintro e w1 ⟨rfl, t1⟩
    have T1 := T0.trans t1
    clear c0 c1 c2 c3
    obtain ⟨c0, c1, c2, c3⟩ := (HKEEP.out w1 t1).c
    go_wp2_with fail
    refine (HRR.out _ T1).mono ?_
    rintro e w2 ⟨x, c, b, rfl, hx, _, _, t2⟩
    have HB2 := Lib.hid (HBB.out w2 x c b hx)
    have T2 := T1.trans t2
    have hk2 := HKEEP.out w2 (t1.trans t2)
    clear c0 c1 c2 c3 hx
    go_wp2_with fail
    refine HB2.out.mono ?_
    rintro e w3 ⟨rfl, t3⟩
    have T3 := T2.trans t3
    clear hk2
    go_wp2_with fail
    refine (HKK.out w3).mono ?_
    rintro e w4 ⟨rfl, t4⟩
    have T4 := T3.trans t4
    have t14 := ((t1.trans t2).trans t3).trans t4
    obtain ⟨c0, c1, c2, c3⟩ := (HKEEP.out w4 t14).c
    go_wp2_with (first | (go_at_call 14; refine (HWW.out w4 T4).mono ?_; rintro e w5 ⟨rfl, t5⟩; obtain ⟨d0, d1, d2, d3⟩ := (HKEEP.out w5 (t14.trans t5)).c))
    refine (HFF.out w5 (T4.trans t5)).mono ?_
    rintro e w6 ⟨rfl, t6⟩
    clear c0 c1 c2 c3 d0 d1 d2 d3
    go_wp2_with fail
    go_ret
    exact ⟨rfl, (T4.trans t5).trans t6⟩
end Go.Proofs.Ytlgfdfpafmopdaa
