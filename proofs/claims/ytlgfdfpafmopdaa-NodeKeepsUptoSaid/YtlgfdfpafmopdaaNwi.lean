/-
  isFit of package node: a node is fit just where the document says so. Conditions: the lists and texts are short (Nv.Ok).
-/
import Derived.Test.YtlgfdfpafmopdaaNwf
namespace Go.Proofs.Ytlgfdfpafmopdaa
open Go.RowKit
set_option linter.unusedVariables false

set_option maxRecDepth 100000 in
set_option maxHeartbeats 1000000 in
theorem nisFit_any (v : Nv) (w : World) (h : IsNv w v) (ho : v.Ok) (hcp : v.caps) :
    Calls Try.prog 26 #[.agg #[.bool v.leaf, .slice v.ka v.kn v.kc, .slice v.va v.vn v.vc, .slice v.ia v.im v.ic]] w fun e w' => e = .returned (.bool v.fits) ∧ Tch [] w w' := by
  have T0 : Tch [] w (w.alloc (.cells #[.bool v.leaf, .slice v.ka v.kn v.kc, .slice v.va v.vn v.vc, .slice v.ia v.im v.ic] 25)) := (Tch.refl _ _).alloc _
  have HB : Hid (∀ w', Tch [] (w.alloc (.cells #[.bool v.leaf, .slice v.ka v.kn v.kc, .slice v.va v.vn v.vc, .slice v.ia v.im v.ic] 25)) w' → _) := fun w' t => nvb_cells w v.leaf v.ka v.va v.ia v.kn v.kc v.vn v.vc v.im v.ic t
  have HK : Hid (∀ w', Tch [] w w' → Calls Try.prog 41 _ w' fun e w2 => e = .returned (.bool (kOk none v.keys)) ∧ Tch [] w' w2) := fun w' t => nareKeys_any v.ka v.kn v.kc v.kb v.ko v.keys w' (h.keep0 t).rk (by have := ho.lk; omega) (fun x hx => by have := ho.ks x hx; omega)
  have HV : Hid (∀ w', Tch [] w w' → Calls Try.prog 42 #[.slice v.va v.vn v.vc, .int .i64 v.kn] w' fun e w2 => e = .returned (.bool (vOk v.vals && v.vals.length == v.keys.length)) ∧ Tch [] w' w2) := fun w' t => by
    rw [h.rk.hlen]
    exact nareValues_any v.va v.vn v.vc v.vb v.vo v.vals v.keys.length w' (h.keep0 t).rv (by have := ho.lv; omega) (by have := ho.lk; omega)
  have HI : Hid (∀ w', Tch [] w w' → Calls Try.prog 43 #[.slice v.ia v.im v.ic, .int .i64 v.kn] w' fun e w2 => e = .returned (.bool (iOk v.kids && v.kids.length == v.keys.length && decide (0 < v.keys.length))) ∧ Tch [] w' w2) := fun w' t => by
    rw [h.rk.hlen]
    exact nareKids_any v.ia v.im v.ic v.ib v.io v.kids v.keys.length w' (h.keep0 t).ri (by have := ho.li; omega) (by have := ho.lk; omega)
  have HW : Hid (∀ w', Tch [] w w' → Calls Try.prog 14 _ w' fun e w2 => e = .returned (.int .i64 ((ndb v.leaf v.es).length : Nat)) ∧ Tch [] w' w2) := fun w' t => weight_any v w' (h.keep0 t) ho hcp
  have hkl := h.rk.hlen
  have hvl := h.rv.hlen
  have hil := h.ri.hlen
  have hk8 := ho.lk
  have hv8 := ho.lv
  have hi8 := ho.li
  have hsm := ndb_small (leaf := v.leaf) (Nv.fine ho) (by rw [v.es_len]; exact ho.lk)
  rw [← hkl] at hk8
  rw [← hvl] at hv8
  rw [← hil] at hi8
  rcases hlf : v.leaf with _ | _
  · have hft := fits_kids v hlf
    rw [← hvl] at hft
    have HFT := Lib.hid hft
    rw [hlf] at HW HB T0 hsm HFT
    generalize (ndb false v.es).length = m at HW HFT hsm
    generalize (iOk v.kids && v.kids.length == v.keys.length && decide (0 < v.keys.length)) = B at HI HFT
    generalize kOk none v.keys = K at HK HFT
    generalize v.fits = r at HFT ⊢
    obtain ⟨W1, hW1⟩ : ∃ W1, W1 = w.alloc (.cells #[.bool false, .slice v.ka v.kn v.kc, .slice v.va v.vn v.vc, .slice v.ia v.im v.ic] 25) := ⟨_, rfl⟩
    generalize hlen : v.vn = q at *
    rw [← hW1] at HB T0
    clear hft h ho hcp hkl hvl hil hlf HV
    go_enter Try.func26, Try.ntmps26
    go_wp2_with fail
    rw [← hW1]
    refine (HK.out _ T0).mono ?_
    rintro e w1 ⟨rfl, t1⟩
    obtain ⟨c0, c1, c2, c3, clt⟩ := HB.out _ t1
    have T1 := T0.trans t1
    cases K
    · have HR : Hid (r = false) := by show _ = _; rw [HFT.out]; simp
      go_wp2_with fail
      go_ret
      exact ⟨by rw [HR.out]; rfl, T1⟩
    by_cases hq : 0 < q
    · have hd : decide (0 < q) = true := decide_eq_true hq
      have hdi : decide ((0 : Int) < (q : Int)) = true := decide_eq_true (by omega)
      have HR : Hid (r = false) := by
        show _ = _; rw [HFT.out]
        have : (q == 0) = false := by simp; omega
        rw [this]; simp
      go_wp2_with fail
      go_ret
      exact ⟨by rw [HR.out]; rfl, T1⟩
    obtain rfl : q = 0 := by omega
    have HX := Lib.hid (HI.out w1 T1)
    clear HK HI
    go_wp2_with fail
    refine HX.out.mono ?_
    rintro e w2 ⟨rfl, t2⟩
    have T2 := T1.trans t2
    obtain ⟨d0, d1, d2, d3, dlt⟩ := HB.out _ (t1.trans t2)
    cases B
    · have HR : Hid (r = false) := by show _ = _; rw [HFT.out]; simp
      clear HX
      go_wp2_with fail
      go_ret
      exact ⟨by rw [HR.out]; rfl, T2⟩
    have HY := Lib.hid (HW.out w2 T2)
    have HR : Hid (r = decide (m ≤ 1024)) := by show _ = _; rw [HFT.out]; simp
    clear HX HW c0 c1 c2 c3 clt
    go_wp2_with fail
    refine HY.out.mono ?_
    rintro e w3 ⟨rfl, t3⟩
    have T3 := T2.trans t3
    clear HY
    go_wp2_with fail
    go_ret
    refine ⟨?_, T3⟩
    rw [HR.out]
    simp
    omega
  · have hft := fits_leaf v hlf
    rw [← hil] at hft
    have HFT := Lib.hid hft
    rw [hlf] at HW HB T0 hsm HFT
    generalize (ndb true v.es).length = m at HW HFT hsm
    generalize (vOk v.vals && v.vals.length == v.keys.length) = B at HV HFT
    generalize kOk none v.keys = K at HK HFT
    generalize v.fits = r at HFT ⊢
    obtain ⟨W1, hW1⟩ : ∃ W1, W1 = w.alloc (.cells #[.bool true, .slice v.ka v.kn v.kc, .slice v.va v.vn v.vc, .slice v.ia v.im v.ic] 25) := ⟨_, rfl⟩
    generalize hlen : v.im = q at *
    rw [← hW1] at HB T0
    clear hft h ho hcp hkl hvl hil hlf HI
    go_enter Try.func26, Try.ntmps26
    go_wp2_with fail
    rw [← hW1]
    refine (HK.out _ T0).mono ?_
    rintro e w1 ⟨rfl, t1⟩
    obtain ⟨c0, c1, c2, c3, clt⟩ := HB.out _ t1
    have T1 := T0.trans t1
    cases K
    · have HR : Hid (r = false) := by show _ = _; rw [HFT.out]; simp
      go_wp2_with fail
      go_ret
      exact ⟨by rw [HR.out]; rfl, T1⟩
    by_cases hq : 0 < q
    · have hd : decide (0 < q) = true := decide_eq_true hq
      have hdi : decide ((0 : Int) < (q : Int)) = true := decide_eq_true (by omega)
      have HR : Hid (r = false) := by
        show _ = _; rw [HFT.out]
        have : (q == 0) = false := by simp; omega
        rw [this]; simp
      go_wp2_with fail
      go_ret
      exact ⟨by rw [HR.out]; rfl, T1⟩
    obtain rfl : q = 0 := by omega
    have HX := Lib.hid (HV.out w1 T1)
    clear HK HV
    go_wp2_with fail
    refine HX.out.mono ?_
    rintro e w2 ⟨rfl, t2⟩
    have T2 := T1.trans t2
    obtain ⟨d0, d1, d2, d3, dlt⟩ := HB.out _ (t1.trans t2)
    cases B
    · have HR : Hid (r = false) := by show _ = _; rw [HFT.out]; simp
      clear HX
      go_wp2_with fail
      go_ret
      exact ⟨by rw [HR.out]; rfl, T2⟩
    have HY := Lib.hid (HW.out w2 T2)
    have HR : Hid (r = decide (m ≤ 1024)) := by show _ = _; rw [HFT.out]; simp
    clear HX HW c0 c1 c2 c3 clt
    go_wp2_with fail
    refine HY.out.mono ?_
    rintro e w3 ⟨rfl, t3⟩
    have T3 := T2.trans t3
    clear HY
    go_wp2_with fail
    go_ret
    refine ⟨?_, T3⟩
    rw [HR.out]
    simp
    omega
end Go.Proofs.Ytlgfdfpafmopdaa
