/-
  'fit' of the law over nodes. Conditions: lists and texts of fewer than 10^8 parts.
-/
import Derived.Test.YtlgfdfpafmopdaaNl
namespace Go.Proofs.Ytlgfdfpafmopdaa
open Go.RowKit
set_option linter.unusedVariables false

def Nv.fits (v : Nv) : Bool := v.lens && fitN v.leaf v.es

set_option maxRecDepth 100000 in
set_option maxHeartbeats 1000000 in
theorem nfit_any (v : Nv) (w : World) (h : IsNv w v) (ho : v.Ok) :
    Calls Try.prog 15 #[.agg #[.bool v.leaf, .slice v.ka v.kn v.kc, .slice v.va v.vn v.vc, .slice v.ia v.im v.ic]] w fun e w' => e = .returned (.bool v.fits) ∧ Tch [] w w' := by
  have T0 : Tch [] w (w.alloc (.cells #[.bool v.leaf, .slice v.ka v.kn v.kc, .slice v.va v.vn v.vc, .slice v.ia v.im v.ic] 25)) := (Tch.refl _ _).alloc _
  have HC := Lib.hid (nref_any v _ (h.keep0 T0) ho)
  have hkl := h.rk.hlen
  have hvl := h.rv.hlen
  have hil := h.ri.hlen
  have HFI : Hid (∀ w2 x c b, IsR fEn 3 w2 x v.es.length b 0 v.es → Calls Try.prog 35 #[.agg #[.bool v.leaf, .slice x v.es.length c]] w2 fun e w' => e = .returned (.bool (fitN v.leaf v.es)) ∧ Tch [] w2 w') := fun w2 x c b hx =>
    rfit_any v.leaf x v.es.length c b 0 v.es w2 hx (Nv.fine ho) (by rw [Nv.es_len]; have := ho.lk; omega) (ndb_small (Nv.fine ho) (by rw [Nv.es_len]; exact ho.lk))
  have HFT : Hid (v.fits = ((if v.leaf then v.vn == v.kn && v.im == 0 else v.im == v.kn && v.vn == 0) && fitN v.leaf v.es)) := by
    show _ = _
    unfold Nv.fits Nv.lens
    rw [hkl, hvl, hil]
  generalize v.fits = r at HFT ⊢
  generalize v.es = es at HC HFI HFT
  generalize fitN v.leaf es = ft at HFI HFT
  generalize v.leaf = leaf at HC T0 HFI HFT ⊢
  generalize v.ka = ka at HC T0 ⊢
  generalize v.kn = kn at HC T0 HFT ⊢
  generalize v.kc = kc at HC T0 ⊢
  generalize v.va = va at HC T0 ⊢
  generalize v.vn = vn at HC T0 HFT ⊢
  generalize v.vc = vc at HC T0 ⊢
  generalize v.ia = ia at HC T0 ⊢
  generalize v.im = im at HC T0 HFT ⊢
  generalize v.ic = ic at HC T0 ⊢
  clear h ho hkl hvl hil
  cases leaf
  · by_cases h1 : im = kn
    · subst h1
      have n1 : (((im : Nat) : Int) != ((im : Nat) : Int)) = false := by simp
      by_cases h2 : vn = 0
      · subst h2
        have HR : Hid (r = ft) := by show _ = _; rw [HFT.out]; simp
        clear HFT
        go_enter Try.func15, Try.ntmps15
        go_wp2_with fail
        refine HC.out.mono ?_
        rintro e w2 ⟨x, c, b, rfl, hx, hb, hcap, t2⟩
        have HF := Lib.hid (HFI.out w2 x c b hx)
        clear hx hb hcap
        go_wp2_with fail
        refine HF.out.mono ?_
        rintro e w3 ⟨rfl, t3⟩
        go_wp2_with fail
        go_ret
        refine ⟨?_, (T0.trans t2).trans t3⟩
        rw [HR.out]
        rfl
      · have n2 : ((vn : Nat) != 0) = true := by simpa using h2
        have n3 : (((vn : Nat) : Int) != 0) = true := by simpa using h2
        have HR : Hid (r = false) := by show _ = _; rw [HFT.out]; simp [h2]
        clear HFT h2
        go_enter Try.func15, Try.ntmps15
        go_wp2_with fail
        go_ret
        refine ⟨?_, T0⟩
        rw [HR.out]
        rfl
    · have n1 : (im != kn) = true := by simpa using h1
      have n2 : (((im : Nat) : Int) != ((kn : Nat) : Int)) = true := by simp; omega
      have HR : Hid (r = false) := by show _ = _; rw [HFT.out]; simp [h1]
      clear HFT h1
      go_enter Try.func15, Try.ntmps15
      go_wp2_with fail
      go_ret
      refine ⟨?_, T0⟩
      rw [HR.out]
      rfl
  · by_cases h1 : vn = kn
    · subst h1
      have n1 : (((vn : Nat) : Int) != ((vn : Nat) : Int)) = false := by simp
      by_cases h2 : im = 0
      · subst h2
        have HR : Hid (r = ft) := by show _ = _; rw [HFT.out]; simp
        clear HFT
        go_enter Try.func15, Try.ntmps15
        go_wp2_with fail
        refine HC.out.mono ?_
        rintro e w2 ⟨x, c, b, rfl, hx, hb, hcap, t2⟩
        have HF := Lib.hid (HFI.out w2 x c b hx)
        clear hx hb hcap
        go_wp2_with fail
        refine HF.out.mono ?_
        rintro e w3 ⟨rfl, t3⟩
        go_wp2_with fail
        go_ret
        refine ⟨?_, (T0.trans t2).trans t3⟩
        rw [HR.out]
        rfl
      · have n2 : ((im : Nat) != 0) = true := by simpa using h2
        have n3 : (((im : Nat) : Int) != 0) = true := by simpa using h2
        have HR : Hid (r = false) := by show _ = _; rw [HFT.out]; simp [h2]
        clear HFT h2
        go_enter Try.func15, Try.ntmps15
        go_wp2_with fail
        go_ret
        refine ⟨?_, T0⟩
        rw [HR.out]
        rfl
    · have n1 : (vn != kn) = true := by simpa using h1
      have n2 : (((vn : Nat) : Int) != ((kn : Nat) : Int)) = true := by simp; omega
      have HR : Hid (r = false) := by show _ = _; rw [HFT.out]; simp [h1]
      clear HFT h1
      go_enter Try.func15, Try.ntmps15
      go_wp2_with fail
      go_ret
      refine ⟨?_, T0⟩
      rw [HR.out]
      rfl
end Go.Proofs.Ytlgfdfpafmopdaa
