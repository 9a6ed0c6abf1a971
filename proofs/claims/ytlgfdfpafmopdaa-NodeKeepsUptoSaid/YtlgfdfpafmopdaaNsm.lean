/-
  'middle' of package node: where a node is cut. Conditions: the node's lists and texts are short (Nv.Ok), and it has two entries at least.
-/
import Derived.Test.YtlgfdfpafmopdaaNpb
namespace Go.Proofs.Ytlgfdfpafmopdaa
open Go.RowKit
set_option linter.unusedVariables false

set_option maxRecDepth 100000 in
set_option maxHeartbeats 1000000 in
theorem nmiddle_any (v : Nv) (w : World) (h : IsNv w v) (ho : v.Ok) (h2 : 2 ≤ v.keys.length) :
    Calls Try.prog 37 #[.agg #[.bool v.leaf, .slice v.ka v.kn v.kc, .slice v.va v.vn v.vc, .slice v.ia v.im v.ic]] w fun e w' => e = .returned (.int .i64 (cutN v.leaf v.es : Nat)) ∧ Tch [] w w' := by
  have T0 : Tch [] w (w.alloc (.cells #[.bool v.leaf, .slice v.ka v.kn v.kc, .slice v.va v.vn v.vc, .slice v.ia v.im v.ic] 25)) := (Tch.refl _ _).alloc _
  have HK : Hid (∀ k key w', v.keys[k]? = some key → Tch [] w w' → Calls Try.prog 46 _ w' fun e w2 => e = .returned (.int .i64 ((enb v.leaf (mkE v.leaf v.keys v.vals v.kids k key)).length : Nat)) ∧ Tch [] w' w2) := fun k key w' hk t => nweight_any v k key w' (h.keep0 t) ho hk
  have HW : Hid (∀ w', Tch [] w w' → Calls Try.prog 34 _ w' fun e w2 => e = .returned (.int .i64 ((v.es.flatMap (enb v.leaf)).length : Nat)) ∧ Tch [] w' w2) := fun w' t => nweights_any v w' (h.keep0 t) ho
  have HB : Hid (∀ w', Tch [] (w.alloc (.cells #[.bool v.leaf, .slice v.ka v.kn v.kc, .slice v.va v.vn v.vc, .slice v.ia v.im v.ic] 25)) w' → _) := fun w' t => nvb_cells w v.leaf v.ka v.va v.ia v.kn v.kc v.vn v.vc v.im v.ic t
  have hn : v.kn ≤ 100000000 := by have := h.rk.hlen; have := ho.lk; omega
  have hn2 : 2 ≤ v.kn := by have := h.rk.hlen; omega
  have HLN : Hid (v.kn = v.keys.length) := h.rk.hlen
  have HLE : Hid (∀ k, wsum v.leaf v.es k ≤ 1000000000000000000) := fun k => by
    have h1 := wsum_le v.leaf v.es k
    have h2 := flat_fine (leaf := v.leaf) (Nv.fine ho)
    have h3 := v.es_len
    have h4 := ho.lk
    have h5 : v.es.length * 2000000020 ≤ 100000000 * 2000000020 := Nat.mul_le_mul_right _ (by omega)
    omega
  have hWb : (v.es.flatMap (enb v.leaf)).length ≤ 1000000000000000000 := by
    have := HLE.out v.es.length
    rw [wsum_all] at this
    exact this
  have H0 : Hid (wsum v.leaf v.es 0 = 0) := by show _ = _; simp [wsum]
  have HST : Hid (∀ k key, v.keys[k]? = some key → wsum v.leaf v.es (k + 1) = wsum v.leaf v.es k + (enb v.leaf (mkE v.leaf v.keys v.vals v.kids k key)).length) := fun k key hk => wsum_step _ _ _ _ (es_get v k key hk)
  have HCS : Hid (∀ k key, v.keys[k]? = some key → cutE v.leaf (v.es.flatMap (enb v.leaf)).length (v.kn - 2) k (wsum v.leaf v.es k) (v.es.drop k) = if (v.es.flatMap (enb v.leaf)).length ≤ 2 * wsum v.leaf v.es (k + 1) ∨ k = v.kn - 2 then k + 1 else cutE v.leaf (v.es.flatMap (enb v.leaf)).length (v.kn - 2) (k + 1) (wsum v.leaf v.es (k + 1)) (v.es.drop (k + 1))) := fun k key hk => by
    rw [cut_step _ _ _ _ _ _ _ (es_get v k key hk), HST.out k key hk]
  have HC0 : Hid (cutN v.leaf v.es = cutE v.leaf (v.es.flatMap (enb v.leaf)).length (v.kn - 2) 0 (wsum v.leaf v.es 0) (v.es.drop 0)) := by
    show _ = _
    rw [H0.out, List.drop_zero, HLN.out, ← v.es_len]
    rfl
  generalize hcn : cutN v.leaf v.es = r at HC0 ⊢
  obtain ⟨C, hC⟩ : ∃ C : Nat → Nat, C = fun k => cutE v.leaf (v.es.flatMap (enb v.leaf)).length (v.kn - 2) k (wsum v.leaf v.es k) (v.es.drop k) := ⟨_, rfl⟩
  have HC0' : Hid (r = C 0) := by show _ = _; rw [hC]; exact HC0.out
  have HCS' : Hid (∀ k key, v.keys[k]? = some key → C k = if (v.es.flatMap (enb v.leaf)).length ≤ 2 * wsum v.leaf v.es (k + 1) ∨ k = v.kn - 2 then k + 1 else C (k + 1)) := fun k key hk => by
    rw [hC]; exact HCS.out k key hk
  clear hC HC0 HCS hcn
  generalize wsum v.leaf v.es = ws at *
  generalize (v.es.flatMap (enb v.leaf)).length = WW at *
  generalize v.leaf = leaf at *
  generalize hkn2 : v.kn = kn at *
  clear ho h h2
  obtain ⟨W1, hW1⟩ : ∃ W1, W1 = w.alloc (.cells #[.bool leaf, .slice v.ka kn v.kc, .slice v.va v.vn v.vc, .slice v.ia v.im v.ic] 25) := ⟨_, rfl⟩
  rw [← hW1] at HB T0
  have HC1 := Lib.hid (HW.out _ T0)
  go_enter Try.func37, Try.ntmps37
  go_wp2_with fail
  rw [← hW1]
  clear hW1
  refine HC1.out.mono ?_
  rintro e w2 ⟨rfl, t2⟩
  clear HC1 HW
  go_wp2_with fail
  go_loopw [5, 14] (fun v5 v14 wr => ∃ k : Nat, k ≤ kn - 1 ∧ v14 = .int .i64 k ∧ v5 = .int .i64 (ws k : Nat) ∧ (k < kn - 1 → r = C k) ∧ (k = kn - 1 → r = kn - 1) ∧ Tch [] W1 wr) (fun _ v14 _ => kn - (intOf v14).toNat)
  case atStart => exact ⟨0, by omega, rfl, by rw [H0.out]; rfl, fun _ => HC0'.out, fun h => by omega, t2⟩
  case round =>
    obtain ⟨k, hk, rfl, rfl, hr1, hr2, T⟩ := hrel
    obtain ⟨c0, c1, c2, c3, clt⟩ := HB.out _ T
    have HLAST : Hid ((kn : Int) - 1 = ((kn - 1 : Nat) : Int)) := by show _ = _; omega
    by_cases hkl : k < kn - 1
    · have hkk : k < v.keys.length := by rw [← HLN.out]; omega
      have hget := List.getElem?_eq_getElem hkk
      have HC := Lib.hid (HK.out k _ wr hget (T0.trans T))
      have hst := HST.out k _ hget
      have hcs := HCS'.out k _ hget
      have hle := HLE.out (k + 1)
      generalize (enb leaf (mkE leaf v.keys v.vals v.kids k (v.keys[k]'hkk))).length = m at HC hst
      have HS : Hid ((ws k : Int) + (m : Int) = ((ws (k + 1) : Nat) : Int)) := by show _ = _; omega
      have hb1 : (ws k : Int) + (m : Int) ≤ 1000000000000000000 := by omega
      have hI : (k : Int) < (kn : Int) - 1 := by omega
      have hd : decide ((k : Int) < (kn : Int) - 1) = true := decide_eq_true hI
      rw [← hr1 hkl] at hcs
      by_cases hc : WW ≤ 2 * ws (k + 1)
      · have HR : Hid (r = k + 1) := by show _ = _; rw [hcs, if_pos (Or.inl hc)]
        have hd2 : decide ((WW : Int) ≤ 2 * ((ws k : Int) + (m : Int))) = true := decide_eq_true (by omega)
        clear hget hst hcs hr1 hr2 hc
        go_wp2_with fail
        refine HC.out.mono ?_
        rintro e w3 ⟨rfl, t3⟩
        go_wp2_with fail
        go_ret
        exact ⟨by rw [HR.out]; rfl, T0.trans (T.trans t3)⟩
      · have hd2 : decide ((WW : Int) ≤ 2 * ((ws k : Int) + (m : Int))) = false := decide_eq_false (by omega)
        have HR1 : Hid (k + 1 < kn - 1 → r = C (k + 1)) := fun h => by rw [hcs, if_neg (by omega)]
        have HR2 : Hid (k + 1 = kn - 1 → r = kn - 1) := fun h => by rw [hcs, if_pos (Or.inr (by omega))]; omega
        clear hget hst hcs hr1 hr2 hc
        go_wp2_with fail
        refine HC.out.mono ?_
        rintro e w3 ⟨rfl, t3⟩
        go_wp2_with fail
        go_roundw
        case rel => exact ⟨k + 1, by omega, by go_num, by rw [HS.out], HR1.out, HR2.out, T.trans t3⟩
        case measure => simp [intOf]; omega
    · obtain rfl : k = kn - 1 := by omega
      have HR : Hid (r = kn - 1) := hr2 rfl
      have hd : decide (((kn - 1 : Nat) : Int) < (kn : Int) - 1) = false := decide_eq_false (by omega)
      clear hr1 hr2
      go_wp2_with fail
      go_ret
      exact ⟨by rw [HR.out, ← HLAST.out]; rfl, T0.trans T⟩
end Go.Proofs.Ytlgfdfpafmopdaa
