/-
  The law NodePlaces, walked: it answers true and turns nothing that was there, if package node answers as the document has it. Condition: the list and its texts are of fewer than 10^7 parts.
-/
import Derived.Test.YtlgfdfpafmopdaaNB
namespace Go.Proofs.Ytlgfdfpafmopdaa
open Go.RowKit
set_option linter.unusedVariables false

/-- What holds at the head of each round. -/
def PlcRel (w : World) (keys : List ByteArray) (v5 : Value) (wr : World) : Prop :=
  ∃ k : Nat, 1 ≤ k ∧ (k ≤ keys.length ∨ k = 1) ∧ v5 = .int .i64 k ∧ (∀ (i : Nat) a b, i + 1 < k → keys[i]? = some a → keys[i + 1]? = some b → slt a b = true) ∧ Tch [] w wr

set_option maxRecDepth 100000 in
set_option maxHeartbeats 1000000 in
theorem nplaces_walk (HE : EncSpec) (HP : PlaSpec) (ka : Option Addr) (kn kc kb ko : Nat) (keys : List ByteArray) (key : ByteArray) (w : World) (h : IsR fStr 1 w ka kn kb ko keys) (hc : kn ≤ kc ∧ kc ≤ maxLen ∧ (ka = none → kn = 0 ∧ kc = 0)) (hl : (keys.map ByteArray.size).sum + keys.length ≤ 10000000) (hk : key.size ≤ 10000000) :
    Calls Try.prog 5 #[.slice ka kn kc, .string key] w fun e w' => e = .returned (.bool true) ∧ Tch [] w w' := by
  obtain rfl := h.hlen
  have HKK := Lib.hid (nwakes_any HE HP)
  have HR : Hid (∀ wr, Tch [] w wr → IsR fStr 1 wr ka keys.length kb ko keys) := fun wr t => h.keep0 t
  obtain ⟨v, hv⟩ : ∃ v : Nv, v = ⟨true, ka, keys.length, kc, none, 0, 0, none, 0, 0, kb, ko, 0, 0, 0, 0, keys, [], []⟩ := ⟨_, rfl⟩
  have hok : v.Ok := by
    subst hv
    refine ⟨?_, by simp, by simp, ?_, fun x hx => (by simp at hx), fun x hx => (by simp at hx), ?_⟩
    · show keys.length ≤ _; omega
    · intro x hx; have := sum_mem keys x hx; omega
    · show (keys.map ByteArray.size).sum + (([] : List ByteArray).map ByteArray.size).sum ≤ _; simp; omega
  have hcaps : v.caps := by subst hv; exact ⟨hc, ⟨by simp, by unfold maxLen; simp, fun _ => ⟨rfl, rfl⟩⟩, ⟨by simp, by unfold maxLen; simp, fun _ => ⟨rfl, rfl⟩⟩⟩
  have HPL : Hid (Rise keys → ∀ w', Tch [] w w' → Calls Try.prog 22 #[.agg #[.bool true, .slice ka keys.length kc, .slice none 0 0, .slice none 0 0], .string key] w' fun e w'' => e = .returned (.tuple #[.int .i64 (plcN v.es key : Nat), .bool (hitN v.es key)]) ∧ Tch [] w' w'') := fun hr w' t => by
    have := HP v key w' (by subst hv; exact ⟨h.keep0 t, IsR.nil _ _ _ _, IsR.nil _ _ _ _⟩) hok hcaps hk (by subst hv; exact hr)
    subst hv
    exact this
  have HRF : Hid (∀ w', Tch [] w w' → Calls Try.prog 12 #[.agg #[.bool true, .slice ka keys.length kc, .slice none 0 0, .slice none 0 0]] w' (OfPost w' true v.es)) := fun w' t => by
    have := nref_any v w' (by subst hv; exact ⟨h.keep0 t, IsR.nil _ _ _ _, IsR.nil _ _ _ _⟩) hok
    subst hv
    exact this
  have HRP : Hid (∀ w' x c b, IsR fEn 3 w' x v.es.length b 0 v.es → _) := fun w' x c b hx => rplace_any true x v.es.length c b 0 v.es key w' hx (by rw [Nv.es_len]; have := hok.lk; omega)
  have hkl : keys.length ≤ 10000000 := by omega
  generalize v.es = es at HPL HRF HRP
  clear h hok hcaps hv hl hk hc
  go_enter Try.func5, Try.ntmps5
  go_wp2_with fail
  go_loopw [5] (fun v5 wr => PlcRel w keys v5 wr) (fun v5 _ => keys.length - (intOf v5).toNat)
  case atStart => exact ⟨1, by omega, Or.inr rfl, rfl, fun i a b hi => by omega, Tch.refl _ _⟩
  case round =>
    obtain ⟨k, hk1, hkk, rfl, hri, T⟩ := hrel
    by_cases hlt : k < keys.length
    · have hg0 : keys[k - 1]? = some (keys[k - 1]'(by omega)) := List.getElem?_eq_getElem (by omega)
      have hg1 := List.getElem?_eq_getElem hlt
      have hr := HR.out wr T
      have x0 : wr.cell? ⟨kb, ko + (k - 1), none⟩ = some (.string (keys[k - 1]'(by omega))) := hr.one hg0 rfl
      have x1 : wr.cell? ⟨kb, ko + k, none⟩ = some (.string keys[k]) := hr.one hg1 rfl
      have ha := hr.some_ (by omega)
      subst ha
      generalize keys[k - 1]'(by omega) = a0 at x0 hg0
      generalize keys[k] = a1 at x1 hg1
      have hw : IntKind.i64.wrap ((k : Int) - 1) = (k : Int) - 1 := IntWalk.i64_in _ (by omega)
      have hI0 : 0 ≤ (k : Int) - 1 := by omega
      have hI1 : 1 ≤ (k : Int) := by omega
      have hI2 : (k : Int) - 1 < (keys.length : Int) := by omega
      have hI3 : (k : Int) < (keys.length : Int) := by omega
      have htn : ((k : Int) - 1).toNat = k - 1 := by omega
      clear hr
      by_cases hs : Go.Op.bytesLess a0.toList a1.toList = true
      · have HRI : Hid (∀ (i : Nat) a b, i + 1 < k + 1 → keys[i]? = some a → keys[i + 1]? = some b → slt a b = true) := fun i a b hi h1 h2 => by
          by_cases hik : i + 1 < k
          · exact hri i a b hik h1 h2
          · obtain rfl : i = k - 1 := by omega
            rw [hg0] at h1
            rw [show k - 1 + 1 = k from by omega, hg1] at h2
            cases h1; cases h2
            exact hs
        clear hri hg0 hg1
        go_wp2_with fail
        go_quiet (fail)
        go_wp2
        go_roundw
        case rel => exact ⟨k + 1, by omega, Or.inl (by omega), by go_num, HRI.out, tdrewN T _⟩
        case measure => simp [intOf]; omega
      · have hs : Go.Op.bytesLess a0.toList a1.toList = false := by simpa using hs
        clear hri hg0 hg1
        go_wp2_with fail
        go_quiet (fail)
        go_wp2_with fail
        refine (HKK.out _).mono ?_
        rintro e w4 ⟨rfl, t4⟩
        go_wp2_with fail
        go_ret
        exact ⟨rfl, (tdrewN T _).trans t4⟩
    · have hrise : Rise keys := fun i a b h1 h2 => hri i a b (by have := (List.getElem?_eq_some_iff.1 h2).1; omega) h1 h2
      have HPP := Lib.hid (HPL.out hrise)
      have tX : Tch [] wr (wr.alloc (.cells #[.bool true, .slice ka keys.length kc, .slice none 0 0, .slice none 0 0] 25)) := (Tch.refl _ _).alloc _
      have hX := blk_new wr (.cells #[.bool true, .slice ka keys.length kc, .slice none 0 0, .slice none 0 0] 25)
      have TX := T.trans tX
      clear hri hrise HPL
      go_wp2_with fail
      generalize wr.alloc (.cells #[.bool true, .slice ka keys.length kc, .slice none 0 0, .slice none 0 0] 25) = W1 at tX hX TX ⊢
      generalize wr.heap.size = X at hX ⊢
      refine (HPP.out _ TX).mono ?_
      rintro e w2 ⟨rfl, t2⟩
      have hX2 := t2.keep hX (by simp)
      have T2 := TX.trans t2
      have c0 := blk_cell hX2 0
      have c1 := blk_cell hX2 1
      have c2 := blk_cell hX2 2
      have c3 := blk_cell hX2 3
      simp only [List.getElem?_toArray, List.getElem?_cons_zero, List.getElem?_cons_succ] at c0 c1 c2 c3
      clear hX hX2
      go_wp2_with fail
      refine (HRF.out _ T2).mono ?_
      rintro e w3 ⟨x, c, b, rfl, hx, _, _, t3⟩
      have HR3 := Lib.hid (HRP.out w3 x c b hx)
      clear hx c0 c1 c2 c3
      go_wp2_with fail
      refine HR3.out.mono ?_
      rintro e w4 ⟨rfl, t4⟩
      go_wp2_with fail
      refine (HKK.out _).mono ?_
      rintro e w5 ⟨rfl, t5⟩
      go_wp2_with fail
      go_ret
      refine ⟨?_, ((T2.trans t3).trans t4).trans t5⟩
      rfl
end Go.Proofs.Ytlgfdfpafmopdaa
