/-
  Plain laws of a journal's writes: what is read back of the copies, and that bringing the copies to their sectors is writing the changes. Of no program.
-/
import Derived.Test.YtclnhgfionfbbaaGreatDoorJm
namespace Go.Proofs.YtclnhgfionfbbaaGreatDoor
set_option linter.unusedVariables false

theorem wz {D : Ds} {i : Int} {x : ByteArray} (h : D.wcode i x = 0) : D.on = true ∧ 0 ≤ i ∧ i < D.texts.length ∧ x.size ≤ 1024 ∧ D.left ≠ 0 ∧ D.wstate i x = { D with texts := D.texts.set i.toNat x, done := D.done + 1, reach := max D.reach (i + 1), left := tk D.left } := by
  unfold Ds.wcode at h
  by_cases h1 : D.on = false
  · rw [if_pos h1] at h; omega
  rw [if_neg h1] at h
  by_cases h2 : i < 0 ∨ D.texts.length ≤ i
  · rw [if_pos h2] at h; omega
  rw [if_neg h2] at h
  by_cases h3 : 1024 < x.size
  · rw [if_pos h3] at h; omega
  rw [if_neg h3] at h
  by_cases h4 : D.left = 0
  · rw [if_pos h4] at h; omega
  refine ⟨by simpa using h1, by omega, by omega, by omega, h4, ?_⟩
  unfold Ds.wstate
  rw [if_neg h1, if_neg h2, if_neg h3, if_neg h4]
theorem wz_on {D : Ds} {i : Int} {x : ByteArray} (h : D.wcode i x = 0) : (D.wstate i x).on = true := by
  have := wz h
  rw [this.2.2.2.2.2]; exact this.1
theorem wz_get {D : Ds} {i : Int} {x : ByteArray} (h : D.wcode i x = 0) (j : Nat) : (D.wstate i x).texts.getD j ⟨#[]⟩ = if (j : Int) = i then x else D.texts.getD j ⟨#[]⟩ := by
  have h1 := wz h
  rw [h1.2.2.2.2.2]
  simp only [List.getD_eq_getElem?_getD]
  rw [List.getElem?_set]
  by_cases hj : (j : Int) = i
  · rw [if_pos hj, if_pos (by omega), if_pos (by omega)]; rfl
  · rw [if_neg hj, if_neg (by omega)]
theorem rc_in {D : Ds} {i : Nat} (h1 : D.on = true) (h2 : i < D.texts.length) : D.rcode (i : Int) = 0 := by
  unfold Ds.rcode; rw [if_neg (by simp [h1]), if_neg (by omega)]

/-- Bringing the copies to their sectors is writing the changes there. -/
theorem fin_scs (room : Nat) (l : List (Int × ByteArray)) : ∀ (k : Nat) (E : Ds), E.on = true → room + 1 ≤ E.texts.length → k + l.length ≤ room → (∀ j, j < l.length → E.texts.getD (1 + (k + j)) ⟨#[]⟩ = (l.getD j (0, ⟨#[]⟩)).2) →
    fin room k (ats l) E = wrs (scs room l) E := by
  induction l with
  | nil => intro k E _ _ _ _; rfl
  | cons p l ih =>
    intro k E hon hlen hk hc
    have h0 : E.texts.getD (1 + k) ⟨#[]⟩ = p.2 := by have := hc 0 (by simp); simpa using this
    show fin room k (p.1.toNat :: ats l) E = wrs ((((room + 1 + p.1.toNat : Nat) : Int), p.2) :: scs room l) E
    rw [fin, wrs]
    rw [if_neg (by rw [rc_in hon (by simp at hk; omega)]; simp), h0]
    by_cases hw : E.wcode ((room + 1 + p.1.toNat : Nat) : Int) p.2 = 0
    · rw [if_pos hw, if_pos hw]
      refine ih (k + 1) _ (wz_on hw) (by rw [wst_len]; exact hlen) (by simp at hk; omega) (fun j hj => ?_)
      rw [wz_get hw, if_neg (by simp at hk; omega)]
      have := hc (j + 1) (by simp; omega)
      rw [show 1 + (k + 1 + j) = 1 + (k + (j + 1)) from by omega, this]
      rfl
    · rw [if_neg hw, if_neg hw]

/-- Behind the copies' writes: each copy holds its change's bytes; other sectors are as they were. -/
theorem cps_get (l : List (Int × ByteArray)) : ∀ (k : Nat) (D : Ds), (wrs (cps k l) D).1 = 0 → (∀ j, j < l.length → (wrs (cps k l) D).2.texts.getD (1 + (k + j)) ⟨#[]⟩ = (l.getD j (0, ⟨#[]⟩)).2) ∧
    (∀ i, i < 1 + k ∨ 1 + k + l.length ≤ i → (wrs (cps k l) D).2.texts.getD i ⟨#[]⟩ = D.texts.getD i ⟨#[]⟩) ∧ (l ≠ [] → (wrs (cps k l) D).2.on = true) := by
  induction l with
  | nil => intro k D _; exact ⟨fun j hj => by simp at hj, fun i _ => rfl, fun h => absurd rfl h⟩
  | cons p l ih =>
    intro k D h
    rw [cps, wrs] at h ⊢
    by_cases hw : D.wcode ((1 + k : Nat) : Int) p.2 = 0
    · rw [if_pos hw] at h ⊢
      obtain ⟨h1, h2, h3⟩ := ih (k + 1) _ h
      refine ⟨fun j hj => ?_, fun i hi => ?_, fun _ => ?_⟩
      · cases j with
        | zero =>
          rw [h2 (1 + (k + 0)) (by omega), wz_get hw, if_pos (by omega)]
          rfl
        | succ j =>
          have := h1 j (by simp at hj; omega)
          rw [show 1 + (k + (j + 1)) = 1 + (k + 1 + j) from by omega, this]
          rfl
      · simp only [List.length_cons] at hi
        rw [h2 i (by omega), wz_get hw, if_neg (by omega)]
      · by_cases hl : l = []
        · subst hl; exact wz_on hw
        · exact h3 hl
    · rw [if_neg hw] at h
      exact absurd h hw

/-- A commit's writes behind its copies and its head are what finish does. -/
theorem fins_cws (room : Nat) (l : List (Int × ByteArray)) (E : Ds) (hon : E.on = true) (hlen : room + 1 ≤ E.texts.length) (hl : l.length ≤ room) (hc : ∀ j, j < l.length → E.texts.getD (1 + j) ⟨#[]⟩ = (l.getD j (0, ⟨#[]⟩)).2) :
    fins room (ats l) E = wrs (scs room l ++ [(0, hdb [])]) E := by
  unfold fins
  rw [fin_scs room l 0 E hon hlen (by omega) (fun j hj => by rw [Nat.zero_add]; exact hc j hj), wrs_app]
theorem ckc_in (n : Nat) (l : List (Int × ByteArray)) : ∀ met, ckc n l met = 0 → ∀ p ∈ l, 0 ≤ p.1 ∧ p.1 < n ∧ p.2.size ≤ 1024 := by
  induction l with
  | nil => intro met _ p hp; simp at hp
  | cons q l ih =>
    intro met h p hp
    rw [ckc] at h
    by_cases h1 : q.1 < 0 ∨ n ≤ q.1
    · rw [if_pos h1] at h; omega
    rw [if_neg h1] at h
    by_cases h2 : 1024 < q.2.size
    · rw [if_pos h2] at h; omega
    rw [if_neg h2] at h
    by_cases h3 : q.1 ∈ met
    · rw [if_pos h3] at h; omega
    rw [if_neg h3] at h
    rcases List.mem_cons.1 hp with rfl | hp
    · omega
    · exact ih _ h p hp
theorem ckc_nodup (n : Nat) (l : List (Int × ByteArray)) : ∀ met, ckc n l met = 0 → met.Nodup → (met ++ l.map Prod.fst).Nodup := by
  induction l with
  | nil => intro met _ h; simpa using h
  | cons q l ih =>
    intro met h hm
    rw [ckc] at h
    by_cases h1 : q.1 < 0 ∨ n ≤ q.1
    · rw [if_pos h1] at h; omega
    rw [if_neg h1] at h
    by_cases h2 : 1024 < q.2.size
    · rw [if_pos h2] at h; omega
    rw [if_neg h2] at h
    by_cases h3 : q.1 ∈ met
    · rw [if_pos h3] at h; omega
    rw [if_neg h3] at h
    have := ih _ h (by
      rw [List.nodup_append]
      refine ⟨hm, by simp, fun a ha b hb hab => ?_⟩
      simp only [List.mem_singleton] at hb
      subst hb; subst hab
      exact h3 ha)
    simpa using this
end Go.Proofs.YtclnhgfionfbbaaGreatDoor
