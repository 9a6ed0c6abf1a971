/-
  The arithmetic of halves: a fit leaf with one entry more, behind its last key, is cut in two parts that are fit and heavy.
-/
import Derived.Test.YtlgfdfpafmopdaaNU
namespace Go.Proofs.Ytlgfdfpafmopdaa
open Go.RowKit
set_option linter.unusedVariables false

theorem cut_facts (leaf : Bool) (es : List En) (W last : Nat) (hlast : last + 1 < es.length) : ∀ (d k : Nat), last - k = d → k ≤ last → 2 * wsum leaf es k < W →
    ∃ r : Nat, cutE leaf W last k (wsum leaf es k) (es.drop k) = r ∧ 1 ≤ r ∧ r ≤ last + 1 ∧ (W ≤ 2 * wsum leaf es r ∨ r = last + 1) ∧ 2 * wsum leaf es (r - 1) < W := by
  intro d
  induction d with
  | zero =>
    intro k hd hk hw
    have hk2 : k < es.length := by omega
    have hget := List.getElem?_eq_getElem hk2
    rw [cut_step _ _ _ _ _ _ _ hget, ← wsum_step _ _ _ _ hget, if_pos (Or.inr (by omega))]
    exact ⟨k + 1, rfl, by omega, by omega, Or.inr (by omega), by simpa using hw⟩
  | succ d ih =>
    intro k hd hk hw
    have hk2 : k < es.length := by omega
    have hget := List.getElem?_eq_getElem hk2
    rw [cut_step _ _ _ _ _ _ _ hget, ← wsum_step _ _ _ _ hget]
    by_cases h : W ≤ 2 * wsum leaf es (k + 1) ∨ k = last
    · rw [if_pos h]
      exact ⟨k + 1, rfl, by omega, by omega, by omega, by simpa using hw⟩
    · rw [if_neg h]
      exact ih (k + 1) (by omega) (by omega) (by omega)

theorem fit_app (leaf : Bool) : ∀ (xs : List En) (prev : Option ByteArray) (bs : List En), fitFrom leaf prev (xs ++ bs) = (fitFrom leaf prev xs && fitFrom leaf ((xs.getLast?.map En.key).or prev) bs)
  | [], prev, bs => by cases prev <;> simp [fitFrom]
  | a :: xs, prev, bs => by
    have hc : ∀ (p : Option ByteArray) (l : List En), fitFrom leaf p (a :: l) = (fitE leaf a && (match p with | none => true | some p => !sle a.key p) && fitFrom leaf (some a.key) l) := fun p l => by cases p <;> rfl
    rw [List.cons_append, hc, hc, fit_app leaf xs, List.getLast?_cons]
    have : (xs.getLast?.map En.key).or (some a.key) = ((some (xs.getLast?.getD a)).map En.key).or prev := by cases xs.getLast? <;> rfl
    rw [this]; simp only [Bool.and_assoc]
theorem fit_weak {leaf : Bool} {p : Option ByteArray} {bs : List En} (h : fitFrom leaf p bs = true) : fitFrom leaf none bs = true := by
  cases bs with
  | nil => rfl
  | cons b bs =>
    have hc : ∀ (p : Option ByteArray), fitFrom leaf p (b :: bs) = (fitE leaf b && (match p with | none => true | some p => !sle b.key p) && fitFrom leaf (some b.key) bs) := fun p => by cases p <;> rfl
    rw [hc] at h ⊢
    simp only [Bool.and_eq_true] at h ⊢
    exact ⟨⟨h.1.1, trivial⟩, h.2⟩
theorem fit_all (leaf : Bool) : ∀ (es : List En) prev, fitFrom leaf prev es = true → ∀ e ∈ es, fitE leaf e = true
  | [], _, _, e, he => by simp at he
  | a :: xs, prev, h, e, he => by
    rw [show fitFrom leaf prev (a :: xs) = (fitE leaf a && (match prev with | none => true | some p => !sle a.key p) && fitFrom leaf (some a.key) xs) from by cases prev <;> rfl] at h
    simp only [Bool.and_eq_true] at h
    rcases List.mem_cons.1 he with rfl | h2
    · exact h.1.1
    · exact fit_all leaf xs _ h.2 e h2
theorem enb_short {e : En} (h : fitE true e = true) : (enb true e).length ≤ 251 := by
  unfold fitE at h
  simp only [Bool.and_eq_true, decide_eq_true_eq, if_true] at h
  obtain ⟨⟨h1, h2⟩, h3⟩ := h
  have a1 := ub_len1 (n := e.key.size) (by omega)
  have a2 : (ub e.val.size).length ≤ 2 := by
    rcases Nat.lt_or_ge 127 e.val.size with h | h
    · rw [ub_len2 h (by omega)]; omega
    · rw [ub_len1 h]; omega
  have s1 : e.key.data.toList.length = e.key.size := by simp
  have s2 : e.val.data.toList.length = e.val.size := by simp
  unfold enb tx
  rw [if_pos rfl]
  simp only [List.length_append]
  omega
theorem ndb_len (leaf : Bool) (es : List En) : (ndb leaf es).length = 1 + ((ub es.length).length + (es.flatMap (enb leaf)).length) := by unfold ndb; rw [List.length_cons, List.length_append]; omega
theorem ub_le2 {n : Nat} (h : n < 16384) : 1 ≤ (ub n).length ∧ (ub n).length ≤ 2 := by
  rcases Nat.lt_or_ge 127 n with h' | h'
  · rw [ub_len2 h' h]; omega
  · rw [ub_len1 h']; omega

/-- What the law asks of the parts. -/
theorem halves (es : List En) (e : En) (hfit : fitN true es = true) (he : fitE true e = true) (hlast : ∀ a, es.getLast? = some a → sle e.key a.key = false) :
    (∀ p ∈ splitN true (es ++ [e]), fitN true p = true) ∧ ((splitN true (es ++ [e])).length = 1 ∨ ∀ p ∈ splitN true (es ++ [e]), 250 ≤ (ndb true p).length) := by
  unfold fitN at hfit
  simp only [Bool.and_eq_true, decide_eq_true_eq] at hfit
  obtain ⟨⟨hf, hw⟩, _⟩ := hfit
  have hff : fitFrom true none (es ++ [e]) = true := by
    rw [fit_app, hf, Bool.true_and]
    cases hg : es.getLast? with
    | none => simp [fitFrom, he]
    | some a => simp [fitFrom, he, hlast a hg]
  have hall : ∀ a ∈ es ++ [e], (enb true a).length ≤ 251 := fun a ha => enb_short (fit_all true _ _ hff a ha)
  have hfl : ((es ++ [e]).flatMap (enb true)).length = (es.flatMap (enb true)).length + (enb true e).length := by rw [List.flatMap_append, List.length_append]; simp
  have he2 := enb_short he
  have hn1 := ndb_len true es
  have hp1 := flat_pos true es
  have hn2 := ndb_len true (es ++ [e])
  have hp2 := flat_pos true (es ++ [e])
  have hu2 := ub_le2 (n := (es ++ [e]).length) (by omega)
  have hu1 := ub_le2 (n := es.length) (by omega)
  generalize hes : es ++ [e] = L at *
  by_cases hs : (ndb true L).length ≤ 1024 ∨ L.length < 2
  · have h1 : (ndb true L).length ≤ 1024 := by
      rcases hs with h | h
      · exact h
      · have : es.length = 0 := by have : L.length = es.length + 1 := by rw [← hes]; simp
                                   omega
        have : es = [] := List.eq_nil_of_length_eq_zero this
        subst this
        have h0 : (([] : List En).flatMap (enb true)).length = 0 := rfl
        have h9 : (ub ([] : List En).length).length ≤ 2 := hu1.2
        omega
    unfold splitN
    rw [if_pos hs]
    refine ⟨fun p hp => ?_, Or.inl rfl⟩
    rw [List.mem_singleton] at hp
    subst hp
    unfold fitN
    simp [hff, h1]
  · have hL : 2 ≤ L.length := by omega
    have hW : 1022 ≤ (L.flatMap (enb true)).length := by omega
    have hz : wsum true L 0 = 0 := by unfold wsum; simp
    obtain ⟨r, hr, r1, r2, r3, r4⟩ := cut_facts true L (L.flatMap (enb true)).length (L.length - 2) (by omega) _ 0 rfl (by omega) (by rw [hz]; omega)
    rw [hz, List.drop_zero] at hr
    have hcut : cutN true L = r := hr
    have hrl : r - 1 < L.length := by omega
    have hget := List.getElem?_eq_getElem hrl
    have hst := wsum_step true L (r - 1) _ hget
    have hm := hall _ (List.getElem_mem hrl)
    rw [show r - 1 + 1 = r from by omega] at hst
    have hparts : (L.flatMap (enb true)).length = wsum true L r + ((L.drop r).flatMap (enb true)).length := by
      unfold wsum
      rw [← List.length_append, ← List.flatMap_append, List.take_append_drop]
    have hbig : (L.flatMap (enb true)).length ≤ 2 * wsum true L r := by
      rcases r3 with h | h
      · exact h
      · have hd : L.drop r = [L[r]'(by omega)] := by
          rw [List.drop_eq_getElem_cons (by omega), List.drop_eq_nil_of_le (by omega)]
        have hd1 : ([L[r]'(by omega)].flatMap (enb true)).length = (enb true (L[r]'(by omega))).length := by simp
        rw [hd, hd1] at hparts
        have hm2 := hall _ (List.getElem_mem (show r < L.length from by omega))
        omega
    have hsp : splitN true L = [L.take r, L.drop r] := by unfold splitN; rw [if_neg hs, hcut]
    have htd : L.take r ++ L.drop r = L := List.take_append_drop _ _
    have hft := hff
    rw [← htd, fit_app, Bool.and_eq_true] at hft
    have na := ndb_len true (L.take r)
    have nb := ndb_len true (L.drop r)
    have la : (L.take r).length ≤ r := by rw [List.length_take]; omega
    have lb : (L.drop r).length ≤ L.length := by rw [List.length_drop]; omega
    have ua := ub_le2 (n := (L.take r).length) (by omega)
    have ub' := ub_le2 (n := (L.drop r).length) (by omega)
    have hwr : ((L.take r).flatMap (enb true)).length = wsum true L r := rfl
    rw [hsp]
    refine ⟨fun p hp => ?_, Or.inr fun p hp => ?_⟩
    · rcases List.mem_cons.1 hp with rfl | hp
      · unfold fitN; rw [hft.1]; simp only [Bool.true_and, Bool.true_or, Bool.and_true, decide_eq_true_eq]; omega
      · rw [List.mem_singleton] at hp; subst hp
        unfold fitN; rw [fit_weak hft.2]; simp only [Bool.true_and, Bool.true_or, Bool.and_true, decide_eq_true_eq]; omega
    · rcases List.mem_cons.1 hp with rfl | hp
      · omega
      · rw [List.mem_singleton] at hp; subst hp; omega
end Go.Proofs.Ytlgfdfpafmopdaa
