/-
  What package node reads of a text, and that it is the document's node: plain mathematics. No condition but that texts are shorter than 10^8 bytes.
-/
import Derived.Test.YtlgfdfpafmopdaaDoorNq
import Derived.Lib.TrimByte
namespace Go.Proofs.YtlgfdfpafmopdaaDoor
set_option linter.unusedVariables false

theorem ndrop_all (l : List UInt8) (h : l.all (· == 0) = true) : l.dropWhile (· == 0) = [] := by
  induction l with
  | nil => rfl
  | cons a l ih =>
    simp only [List.all_cons, Bool.and_eq_true] at h
    rw [List.dropWhile_cons, if_pos h.1, ih h.2]
theorem ndrop_some (l : List UInt8) (h : l.all (· == 0) = false) : (l.dropWhile (· == 0)).all (· == 0) = false := by
  induction l with
  | nil => simp at h
  | cons a l ih =>
    rw [List.dropWhile_cons]
    by_cases ha : (a == 0) = true
    · rw [if_pos ha]
      simp only [List.all_cons, ha, Bool.true_and] at h
      exact ih h
    · rw [if_neg ha]; exact h
theorem ntrim_nil {l : List UInt8} (h : nil0 l = true) : Lib.trimB l 0 = [] := by
  unfold Lib.trimB Lib.trimRightB Lib.trimLeftB
  rw [ndrop_all l.reverse (by unfold nil0 at h; rw [List.all_reverse]; exact h)]
  rfl
theorem ntrim_some {l : List UInt8} (h : nil0 l = false) : Lib.trimB l 0 ≠ [] := by
  unfold Lib.trimB Lib.trimRightB Lib.trimLeftB
  have h1 := ndrop_some l.reverse (by unfold nil0 at h; rw [List.all_reverse]; exact h)
  have h2 := ndrop_some (l.reverse.dropWhile (· == 0)).reverse (by rw [List.all_reverse]; exact h1)
  intro h3
  rw [h3] at h2
  simp at h2
theorem nrdu_cases (L : List UInt8) : (∃ c : Int, c ≠ 0 ∧ rdu L 0 0 = (c, 0, 0)) ∨ ∃ u n : Nat, rdu L 0 0 = (0, u, n) ∧ u < 18446744073709551616 ∧ n ≤ L.length := by
  have key : ∀ (l : List UInt8) (i v : Nat), (∃ c : Int, c ≠ 0 ∧ rdu l i v = (c, 0, 0)) ∨ ∃ u n : Nat, rdu l i v = (0, u, n) := by
    intro l
    induction l with
    | nil =>
      intro i v
      by_cases hi : i = 10
      · subst hi; exact Or.inl ⟨21, by omega, rdu_10 _ _⟩
      · exact Or.inl ⟨20, by omega, rdu_nil _ hi⟩
    | cons b l ih =>
      intro i v
      by_cases hi : i = 10
      · subst hi; exact Or.inl ⟨21, by omega, rdu_10 _ _⟩
      by_cases hb : 128 ≤ b.toNat
      · rw [rdu_more l v hi hb]; exact ih _ _
      · by_cases h0 : b.toNat = 0 ∧ i ≠ 0
        · exact Or.inl ⟨21, by omega, rdu_zero l v hi h0.1 h0.2⟩
        · by_cases h9 : i = 9 ∧ 1 < b.toNat
          · obtain ⟨rfl, h9⟩ := h9
            exact Or.inl ⟨21, by omega, rdu_ten l v (by omega) h9⟩
          · exact Or.inr ⟨_, _, rdu_last l v hi (by omega) h0 h9⟩
  rcases key L 0 0 with h | ⟨u, n, h⟩
  · exact Or.inl h
  · have := rdu_bound L 0 0 0 u n h (by simp) (by omega) rfl
    exact Or.inr ⟨u, n, h, this.1, by omega⟩

/-- An entry out of bytes, as package node reads it: numbers that are no kid's are kept, cut to one that is none. -/
def pde (leaf : Bool) (L : List UInt8) : Option (En × Nat) :=
  if (rtx L).1 ≠ 0 then none
  else if leaf then (if (rtx (L.drop (rtx L).2.2)).1 ≠ 0 then none else some (⟨(rtx L).2.1, (rtx (L.drop (rtx L).2.2)).2.1, 0⟩, (rtx L).2.2 + (rtx (L.drop (rtx L).2.2)).2.2))
  else (if (rdu (L.drop (rtx L).2.2) 0 0).1 ≠ 0 then none else some (⟨(rtx L).2.1, ⟨#[]⟩, ((min (rdu (L.drop (rtx L).2.2) 0 0).2.1 16384 : Nat) : Int)⟩, (rtx L).2.2 + (rdu (L.drop (rtx L).2.2) 0 0).2.2))
def pdes (leaf : Bool) (L : List UInt8) : Nat → Nat → List En → Option (List En × Nat)
  | 0, p, es => some (es, p)
  | c + 1, p, es => match pde leaf (L.drop p) with
    | none => none
    | some (e, n) => pdes leaf L c (p + n) (es ++ [e])
/-- What package node reads of a text. -/
def prd (L : List UInt8) : Option (Bool × List En × Nat) :=
  match L with
  | [] => none
  | b :: M =>
    if b ≠ 1 ∧ b ≠ 2 then none else if (rdu M 0 0).1 ≠ 0 then none else
    match pdes (b == 1) L (rdu M 0 0).2.1 (1 + (rdu M 0 0).2.2) [] with
    | none => none
    | some (es, p) => some (b == 1, es, p)
theorem pde_of_rde {leaf : Bool} {L : List UInt8} {e : En} {n : Nat} (h : rde leaf L = some (e, n)) : pde leaf L = some (e, n) := by
  unfold rde at h
  unfold pde
  by_cases hc : (rtx L).1 ≠ 0
  · rw [if_pos hc] at h; cases h
  · rw [if_neg hc] at h ⊢
    cases leaf
    · simp only [if_false, Bool.false_eq_true] at h ⊢
      by_cases h2 : (rdu (L.drop (rtx L).2.2) 0 0).1 ≠ 0 ∨ 16384 ≤ (rdu (L.drop (rtx L).2.2) 0 0).2.1
      · rw [if_pos h2] at h; cases h
      · rw [if_neg h2] at h
        rw [if_neg (by omega), ← h, show min (rdu (L.drop (rtx L).2.2) 0 0).2.1 16384 = (rdu (L.drop (rtx L).2.2) 0 0).2.1 from by omega]
    · exact h
theorem rde_of_pde {leaf : Bool} {L : List UInt8} {e : En} {n : Nat} (h : pde leaf L = some (e, n)) (hk : leaf = true ∨ e.kid < 16384) : rde leaf L = some (e, n) := by
  unfold pde at h
  unfold rde
  by_cases hc : (rtx L).1 ≠ 0
  · rw [if_pos hc] at h; cases h
  · rw [if_neg hc] at h ⊢
    cases leaf
    · simp only [if_false, Bool.false_eq_true] at h ⊢
      by_cases h2 : (rdu (L.drop (rtx L).2.2) 0 0).1 ≠ 0
      · rw [if_pos h2] at h; cases h
      · rw [if_neg h2] at h
        cases h
        have h3 : (rdu (L.drop (rtx L).2.2) 0 0).2.1 < 16384 := by
          rcases hk with hk | hk
          · cases hk
          · simp only at hk; omega
        rw [if_neg (by omega), show min (rdu (L.drop (rtx L).2.2) 0 0).2.1 16384 = (rdu (L.drop (rtx L).2.2) 0 0).2.1 from by omega]
    · exact h
theorem pdes_of_rdes {leaf : Bool} {L : List UInt8} : ∀ (c p : Nat) (pre : List En) x, rdes leaf L c p pre = some x → pdes leaf L c p pre = some x
  | 0, p, pre, x, h => h
  | c + 1, p, pre, x, h => by
    rw [rdes] at h
    rw [pdes]
    rcases hd : rde leaf (L.drop p) with _ | ⟨e, n⟩
    · rw [hd] at h; cases h
    · rw [hd] at h
      rw [pde_of_rde hd]
      exact pdes_of_rdes c (p + n) (pre ++ [e]) x h
theorem pdes_mem {leaf : Bool} {L : List UInt8} : ∀ (c p : Nat) (pre es : List En) (q : Nat), pdes leaf L c p pre = some (es, q) → ∀ e ∈ pre, e ∈ es
  | 0, p, pre, es, q, h, e, he => by simp only [pdes, Option.some.injEq, Prod.mk.injEq] at h; rw [← h.1]; exact he
  | c + 1, p, pre, es, q, h, e, he => by
    rw [pdes] at h
    rcases hd : pde leaf (L.drop p) with _ | ⟨a, n⟩
    · rw [hd] at h; cases h
    · rw [hd] at h
      exact pdes_mem c (p + n) (pre ++ [a]) es q h e (List.mem_append_left _ he)
theorem rdes_of_pdes {leaf : Bool} {L : List UInt8} : ∀ (c p : Nat) (pre es : List En) (q : Nat), pdes leaf L c p pre = some (es, q) → (∀ e ∈ es, leaf = true ∨ e.kid < 16384) → rdes leaf L c p pre = some (es, q)
  | 0, p, pre, es, q, h, _ => h
  | c + 1, p, pre, es, q, h, hk => by
    rw [pdes] at h
    rw [rdes]
    rcases hd : pde leaf (L.drop p) with _ | ⟨e, n⟩
    · rw [hd] at h; cases h
    · rw [hd] at h
      have hm := pdes_mem c (p + n) (pre ++ [e]) es q h e (by simp)
      rw [rde_of_pde hd (hk e hm)]
      exact rdes_of_pdes c (p + n) (pre ++ [e]) es q h hk
theorem rdes_q {leaf : Bool} {L : List UInt8} : ∀ (c p : Nat) (pre es : List En) (q : Nat), rdes leaf L c p pre = some (es, q) → ∃ tl, es = pre ++ tl ∧ tl.length = c ∧ q = p + (tl.flatMap (enb leaf)).length
  | 0, p, pre, es, q, h => by
    simp only [rdes, Option.some.injEq, Prod.mk.injEq] at h
    exact ⟨[], by rw [← h.1]; simp, rfl, by rw [← h.2]; simp⟩
  | c + 1, p, pre, es, q, h => by
    rw [rdes] at h
    rcases hd : rde leaf (L.drop p) with _ | ⟨e, n⟩
    · rw [hd] at h; cases h
    · rw [hd] at h
      obtain ⟨h1, _, _⟩ := rde_pre hd
      obtain ⟨tl, g1, g2, g3⟩ := rdes_q c (p + n) (pre ++ [e]) es q h
      exact ⟨e :: tl, by rw [g1]; simp, by simp [g2], by rw [g3, List.flatMap_cons, List.length_append]; omega⟩
theorem read_q {b : UInt8} {M : List UInt8} {v m q : Nat} {es : List En} (hr : rdu M 0 0 = (0, v, m)) (hd : rdes (b == 1) (b :: M) v (1 + m) [] = some (es, q)) : q = (ndb (b == 1) es).length := by
  obtain ⟨h1, _⟩ := rdu_pre hr
  obtain ⟨tl, g1, g2, g3⟩ := rdes_q v (1 + m) [] es q hd
  rw [List.nil_append] at g1
  subst g1
  unfold ndb
  simp only [List.length_cons, List.length_append]
  rw [g2]
  omega
/-- What was read of a text begins it. -/
theorem read_pre {b : UInt8} {M : List UInt8} {v m q : Nat} {es : List En} (hb : b = 1 ∨ b = 2) (hr : rdu M 0 0 = (0, v, m)) (hd : rdes (b == 1) (b :: M) v (1 + m) [] = some (es, q)) : (b :: M) = ndb (b == 1) es ++ (b :: M).drop q ∧ (∀ e ∈ es, Norm (b == 1) e) := by
  obtain ⟨h1, h2⟩ := rdu_pre hr
  have hml : m ≤ M.length := by have := rdu_bound M 0 0 0 v m hr (by simp) (by omega) rfl; omega
  obtain ⟨tl, g1, g2, g3, g4⟩ := rdes_pre v (1 + m) [] es q hd (by simp; omega)
  rw [List.nil_append] at g1
  subst g1
  refine ⟨?_, g4⟩
  rw [Nat.add_comm, List.drop_succ_cons] at g3
  have hb1 : b = (if (b == 1) = true then 1 else 2) := by
    rcases hb with rfl | rfl <;> rfl
  unfold ndb
  rw [g2, List.cons_append, ← hb1, List.append_assoc, ← g3]
  congr 1
  exact pre_drop h2 h1
theorem fit_kidN {leaf : Bool} {es : List En} (h : fitN leaf es = true) : ∀ e ∈ es, leaf = true ∨ e.kid < 16384 := by
  intro e he
  unfold fitN at h
  rw [Bool.and_eq_true, Bool.and_eq_true] at h
  have hE : ∀ (es : List En) prev, fitFrom leaf prev es = true → ∀ e ∈ es, fitE leaf e = true := by
    intro es
    induction es with
    | nil => intro prev _ e he; cases he
    | cons a es ih =>
      intro prev hp e he
      rw [show fitFrom leaf prev (a :: es) = (fitE leaf a && (match prev with | none => true | some p => !sle a.key p) && fitFrom leaf (some a.key) es) from by cases prev <;> rfl, Bool.and_eq_true, Bool.and_eq_true] at hp
      rcases List.mem_cons.1 he with rfl | he
      · exact hp.1.1
      · exact ih _ hp.2 e he
  have h1 := hE _ _ h.1.1 e he
  unfold fitE at h1
  cases leaf
  · simp at h1; exact Or.inr h1.2.2
  · exact Or.inl rfl
theorem fit_sizes {leaf : Bool} {es : List En} (h : fitN leaf es = true) : ∀ e ∈ es, e.key.size ≤ 48 ∧ (leaf = true → e.val.size ≤ 200) := by
  intro e he
  unfold fitN at h
  rw [Bool.and_eq_true, Bool.and_eq_true] at h
  have hE : ∀ (es : List En) prev, fitFrom leaf prev es = true → ∀ e ∈ es, fitE leaf e = true := by
    intro es
    induction es with
    | nil => intro prev _ e he; cases he
    | cons a es ih =>
      intro prev hp e he
      rw [show fitFrom leaf prev (a :: es) = (fitE leaf a && (match prev with | none => true | some p => !sle a.key p) && fitFrom leaf (some a.key) es) from by cases prev <;> rfl, Bool.and_eq_true, Bool.and_eq_true] at hp
      rcases List.mem_cons.1 he with rfl | he
      · exact hp.1.1
      · exact ih _ hp.2 e he
  have h1 := hE _ _ h.1.1 e he
  unfold fitE at h1
  cases leaf
  · simp at h1; exact ⟨h1.1.2, fun h => by cases h⟩
  · simp at h1; exact ⟨h1.1.2, fun _ => h1.2⟩
/-- Decode of package node, by plain functions: what is read of the first 1024 bytes, if it is fit and only zero bytes stand behind. -/
def pdec (L : List UInt8) : Option (Bool × List En) :=
  match prd (L.take 1024) with
  | none => none
  | some (leaf, es, q) => if fitN leaf es && nil0 (L.drop q) then some (leaf, es) else none
theorem norm_sizes {leaf : Bool} {es : List En} (h : fitN leaf es = true) (hn : ∀ e ∈ es, Norm leaf e) : ∀ e ∈ es, e.key.size ≤ 1000000000 ∧ e.val.size ≤ 1000000000 ∧ Norm leaf e := fun e he => by
  obtain ⟨h1, h2⟩ := fit_sizes h e he
  refine ⟨by omega, ?_, hn e he⟩
  have h3 := hn e he
  cases leaf
  · have h4 : e.val = ⟨#[]⟩ := h3.1
    rw [h4]
    show (0 : Nat) ≤ _
    omega
  · have := h2 rfl; omega
theorem fit_len {leaf : Bool} {es : List En} (h : fitN leaf es = true) : (ndb leaf es).length ≤ 1024 := by
  unfold fitN at h
  simp at h
  exact h.1.2
theorem es_ndb (leaf : Bool) (es : List En) : es.length < (ndb leaf es).length := by
  have h : es.length ≤ (es.flatMap (enb leaf)).length := by
    induction es with
    | nil => simp
    | cons e es ih =>
      rw [List.flatMap_cons, List.length_append, List.length_cons]
      have h1 : 1 ≤ (enb leaf e).length := by
        unfold enb tx
        have := ub_ne e.key.size
        have : 1 ≤ (ub e.key.size).length := by
          rcases hu : ub e.key.size with _ | ⟨a, l⟩
          · exact absurd hu this
          · simp
        simp only [List.length_append]
        omega
      omega
  unfold ndb
  simp only [List.length_cons, List.length_append]
  omega
/-- It is the document's answer. -/
theorem pdec_ddec (L : List UInt8) : pdec L = ddec L := by
  rcases hp : pdec L with _ | ⟨leaf, es⟩
  · -- nothing is answered: the document has none
    rcases hd : ddec L with _ | ⟨leaf, es⟩
    · rfl
    · exfalso
      obtain ⟨hf, ⟨z, hz⟩, hn⟩ := ddec_pre hd
      have hlen := fit_len hf
      have hes := es_ndb leaf es
      have hns := norm_sizes hf hn
      have hz0 : nil0 z = true := by
        rw [hz, ddec_ndb leaf es z (by omega) hns hf] at hd
        cases h : nil0 z
        · rw [h] at hd; simp at hd
        · rfl
      have ht : L.take 1024 = ndb leaf es ++ z.take (1024 - (ndb leaf es).length) := by
        rw [hz, List.take_append, List.take_of_length_le hlen]
      have hdr : L.drop (ndb leaf es).length = z := by rw [hz, List.drop_left]
      have hrd : prd (L.take 1024) = some (leaf, es, (ndb leaf es).length) := by
        rw [ht]
        generalize z.take (1024 - (ndb leaf es).length) = r
        have hu := rdu_ub64 es.length (by omega) (es.flatMap (enb leaf) ++ r)
        have e0 : ndb leaf es ++ r = (if leaf then 1 else 2) :: (ub es.length ++ (es.flatMap (enb leaf) ++ r)) := by unfold ndb; simp
        have hbb : (((if leaf then 1 else 2) : UInt8) == 1) = leaf := by cases leaf <;> decide
        have hdd : ((if leaf then 1 else 2) :: (ub es.length ++ (es.flatMap (enb leaf) ++ r)) : List UInt8).drop (1 + (ub es.length).length) = es.flatMap (enb leaf) ++ r := by
          rw [Nat.add_comm, List.drop_succ_cons, List.drop_left]
        have hfl := pdes_of_rdes _ _ _ _ (rdes_flat leaf r es [] _ _ hdd hns)
        rw [e0]
        unfold prd
        simp only
        rw [if_neg (by cases leaf <;> simp), hu]
        simp only
        rw [if_neg (by simp), hbb, hfl]
        simp only [List.nil_append, Option.some.injEq, Prod.mk.injEq, true_and]
        unfold ndb
        simp only [List.length_cons, List.length_append]
        omega
      unfold pdec at hp
      rw [hrd] at hp
      simp only at hp
      rw [hf, hdr, hz0] at hp
      simp at hp
  · unfold pdec at hp
    rcases hr : prd (L.take 1024) with _ | ⟨lf, es2, q⟩
    · rw [hr] at hp; cases hp
    · rw [hr] at hp
      simp only at hp
      split at hp
      · rename_i hcond
        rw [Bool.and_eq_true] at hcond
        cases hp
        obtain ⟨hf, hz⟩ := hcond
        unfold prd at hr
        rcases hT : L.take 1024 with _ | ⟨b, M⟩
        · rw [hT] at hr; cases hr
        · rw [hT] at hr
          simp only at hr
          by_cases hb : b ≠ 1 ∧ b ≠ 2
          · rw [if_pos hb] at hr; cases hr
          rw [if_neg hb] at hr
          rcases hu : rdu M 0 0 with ⟨c, v, m⟩
          rw [hu] at hr
          simp only at hr
          by_cases hc : c ≠ 0
          · rw [if_pos hc] at hr; cases hr
          rw [if_neg hc] at hr
          have hc0 : c = 0 := by omega
          subst hc0
          rcases hd : pdes (b == 1) (b :: M) v (1 + m) [] with _ | ⟨es3, q3⟩
          · rw [hd] at hr; cases hr
          · rw [hd] at hr
            simp only [Option.some.injEq, Prod.mk.injEq] at hr
            obtain ⟨rfl, rfl, rfl⟩ := hr
            have hrd := rdes_of_pdes _ _ _ _ _ hd (fit_kidN hf)
            have hb2 : b = 1 ∨ b = 2 := by
              by_cases h1 : b = 1
              · exact Or.inl h1
              · by_cases h2 : b = 2
                · exact Or.inr h2
                · exact absurd ⟨h1, h2⟩ hb
            obtain ⟨hpre, hn⟩ := read_pre hb2 hu hrd
            have hlen := fit_len hf
            have hes := es_ndb (b == 1) es3
            have hq := read_q hu hrd
            have hL : L = ndb (b == 1) es3 ++ L.drop (ndb (b == 1) es3).length := by
              have h1 : L.take (ndb (b == 1) es3).length = ndb (b == 1) es3 := by
                have h2 : (L.take 1024).take (ndb (b == 1) es3).length = L.take (ndb (b == 1) es3).length := by rw [List.take_take, Nat.min_eq_left hlen]
                rw [← h2, hT, hpre, List.take_left]
              conv => lhs; rw [← List.take_append_drop (ndb (b == 1) es3).length L, h1]
            rw [hq] at hz
            have hdd := ddec_ndb (b == 1) es3 (L.drop (ndb (b == 1) es3).length) (by omega) (norm_sizes hf hn) hf
            rw [hz, ← hL] at hdd
            rw [hdd]
            rfl
      · cases hp
end Go.Proofs.YtlgfdfpafmopdaaDoor
