/-
  What is written is read back, and what is read was written: numbers, texts, entries, nodes as bytes. Plain mathematics.
-/
import Derived.Test.YtlgfdfpafmopdaaNm
namespace Go.Proofs.Ytlgfdfpafmopdaa
set_option linter.unusedVariables false

/-! ### what is written is read back -/
theorem rtx_tx (s : ByteArray) (r : List UInt8) (hs : s.size ≤ 1000000000) : rtx (tx s ++ r) = (0, s, (tx s).length) := by
  have h := rdu_ub64 s.size (by omega) (s.data.toList ++ r)
  have hl : (tx s).length = (ub s.size).length + s.size := by unfold tx; rw [List.length_append, ← Lib.size_eq]
  have e : tx s ++ r = ub s.size ++ (s.data.toList ++ r) := by unfold tx; rw [List.append_assoc]
  have hle : (tx s ++ r).length - (ub s.size).length = s.size + r.length := by rw [List.length_append, hl]; omega
  unfold rtx
  rw [e, h]
  simp only
  rw [if_neg (by omega), ← e, hle, if_neg (by omega), e]
  have hd : (ub s.size ++ (s.data.toList ++ r)).drop (ub s.size).length = s.data.toList ++ r := List.drop_left
  rw [hd]
  have ht : (s.data.toList ++ r).take s.size = s.data.toList := by
    rw [List.take_append_of_le_length (by rw [← Lib.size_eq]; omega), List.take_of_length_le (by rw [← Lib.size_eq]; omega)]
  rw [ht, hl]
/-- An entry as the document has it: a leaf's has no kid, any other's no value. -/
def Norm (leaf : Bool) (e : En) : Prop := if leaf then e.kid = 0 else e.val = ⟨#[]⟩ ∧ 0 ≤ e.kid ∧ e.kid < 16384
theorem rde_enb (leaf : Bool) (e : En) (r : List UInt8) (hk : e.key.size ≤ 1000000000) (hv : e.val.size ≤ 1000000000) (hn : Norm leaf e) : rde leaf (enb leaf e ++ r) = some (e, (enb leaf e).length) := by
  obtain ⟨key, val, kid⟩ := e
  simp only at hk hv
  unfold rde enb
  cases leaf
  · obtain ⟨hval, h0, h1⟩ : val = ⟨#[]⟩ ∧ 0 ≤ kid ∧ kid < 16384 := hn
    obtain ⟨m, rfl⟩ := Int.eq_ofNat_of_zero_le h0
    simp only [Bool.false_eq_true, if_false, List.append_assoc]
    rw [rtx_tx key _ hk]
    simp only
    have hd : (tx key ++ (ub (m : Int).toNat ++ r)).drop (tx key).length = ub (m : Int).toNat ++ r := List.drop_left
    rw [hd, Int.toNat_natCast, rdu_ub64 m (by omega) r]
    simp only
    rw [if_neg (by omega), if_neg (by omega), List.length_append, hval]
  · have hkid : kid = 0 := hn
    simp only [if_true, List.append_assoc]
    rw [rtx_tx key _ hk]
    simp only
    have hd : (tx key ++ (tx val ++ r)).drop (tx key).length = tx val ++ r := List.drop_left
    rw [hd, rtx_tx val r hv]
    simp only
    rw [if_neg (by omega), if_neg (by omega), List.length_append, hkid]
theorem rdes_flat (leaf : Bool) (r : List UInt8) : ∀ (es pre : List En) (L : List UInt8) (p : Nat), L.drop p = es.flatMap (enb leaf) ++ r → (∀ e ∈ es, e.key.size ≤ 1000000000 ∧ e.val.size ≤ 1000000000 ∧ Norm leaf e) → rdes leaf L es.length p pre = some (pre ++ es, p + (es.flatMap (enb leaf)).length)
  | [], pre, L, p, h, _ => by simp [rdes]
  | e :: es, pre, L, p, h, hf => by
    have he := hf e (List.mem_cons_self ..)
    rw [List.flatMap_cons, List.append_assoc] at h
    rw [List.length_cons, rdes, h, rde_enb leaf e _ he.1 he.2.1 he.2.2]
    simp only
    have h2 : L.drop (p + (enb leaf e).length) = es.flatMap (enb leaf) ++ r := by
      rw [← List.drop_drop, h, List.drop_left]
    rw [rdes_flat leaf r es (pre ++ [e]) L _ h2 (fun a ha => hf a (List.mem_cons_of_mem _ ha)), List.flatMap_cons, List.length_append]
    simp; omega
/-- A fit node is read back from its bytes, whatever zero bytes stand behind; with another byte behind it is none. -/
theorem ddec_ndb (leaf : Bool) (es : List En) (z : List UInt8) (hn : es.length < 1000000000) (hf : ∀ e ∈ es, e.key.size ≤ 1000000000 ∧ e.val.size ≤ 1000000000 ∧ Norm leaf e) (hfit : fitN leaf es = true) : ddec (ndb leaf es ++ z) = if nil0 z then some (leaf, es) else none := by
  have hu := rdu_ub64 es.length (by omega) (es.flatMap (enb leaf) ++ z)
  have hbb : (((if leaf then 1 else 2) : UInt8) == 1) = leaf := by cases leaf <;> decide
  have e0 : ndb leaf es ++ z = (if leaf then 1 else 2) :: (ub es.length ++ (es.flatMap (enb leaf) ++ z)) := by unfold ndb; simp
  rw [e0, ddec_cons (by cases leaf <;> simp) hu, hbb]
  have hd : ((if leaf then 1 else 2) :: (ub es.length ++ (es.flatMap (enb leaf) ++ z)) : List UInt8).drop (1 + (ub es.length).length) = es.flatMap (enb leaf) ++ z := by
    rw [Nat.add_comm, List.drop_succ_cons, List.drop_left]
  rw [rdes_flat leaf z es [] _ _ hd hf]
  simp only
  rw [← List.drop_drop, hd, List.drop_left, List.nil_append, hfit, Bool.and_true]

/-! ### what is read was written -/
theorem rdu_inv : ∀ (l : List UInt8) (i a w n : Nat), rdu l i a = (0, w, n) → ∃ u, w = a + u * 128 ^ i ∧ n = i + (ub u).length ∧ l.take (ub u).length = ub u ∧ (i ≠ 0 → u ≠ 0)
  | [], i, a, w, n, h => by
    by_cases hi : i = 10
    · subst hi; rw [rdu_10] at h; simp at h
    · rw [rdu_nil a hi] at h; simp at h
  | b :: l, i, a, w, n, h => by
    have hb := b.toNat_lt
    by_cases hi : i = 10
    · subst hi; rw [rdu_10] at h; simp at h
    by_cases h128 : 128 ≤ b.toNat
    · rw [rdu_more l a hi h128] at h
      obtain ⟨u, h1, h2, h3, h4⟩ := rdu_inv l (i + 1) _ w n h
      have hu0 := h4 (by omega)
      have hq : ¬ (b.toNat % 128 + 128 * u) < 128 := by omega
      have hub : ub (b.toNat % 128 + 128 * u) = b :: ub u := by
        rw [ub_big hq, show (b.toNat % 128 + 128 * u) % 128 + 128 = b.toNat from by omega, show (b.toNat % 128 + 128 * u) / 128 = u from by omega]
        simp
      refine ⟨b.toNat % 128 + 128 * u, ?_, ?_, ?_, fun _ => by omega⟩
      · rw [h1, Nat.pow_succ, Nat.add_mul, Nat.add_assoc, Nat.mul_comm (128 ^ i) 128, ← Nat.mul_assoc, Nat.mul_comm u 128]
      · rw [hub, h2, List.length_cons]; omega
      · rw [hub, List.length_cons, List.take_succ_cons, h3]
    · have hlt : b.toNat < 128 := by omega
      by_cases h0 : b.toNat = 0 ∧ i ≠ 0
      · rw [rdu_zero l a hi h0.1 h0.2] at h; simp at h
      by_cases h9 : i = 9 ∧ 1 < b.toNat
      · obtain ⟨rfl, h9⟩ := h9
        rw [rdu_ten l a hlt h9] at h; simp at h
      rw [rdu_last l a hi hlt h0 h9] at h
      simp only [Prod.mk.injEq, true_and] at h
      refine ⟨b.toNat, by omega, ?_, ?_, fun hi0 hb0 => h0 ⟨hb0, hi0⟩⟩
      · rw [ub_small hlt]; simp; omega
      · rw [ub_small hlt]; simp
theorem rdu_pre {L : List UInt8} {v n : Nat} (h : rdu L 0 0 = (0, v, n)) : n = (ub v).length ∧ L.take n = ub v := by
  obtain ⟨u, h1, h2, h3, _⟩ := rdu_inv L 0 0 v n h
  have : u = v := by rw [h1]; simp
  subst this
  rw [Nat.zero_add] at h2
  exact ⟨h2, by rw [h2]; exact h3⟩
theorem pre_drop {L a : List UInt8} {n : Nat} (h : L.take n = a) (hn : n = a.length) : L = a ++ L.drop n := by
  conv => lhs; rw [← List.take_append_drop n L, h]
theorem rtx_pre {L : List UInt8} {t : ByteArray} {n : Nat} (h : rtx L = (0, t, n)) : n = (tx t).length ∧ L = tx t ++ L.drop n := by
  unfold rtx at h
  rcases hr : rdu L 0 0 with ⟨c, v, m⟩
  rw [hr] at h
  simp only at h
  by_cases hc : c = 0
  · subst hc
    rw [if_neg (by omega)] at h
    by_cases hl : L.length - m < v
    · rw [if_pos hl] at h; simp at h
    · rw [if_neg hl] at h
      simp only [Prod.mk.injEq, true_and] at h
      obtain ⟨rfl, rfl⟩ := h
      obtain ⟨h1, h2⟩ := rdu_pre hr
      have hml : m ≤ L.length := by have := rdu_bound L 0 0 0 v m hr (by simp) (by omega) rfl; omega
      have hsz : (⟨((L.drop m).take v).toArray⟩ : ByteArray).size = v := by
        show (List.toArray _).size = v
        rw [List.size_toArray, List.length_take, List.length_drop]; omega
      have htx : tx ⟨((L.drop m).take v).toArray⟩ = ub v ++ (L.drop m).take v := by unfold tx; rw [hsz]
      have hlen : (tx ⟨((L.drop m).take v).toArray⟩).length = m + v := by
        rw [htx, List.length_append, ← h1, List.length_take, List.length_drop]; omega
      refine ⟨hlen.symm, ?_⟩
      have hp : L.take (m + v) = ub v ++ (L.drop m).take v := by rw [List.take_add, h2]
      conv => lhs; rw [← List.take_append_drop (m + v) L, hp]
      rw [htx]
  · rw [if_pos hc] at h; simp only [Prod.mk.injEq] at h; exact absurd h.1 hc
theorem rde_pre {leaf : Bool} {L : List UInt8} {e : En} {n : Nat} (h : rde leaf L = some (e, n)) : n = (enb leaf e).length ∧ L = enb leaf e ++ L.drop n ∧ Norm leaf e := by
  unfold rde at h
  rcases hr : rtx L with ⟨c, t, m⟩
  rw [hr] at h
  simp only at h
  by_cases hc : c = 0
  · subst hc
    rw [if_neg (by omega)] at h
    obtain ⟨h1, h2⟩ := rtx_pre hr
    cases leaf
    · simp only [Bool.false_eq_true, if_false] at h
      rcases hq : rdu (L.drop m) 0 0 with ⟨c2, v, m2⟩
      rw [hq] at h
      simp only at h
      by_cases hc2 : c2 ≠ 0 ∨ 16384 ≤ v
      · rw [if_pos hc2] at h; cases h
      · rw [if_neg hc2] at h
        have hc20 : c2 = 0 := by omega
        subst hc20
        cases h
        obtain ⟨h3, h4⟩ := rdu_pre hq
        have h5 := pre_drop h4 h3
        refine ⟨by simp [enb, ← h1, ← h3], ?_, ⟨rfl, by simp, by simp; omega⟩⟩
        unfold enb
        simp only [Bool.false_eq_true, if_false, Int.toNat_natCast, List.append_assoc]
        conv => lhs; rw [h2, h5]
        rw [List.drop_drop]
    · simp only [if_true] at h
      rcases hq : rtx (L.drop m) with ⟨c2, t2, m2⟩
      rw [hq] at h
      simp only at h
      by_cases hc2 : c2 ≠ 0
      · rw [if_pos hc2] at h; cases h
      · rw [if_neg hc2] at h
        have hc20 : c2 = 0 := by omega
        subst hc20
        cases h
        obtain ⟨h3, h4⟩ := rtx_pre hq
        refine ⟨by simp [enb, ← h1, ← h3], ?_, rfl⟩
        unfold enb
        simp only [if_true, List.append_assoc]
        conv => lhs; rw [h2, h4]
        rw [List.drop_drop]
  · rw [if_pos hc] at h; cases h
theorem rdes_pre {leaf : Bool} {L : List UInt8} : ∀ (c p : Nat) (pre es : List En) (q : Nat), rdes leaf L c p pre = some (es, q) → p ≤ L.length → ∃ tl, es = pre ++ tl ∧ tl.length = c ∧ L.drop p = tl.flatMap (enb leaf) ++ L.drop q ∧ ∀ e ∈ tl, Norm leaf e
  | 0, p, pre, es, q, h, _ => by
    simp only [rdes, Option.some.injEq, Prod.mk.injEq] at h
    obtain ⟨rfl, rfl⟩ := h
    exact ⟨[], by simp, rfl, by simp, fun e he => by cases he⟩
  | c + 1, p, pre, es, q, h, hp => by
    rw [rdes] at h
    rcases hd : rde leaf (L.drop p) with _ | ⟨e, n⟩
    · rw [hd] at h; cases h
    · rw [hd] at h
      simp only at h
      obtain ⟨h1, h2, h3⟩ := rde_pre hd
      have hle : p + n ≤ L.length := by
        have := congrArg List.length h2
        rw [List.length_append, List.length_drop, ← h1] at this
        omega
      obtain ⟨tl, g1, g2, g3, g4⟩ := rdes_pre c (p + n) (pre ++ [e]) es q h hle
      refine ⟨e :: tl, by rw [g1]; simp, by simp [g2], ?_, fun a ha => ?_⟩
      · rw [List.flatMap_cons, List.append_assoc, ← g3, ← List.drop_drop]
        exact h2
      · rcases List.mem_cons.1 ha with rfl | ha
        · exact h3
        · exact g4 a ha
/-- What is read as a node begins with the node's bytes; the node is fit. -/
theorem ddec_pre {L : List UInt8} {leaf : Bool} {es : List En} (h : ddec L = some (leaf, es)) : fitN leaf es = true ∧ (∃ z, L = ndb leaf es ++ z) ∧ ∀ e ∈ es, Norm leaf e := by
  cases L with
  | nil => simp [ddec] at h
  | cons b M =>
    unfold ddec at h
    simp only at h
    by_cases hb : b ≠ 1 ∧ b ≠ 2
    · rw [if_pos hb] at h; cases h
    rw [if_neg hb] at h
    rcases hr : rdu M 0 0 with ⟨c, v, m⟩
    rw [hr] at h
    simp only at h
    by_cases hc : c = 0
    · subst hc
      rw [if_neg (by omega)] at h
      rcases hd : rdes (b == 1) (b :: M) v (1 + m) [] with _ | ⟨es2, q⟩
      · rw [hd] at h; cases h
      · rw [hd] at h
        simp only at h
        split at h
        · rename_i hcond
          rw [Bool.and_eq_true] at hcond
          cases h
          obtain ⟨h1, h2⟩ := rdu_pre hr
          have hml : m ≤ M.length := by have := rdu_bound M 0 0 0 v m hr (by simp) (by omega) rfl; omega
          obtain ⟨tl, g1, g2, g3, g4⟩ := rdes_pre v (1 + m) [] es q hd (by simp; omega)
          rw [List.nil_append] at g1
          subst g1
          refine ⟨hcond.2, ⟨(b :: M).drop q, ?_⟩, g4⟩
          rw [Nat.add_comm, List.drop_succ_cons] at g3
          have hb1 : b = (if (b == 1) = true then 1 else 2) := by
            by_cases h : b = 1
            · subst h; rfl
            · have : b = 2 := by
                by_cases h2 : b = 2
                · exact h2
                · exact absurd ⟨h, h2⟩ hb
              subst this; rfl
          unfold ndb
          rw [g2, List.cons_append, ← hb1, List.append_assoc, ← g3]
          congr 1
          exact pre_drop h2 h1
        · cases h
    · rw [if_pos hc] at h; cases h
theorem Nv.norm {v : Nv} (h : v.fits = true) : ∀ e ∈ v.es, Norm v.leaf e := by
  intro e he
  unfold Nv.fits fitN at h
  rw [Bool.and_eq_true, Bool.and_eq_true, Bool.and_eq_true] at h
  have hff := h.2.1.1
  have hE : ∀ (es : List En) prev, fitFrom v.leaf prev es = true → ∀ e ∈ es, fitE v.leaf e = true := by
    intro es
    induction es with
    | nil => intro prev _ e he; cases he
    | cons a es ih =>
      intro prev hp e he
      rw [show fitFrom v.leaf prev (a :: es) = (fitE v.leaf a && (match prev with | none => true | some p => !sle a.key p) && fitFrom v.leaf (some a.key) es) from by cases prev <;> rfl, Bool.and_eq_true, Bool.and_eq_true] at hp
      rcases List.mem_cons.1 he with rfl | he
      · exact hp.1.1
      · exact ih _ hp.2 e he
  have h1 := hE _ _ hff e he
  unfold Nv.es mkN at he
  obtain ⟨p, _, rfl⟩ := List.mem_map.1 he
  unfold Norm
  unfold fitE at h1
  unfold mkE at h1 ⊢
  cases hl : v.leaf
  · rw [hl] at h1
    simp at h1 ⊢
    omega
  · simp
end Go.Proofs.Ytlgfdfpafmopdaa
