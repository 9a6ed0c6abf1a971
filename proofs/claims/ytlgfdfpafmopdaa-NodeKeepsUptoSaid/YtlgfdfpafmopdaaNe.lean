/-
  'Decode' of the document's nodes: the node that the bytes are, or none. Condition: the text is shorter than 10^9 bytes.
-/
import Derived.Test.YtlgfdfpafmopdaaNf
namespace Go.Proofs.Ytlgfdfpafmopdaa
open Go.RowKit
set_option linter.unusedVariables false

/-- What Decode answers. -/
def DePost (w : World) (L : List UInt8) (e : Ending) (w' : World) : Prop :=
  Tch [] w w' ∧ ((ddec L = none ∧ e = .returned (.tuple #[.agg #[.bool false, .slice none 0 0], .int .i64 40])) ∨
    ∃ leaf es x c b, ddec L = some (leaf, es) ∧ e = .returned (.tuple #[.agg #[.bool leaf, .slice x es.length c], .int .i64 0]) ∧ IsR fEn 3 w' x es.length b 0 es ∧ (0 < es.length → w.heap.size ≤ b) ∧ Fine es)
/-- What holds at the head of each round. -/
def DeRel (w : World) (rb : Nat) (leaf : Bool) (L : List UInt8) (cnt p0 : Nat) (v6 : Value) (wr : World) : Prop :=
  ∃ (p : Nat) (es : List En) (x : Option Addr) (c : Nat), v6 = .int .i64 p ∧ p ≤ L.length ∧ es.length ≤ p ∧ es.length ≤ cnt ∧ Fine es ∧ rdes leaf L cnt p0 [] = rdes leaf L (cnt - es.length) p es ∧
    wr.heap[rb + 1]? = some (.cells #[.bool leaf, .slice x es.length c] 32 (0, 0)) ∧ wr.ownsRow (rb + 1 + 1) 68 3 (.slice x es.length c) es.length (es.flatMap fEn) ∧ Tch [] w wr ∧ wr.heap[rb]? = some (.cells #[.bool false, .slice none 0 0] 32 (0, 0))
theorem DeRel.next {w wr w2 : World} {rb : Nat} {leaf : Bool} {L : List UInt8} {cnt p0 p q : Nat} {es : List En} {e : En} {x : Option Addr} {c : Nat} (hn : w.heap.size ≤ rb) (hk : es.length < cnt) (hq : q ≤ L.length) (hpq : p < q) (hep : es.length ≤ p) (hfine : Fine es) (hfe : e.key.size ≤ 1000000000 ∧ e.val.size ≤ 1000000000 ∧ -9223372036854775808 ≤ e.kid ∧ e.kid ≤ 9223372036854775807)
    (hstep : rdes leaf L cnt p0 [] = rdes leaf L (cnt - (es ++ [e]).length) q (es ++ [e]))
    (hb : wr.heap[rb + 1]? = some (.cells #[.bool leaf, .slice x es.length c] 32 (0, 0))) (hr : wr.heap[rb]? = some (.cells #[.bool false, .slice none 0 0] 32 (0, 0)))
    (T : Tch [] w wr) {v' : Value} (hown2 : w2.ownsRow (rb + 1 + 1) 68 3 v' (es.length + 1) (es.flatMap fEn ++ fEn e)) (hrow : ∀ b, (Value.slice x es.length c).ownBlock = some b → rb + 1 + 1 ≤ b) (hgrow : ∀ b, b < wr.heap.size → (some b ≠ (Value.slice x es.length c).ownBlock) → w2.heap[b]? = wr.heap[b]?) (hsz : wr.heap.size ≤ w2.heap.size) (hmeta : w2.os = wr.os ∧ w2.tape = wr.tape ∧ w2.output = wr.output) :
    w2.heap[rb + 1]? = some (.cells #[.bool leaf, .slice x es.length c] 32 (0, 0)) ∧ DeRel w rb leaf L cnt p0 (.int .i64 (q : Int)) (w2.setCell ⟨rb + 1, 1, none⟩ v') := by
  have hlt := lt_of_block hb
  have hb2 : w2.heap[rb + 1]? = some (.cells #[.bool leaf, .slice x es.length c] 32 (0, 0)) := by
    rw [hgrow (rb + 1) hlt (fun e => by have := hrow (rb + 1) e.symm; omega)]; exact hb
  have hr2 : w2.heap[rb]? = some (.cells #[.bool false, .slice none 0 0] 32 (0, 0)) := by
    rw [hgrow rb (by omega) (fun e => by have := hrow rb e.symm; omega)]; exact hr
  obtain ⟨x2, c2, rfl⟩ := own_slice hown2
  have t2 : Tch [] w w2 := ⟨hmeta.1.trans T.os, hmeta.2.1.trans T.tape, hmeta.2.2.trans T.output, Nat.le_trans T.size hsz, fun b h1 h2 => (hgrow b (Nat.lt_of_lt_of_le h1 T.size) (fun e => by have := hrow b e.symm; omega)).trans (T.block b h1 h2)⟩
  have hlen : (es ++ [e]).length = es.length + 1 := by simp
  refine ⟨hb2, q, es ++ [e], x2, c2, rfl, hq, by omega, by omega, ?_, hstep, ?_, ?_, t2.setNew (by simp; omega) _, blk_other hr2 (by omega) _ _⟩
  · intro a ha
    rcases List.mem_append.1 ha with h | h
    · exact hfine a h
    · simp only [List.mem_singleton] at h; subst h; exact hfe
  · rw [hlen]; exact blk_set hb2 1 _
  · rw [hlen, List.flatMap_append]
    have h0 : [e].flatMap fEn = fEn e := by simp
    rw [h0]
    refine own_keep hown2 ((Tch.refl [rb + 1] w2).setCell (p := ⟨rb + 1, 1, none⟩) (by simp) _) (fun b hb => ?_)
    have := (hown2.lt b hb).1
    simp; omega

theorem rtx_size {L : List UInt8} {t : ByteArray} {n : Nat} (h : rtx L = (0, t, n)) : t.size ≤ L.length := by
  unfold rtx at h
  rcases hr : rdu L 0 0 with ⟨c, v, m⟩
  rw [hr] at h
  simp only at h
  split at h
  · simp only [Prod.mk.injEq] at h; omega
  · split at h
    · simp at h
    · simp only [Prod.mk.injEq] at h
      rw [← h.2.1]
      show (List.toArray _).size ≤ _
      rw [List.size_toArray, List.length_take, List.length_drop]
      omega
theorem rde_key {leaf : Bool} {L : List UInt8} {p : Nat} {c : Int} {t : ByteArray} {n : Nat} (h : rtx (L.drop p) = (c, t, n)) (hc : c ≠ 0) : rde leaf (L.drop p) = none := by unfold rde; rw [h]; simp [hc]
theorem rde_val {L : List UInt8} {p : Nat} {t : ByteArray} {n : Nat} {c2 : Int} {t2 : ByteArray} {n2 : Nat} (h : rtx (L.drop p) = (0, t, n)) (h2 : rtx (L.drop (p + n)) = (c2, t2, n2)) : rde true (L.drop p) = if c2 ≠ 0 then none else some (⟨t, t2, 0⟩, n + n2) := by
  unfold rde; rw [h]; simp only [List.drop_drop]; rw [h2]; simp
theorem rde_kid {L : List UInt8} {p : Nat} {t : ByteArray} {n : Nat} {c2 : Int} {v n2 : Nat} (h : rtx (L.drop p) = (0, t, n)) (h2 : rdu (L.drop (p + n)) 0 0 = (c2, v, n2)) : rde false (L.drop p) = if c2 ≠ 0 ∨ 16384 ≤ v then none else some (⟨t, ⟨#[]⟩, (v : Int)⟩, n + n2) := by
  unfold rde; rw [h]; simp only [List.drop_drop]; rw [h2]; simp
theorem rdes_fail {leaf : Bool} {L : List UInt8} {cnt p : Nat} {es : List En} (h : es.length < cnt) (he : rde leaf (L.drop p) = none) : rdes leaf L (cnt - es.length) p es = none := by
  obtain ⟨m, hm⟩ : ∃ m, cnt - es.length = m + 1 := ⟨cnt - es.length - 1, by omega⟩
  rw [hm, rdes, he]
theorem rdes_step {leaf : Bool} {L : List UInt8} {cnt p n : Nat} {es : List En} {e : En} (h : es.length < cnt) (he : rde leaf (L.drop p) = some (e, n)) : rdes leaf L (cnt - es.length) p es = rdes leaf L (cnt - (es ++ [e]).length) (p + n) (es ++ [e]) := by
  obtain ⟨m, hm⟩ : ∃ m, cnt - es.length = m + 1 := ⟨cnt - es.length - 1, by omega⟩
  have h2 : cnt - (es ++ [e]).length = m := by simp; omega
  rw [hm, h2, rdes, he]
theorem ddec_cons {b : UInt8} {M : List UInt8} {cnt n0 : Nat} (hb : b = 1 ∨ b = 2) (hr : rdu M 0 0 = (0, cnt, n0)) : ddec (b :: M) = (match rdes (b == 1) (b :: M) cnt (1 + n0) [] with | none => none | some (es, p) => if nil0 ((b :: M).drop p) && fitN (b == 1) es then some (b == 1, es) else none) := by
  unfold ddec
  have : ¬ (b ≠ 1 ∧ b ≠ 2) := by rcases hb with h | h <;> simp [h]
  simp only
  rw [if_neg this, hr]
  rcases rdes (b == 1) (b :: M) cnt (1 + n0) [] with _ | ⟨es, p⟩ <;> simp
theorem ndb_fine {leaf : Bool} {es : List En} (hf : Fine es) (hl : es.length ≤ 100000000) : (ndb leaf es).length ≤ 1000000000000000000 := by
  have h1 : (es.flatMap (enb leaf)).length ≤ es.length * 2000000020 := by
    clear hl
    induction es with
    | nil => simp
    | cons e es ih =>
      have := ih (fun a ha => hf a (List.mem_cons_of_mem _ ha))
      have he := hf e (List.mem_cons_self ..)
      have hk := tx_len e.key he.1
      have hv := tx_len e.val he.2.1
      have hu := ub10 e.kid.toNat (by omega)
      rw [List.flatMap_cons, List.length_append, List.length_cons, Nat.add_mul]
      have : (enb leaf e).length ≤ 2000000020 := by
        unfold enb
        rw [List.length_append]
        split <;> omega
      omega
  have h2 := ub10 es.length (by omega)
  unfold ndb
  simp only [List.length_cons, List.length_append]
  omega
/-- What is stored at last. -/
def stored (rb : Nat) (w1 : World) (u v : Value) : World := (w1.setCell ⟨rb, 0, none⟩ u).setCell ⟨rb, 1, none⟩ v
theorem DePost.alloc {w w1 : World} {L : List UInt8} {e : Ending} (h : DePost w L e w1) (o : Obj) : DePost w L e (w1.alloc o) := by
  obtain ⟨t, h⟩ := h
  refine ⟨t.alloc o, ?_⟩
  rcases h with h | ⟨leaf, es, x, c, b, h1, h2, h3, h4⟩
  · exact Or.inl h
  · exact Or.inr ⟨leaf, es, x, c, b, h1, h2, h3.keep0 ((Tch.refl [] w1).alloc o), h4⟩
theorem DePost.no {w wr : World} {L : List UInt8} (h : ddec L = none) (T : Tch [] w wr) (w1 : World) (t : Tch [] wr w1) (u v : Value) : DePost w L (.returned (.tuple #[.agg #[.bool false, .slice none 0 0], .int .i64 40])) ((w1.setCell ⟨w.heap.size, 0, none⟩ u).setCell ⟨w.heap.size, 1, none⟩ v) :=
  ⟨(T.trans t).transNew (((Tch.refl [w.heap.size] w1).setCell (by simp) u).setCell (by simp) v) (by simp), Or.inl ⟨h, rfl⟩⟩

theorem s0_get (s : ByteArray) (hpos : 0 < s.size) : s.data.toList = (s[0]'hpos) :: s.data.toList.drop 1 := by
  have := List.drop_eq_getElem_cons (l := s.data.toList) (i := 0) (by rw [← Lib.size_eq]; exact hpos)
  rw [List.drop_zero] at this
  exact this
end Go.Proofs.Ytlgfdfpafmopdaa
