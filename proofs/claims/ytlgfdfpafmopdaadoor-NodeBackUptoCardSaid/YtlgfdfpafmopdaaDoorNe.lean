/-
  'Decode' of the document's nodes: the node that the bytes are, or none. Condition: the text is shorter than 10^9 bytes.
-/
import Derived.Test.YtlgfdfpafmopdaaDoorNf
namespace Go.Proofs.YtlgfdfpafmopdaaDoor
open Go.RowKit
set_option linter.unusedVariables false

/-- What Decode answers. -/
def DePost (w : World) (L : List UInt8) (e : Ending) (w' : World) : Prop :=
  Tch [] w w' ∧ ((ddec L = none ∧ e = .returned (.tuple #[.agg #[.bool false, .slice none 0 0], .int .i64 40])) ∨
    ∃ leaf es x c b, ddec L = some (leaf, es) ∧ e = .returned (.tuple #[.agg #[.bool leaf, .slice x es.length c], .int .i64 0]) ∧ IsR fEn 3 w' x es.length b 0 es ∧ (0 < es.length → w.heap.size ≤ b) ∧ Fine es)
/-- What holds at the head of each round. -/
def DeRel (w : World) (rb : Nat) (leaf : Bool) (L : List UInt8) (cnt p0 : Nat) (v6 : Value) (wr : World) : Prop :=
  ∃ (p : Nat) (es : List En) (x : Option Addr) (c : Nat), v6 = .int .i64 p ∧ p ≤ L.length ∧ es.length ≤ p ∧ es.length ≤ cnt ∧ Fine es ∧ rdes leaf L cnt p0 [] = rdes leaf L (cnt - es.length) p es ∧
    wr.heap[rb + 1]? = some (.cells #[.bool leaf, .slice x es.length c] 31 (0, 0)) ∧ wr.ownsRow (rb + 1 + 1) 50 3 (.slice x es.length c) es.length (es.flatMap fEn) ∧ Tch [] w wr ∧ wr.heap[rb]? = some (.cells #[.bool false, .slice none 0 0] 31 (0, 0))
theorem DeRel.next {w wr w2 : World} {rb : Nat} {leaf : Bool} {L : List UInt8} {cnt p0 p q : Nat} {es : List En} {e : En} {x : Option Addr} {c : Nat} (hn : w.heap.size ≤ rb) (hk : es.length < cnt) (hq : q ≤ L.length) (hpq : p < q) (hep : es.length ≤ p) (hfine : Fine es) (hfe : e.key.size ≤ 1000000000 ∧ e.val.size ≤ 1000000000 ∧ -9223372036854775808 ≤ e.kid ∧ e.kid ≤ 9223372036854775807)
    (hstep : rdes leaf L cnt p0 [] = rdes leaf L (cnt - (es ++ [e]).length) q (es ++ [e]))
    (hb : wr.heap[rb + 1]? = some (.cells #[.bool leaf, .slice x es.length c] 31 (0, 0))) (hr : wr.heap[rb]? = some (.cells #[.bool false, .slice none 0 0] 31 (0, 0)))
    (T : Tch [] w wr) {v' : Value} (hown2 : w2.ownsRow (rb + 1 + 1) 50 3 v' (es.length + 1) (es.flatMap fEn ++ fEn e)) (hrow : ∀ b, (Value.slice x es.length c).ownBlock = some b → rb + 1 + 1 ≤ b) (hgrow : ∀ b, b < wr.heap.size → (some b ≠ (Value.slice x es.length c).ownBlock) → w2.heap[b]? = wr.heap[b]?) (hsz : wr.heap.size ≤ w2.heap.size) (hmeta : w2.os = wr.os ∧ w2.tape = wr.tape ∧ w2.output = wr.output) :
    w2.heap[rb + 1]? = some (.cells #[.bool leaf, .slice x es.length c] 31 (0, 0)) ∧ DeRel w rb leaf L cnt p0 (.int .i64 (q : Int)) (w2.setCell ⟨rb + 1, 1, none⟩ v') := by
  have hlt := lt_of_block hb
  have hb2 : w2.heap[rb + 1]? = some (.cells #[.bool leaf, .slice x es.length c] 31 (0, 0)) := by
    rw [hgrow (rb + 1) hlt (fun e => by have := hrow (rb + 1) e.symm; omega)]; exact hb
  have hr2 : w2.heap[rb]? = some (.cells #[.bool false, .slice none 0 0] 31 (0, 0)) := by
    rw [hgrow rb (by omega) (fun e => by have := hrow rb e.symm; omega)]; exact hr
  obtain ⟨x2, c2, rfl⟩ := own_slice hown2
  have t2 : Tch [] w w2 := ⟨hmeta.1.trans T.os, hmeta.2.1.trans T.tape, hmeta.2.2.trans T.output, Nat.le_trans T.size hsz, fun b h1 h2 => (hgrow b (Nat.lt_of_lt_of_le h1 T.size) (fun e => by have := hrow b e.symm; omega)).trans (T.block b h1 h2)⟩
  have hlen : (es ++ [e]).length = es.length + 1 := by simp
  refine ⟨hb2, q, es ++ [e], x2, c2, rfl, hq, by omega, by omega, ?_, hstep, ?_, ?_, t2.setNew (by simp; omega) _, blk_other hr2 (by omega) _ _⟩
  · intro a ha
    rcases List.mem_append.1 ha with h | h
    · exact hfine a h
    · simp only [List.mem_singleton] at h; subst h; exact hfe
  · rw [hlen]; exact blk_set hb2 1 _
  · rw [hlen, List.flatMap_append]
    have h0 : [e].flatMap fEn = fEn e := by simp
    rw [h0]
    refine own_keep hown2 ((Tch.refl [rb + 1] w2).setCell (p := ⟨rb + 1, 1, none⟩) (by simp) _) (fun b hb => ?_)
    have := (hown2.lt b hb).1
    simp; omega

theorem rtx_size {L : List UInt8} {t : ByteArray} {n : Nat} (h : rtx L = (0, t, n)) : t.size ≤ L.length := by
  unfold rtx at h
  rcases hr : rdu L 0 0 with ⟨c, v, m⟩
  rw [hr] at h
  simp only at h
  split at h
  · simp only [Prod.mk.injEq] at h; omega
  · split at h
    · simp at h
    · simp only [Prod.mk.injEq] at h
      rw [← h.2.1]
      show (List.toArray _).size ≤ _
      rw [List.size_toArray, List.length_take, List.length_drop]
      omega
theorem rde_key {leaf : Bool} {L : List UInt8} {p : Nat} {c : Int} {t : ByteArray} {n : Nat} (h : rtx (L.drop p) = (c, t, n)) (hc : c ≠ 0) : rde leaf (L.drop p) = none := by unfold rde; rw [h]; simp [hc]
theorem rde_val {L : List UInt8} {p : Nat} {t : ByteArray} {n : Nat} {c2 : Int} {t2 : ByteArray} {n2 : Nat} (h : rtx (L.drop p) = (0, t, n)) (h2 : rtx (L.drop (p + n)) = (c2, t2, n2)) : rde true (L.drop p) = if c2 ≠ 0 then none else some (⟨t, t2, 0⟩, n + n2) := by
  unfold rde; rw [h]; simp only [List.drop_drop]; rw [h2]; simp
theorem rde_kid {L : List UInt8} {p : Nat} {t : ByteArray} {n : Nat} {c2 : Int} {v n2 : Nat} (h : rtx (L.drop p) = (0, t, n)) (h2 : rdu (L.drop (p + n)) 0 0 = (c2, v, n2)) : rde false (L.drop p) = if c2 ≠ 0 ∨ 16384 ≤ v then none else some (⟨t, ⟨#[]⟩, (v : Int)⟩, n + n2) := by
  unfold rde; rw [h]; simp only [List.drop_drop]; rw [h2]; simp
theorem rdes_fail {leaf : Bool} {L : List UInt8} {cnt p : Nat} {es : List En} (h : es.length < cnt) (he : rde leaf (L.drop p) = none) : rdes leaf L (cnt - es.length) p es = none := by
  obtain ⟨m, hm⟩ : ∃ m, cnt - es.length = m + 1 := ⟨cnt - es.length - 1, by omega⟩
  rw [hm, rdes, he]
theorem rdes_step {leaf : Bool} {L : List UInt8} {cnt p n : Nat} {es : List En} {e : En} (h : es.length < cnt) (he : rde leaf (L.drop p) = some (e, n)) : rdes leaf L (cnt - es.length) p es = rdes leaf L (cnt - (es ++ [e]).length) (p + n) (es ++ [e]) := by
  obtain ⟨m, hm⟩ : ∃ m, cnt - es.length = m + 1 := ⟨cnt - es.length - 1, by omega⟩
  have h2 : cnt - (es ++ [e]).length = m := by simp; omega
  rw [hm, h2, rdes, he]
theorem ddec_cons {b : UInt8} {M : List UInt8} {cnt n0 : Nat} (hb : b = 1 ∨ b = 2) (hr : rdu M 0 0 = (0, cnt, n0)) : ddec (b :: M) = (match rdes (b == 1) (b :: M) cnt (1 + n0) [] with | none => none | some (es, p) => if nil0 ((b :: M).drop p) && fitN (b == 1) es then some (b == 1, es) else none) := by
  unfold ddec
  have : ¬ (b ≠ 1 ∧ b ≠ 2) := by rcases hb with h | h <;> simp [h]
  simp only
  rw [if_neg this, hr]
  rcases rdes (b == 1) (b :: M) cnt (1 + n0) [] with _ | ⟨es, p⟩ <;> simp
theorem ndb_fine {leaf : Bool} {es : List En} (hf : Fine es) (hl : es.length ≤ 100000000) : (ndb leaf es).length ≤ 1000000000000000000 := by
  have h1 : (es.flatMap (enb leaf)).length ≤ es.length * 2000000020 := by
    clear hl
    induction es with
    | nil => simp
    | cons e es ih =>
      have := ih (fun a ha => hf a (List.mem_cons_of_mem _ ha))
      have he := hf e (List.mem_cons_self ..)
      have hk := tx_len e.key he.1
      have hv := tx_len e.val he.2.1
      have hu := ub10 e.kid.toNat (by omega)
      rw [List.flatMap_cons, List.length_append, List.length_cons, Nat.add_mul]
      have : (enb leaf e).length ≤ 2000000020 := by
        unfold enb
        rw [List.length_append]
        split <;> omega
      omega
  have h2 := ub10 es.length (by omega)
  unfold ndb
  simp only [List.length_cons, List.length_append]
  omega
/-- What is stored at last. -/
def stored (rb : Nat) (w1 : World) (u v : Value) : World := (w1.setCell ⟨rb, 0, none⟩ u).setCell ⟨rb, 1, none⟩ v
theorem DePost.alloc {w w1 : World} {L : List UInt8} {e : Ending} (h : DePost w L e w1) (o : Obj) : DePost w L e (w1.alloc o) := by
  obtain ⟨t, h⟩ := h
  refine ⟨t.alloc o, ?_⟩
  rcases h with h | ⟨leaf, es, x, c, b, h1, h2, h3, h4⟩
  · exact Or.inl h
  · exact Or.inr ⟨leaf, es, x, c, b, h1, h2, h3.keep0 ((Tch.refl [] w1).alloc o), h4⟩
theorem DePost.no {w wr : World} {L : List UInt8} (h : ddec L = none) (T : Tch [] w wr) (w1 : World) (t : Tch [] wr w1) (u v : Value) : DePost w L (.returned (.tuple #[.agg #[.bool false, .slice none 0 0], .int .i64 40])) ((w1.setCell ⟨w.heap.size, 0, none⟩ u).setCell ⟨w.heap.size, 1, none⟩ v) :=
  ⟨(T.trans t).transNew (((Tch.refl [w.heap.size] w1).setCell (by simp) u).setCell (by simp) v) (by simp), Or.inl ⟨h, rfl⟩⟩

set_option maxRecDepth 100000 in
set_option maxHeartbeats 4000000 in
theorem rdec_leaf (s : ByteArray) (M : List UInt8) (cnt n0 : Nat) (w : World) (hs : s.size ≤ 100000000) (hL : s.data.toList = 1 :: M) (hr : rdu M 0 0 = (0, cnt, n0)) :
    Calls Tryd.prog 6 #[.string s] w (DePost w s.data.toList) := by
  have hpos : 0 < s.size := by rw [Lib.size_eq, hL]; simp
  have hb0 : s[0]'hpos = 1 := by
    have : s.data.toList[0]? = some 1 := by rw [hL]; rfl
    rw [Array.getElem?_toList] at this
    have h2 : s.data[0]? = some (s[0]'hpos) := Array.getElem?_eq_getElem hpos
    rw [h2] at this
    exact Option.some.inj this
  have hlen : s.data.toList.length = s.size := (Lib.size_eq s).symm
  have hcntb := rdu_bound M 0 0 0 cnt n0 hr (by simp) (by omega) rfl
  have hML : s.size = M.length + 1 := by rw [Lib.size_eq, hL]; simp
  have HDD := Lib.hid (ddec_cons (b := 1) (M := M) (by simp) hr)
  rw [← hL] at HDD
  have HR0 : Hid (∀ w1, Calls Tryd.prog 14 #[.string s, .int .i64 1] w1 fun e w' => e = .returned (.tuple #[.int .u64 cnt, .int .i64 ((1 + n0 : Nat) : Int), .int .i64 0]) ∧ w1 = w') := fun w1 => by
    have h := rrdu_at s 1 w1 (by omega)
    rw [show s.data.toList.drop 1 = M from by rw [hL]; rfl, rduE_ok hr] at h
    exact h
  have HRT : Hid (∀ p w1, _) := fun p w1 => rrtext_at s p w1 (by omega)
  have HRU : Hid (∀ p w1, _) := fun p w1 => rrdu_at s p w1 (by omega)
  obtain ⟨L, hLL⟩ : ∃ L, s.data.toList = L := ⟨_, rfl⟩
  rw [hLL] at hL HDD hlen ⊢
  rw [show (∀ p w1, Calls Tryd.prog 15 #[.string s, .int .i64 (p : Nat)] w1 fun e w' => e = rtxE (s.data.toList.drop p) p ∧ w1 = w') = (∀ p w1, Calls Tryd.prog 15 #[.string s, .int .i64 (p : Nat)] w1 fun e w' => e = rtxE (L.drop p) p ∧ w1 = w') from by rw [hLL]] at HRT
  rw [show (∀ p w1, Calls Tryd.prog 14 #[.string s, .int .i64 (p : Nat)] w1 fun e w' => e = rduE (s.data.toList.drop p) p ∧ w1 = w') = (∀ p w1, Calls Tryd.prog 14 #[.string s, .int .i64 (p : Nat)] w1 fun e w' => e = rduE (L.drop p) p ∧ w1 = w') from by rw [hLL]] at HRU
  have HBY : Hid (∀ q (hq : q < s.size), L.drop q = (s[q]'hq) :: L.drop (q + 1)) := fun q hq => by
    rw [← hLL, List.drop_eq_getElem_cons (by rw [← Lib.size_eq]; exact hq)]; rfl
  obtain ⟨i0, hi0, hz0, hz1, hz2⟩ := info_parts Tryd.info_en
  have e0 : ((s.size : Int) == 0) = false := beq_eq_false_iff_ne.2 (by omega)
  have e0b : (s.size == 0) = false := beq_eq_false_iff_ne.2 (by omega)
  have HN0 := Lib.hid hcntb
  have HLEN := Lib.hid (And.intro hlen (And.intro hML hs))
  have HPOS := Lib.hid hpos
  clear hL hLL hr hcntb hlen hML
  go_enter Tryd.func6, Tryd.ntmps6
  go_wp2_with fail
  refine (HR0.out _).mono ?_
  rintro e w' ⟨rfl, rfl⟩
  go_wp2_with fail
  go_loopw [6] (fun v6 wr => DeRel w w.heap.size true L cnt (1 + n0) v6 wr) (fun v6 _ => s.size - (intOf v6).toNat)
  case atStart =>
    refine ⟨1 + n0, [], none, 0, rfl, by have := HN0.out; have := HLEN.out; omega, by simp, by simp, fun e he => by simp at he, rfl, ?_, World.ownsRow_nil _ _ _ _, ((Tch.refl _ _).alloc _).alloc _, blk_alloc (blk_new w _) _⟩
    rw [show w.heap.size + 1 = (w.alloc (.cells #[.bool false, .slice none 0 0] 31)).heap.size from by simp]; exact blk_new _ _
  case round =>
    obtain ⟨p, es, x, c, rfl, hp, hep, hec, hfine, hstp, hb, hown, T, hrb⟩ := hrel
    have hsz := T.size
    have p0 := blk_cell hb 0
    have p1 := blk_cell hb 1
    have r0 := blk_cell hrb 0
    have r1 := blk_cell hrb 1
    simp only [List.getElem?_toArray, List.getElem?_cons_zero, List.getElem?_cons_succ] at p0 p1 r0 r1
    have hnlt := lt_of_block hb
    have hrlt := lt_of_block hrb
    have rf0 := blk_free hrb 0
    have rf1 := blk_free hrb 1
    have hp2 : p ≤ s.size := by have := HLEN.out; omega
    have hwl : IntKind.u64.wrap (es.length : Int) = (es.length : Int) := by have := HLEN.out; rw [IntKind.wrap_u64]; omega
    by_cases hlt : es.length < cnt
    · have htst : decide (es.length < cnt) = true := by simpa using hlt
      have hrow : ∀ b, (Value.slice x es.length c).ownBlock = some b → w.heap.size + 1 + 1 ≤ b := fun b hb => (hown.lt b hb).1
      have HNOX : Hid (rde true (L.drop p) = none → ∀ w1 u v, Tch [] wr w1 → DePost w L (.returned (.tuple #[.agg #[.bool false, .slice none 0 0], .int .i64 40])) ((w1.setCell ⟨w.heap.size, 0, none⟩ u).setCell ⟨w.heap.size, 1, none⟩ v)) := fun h w1 u v t => DePost.no (by
        rw [HDD.out, show ((1 : UInt8) == 1) = true from by decide, hstp, rdes_fail hlt h]) T w1 t u v
      have HK0 := Lib.hid (HRT.out p)
      rcases hrt : rtx (L.drop p) with ⟨c1, key, n1⟩
      by_cases hc1 : c1 = 0
      · subst hc1
        have hkn := rtx_len _ _ _ hrt
        have hks := rtx_size hrt
        rw [List.length_drop] at hkn hks
        obtain ⟨q, hq⟩ : ∃ q, q = p + n1 := ⟨_, rfl⟩
        have HK : Hid (∀ w1, Calls Tryd.prog 15 #[.string s, .int .i64 (p : Int)] w1 fun e w' => e = .returned (.tuple #[.string key, .int .i64 (q : Int), .int .i64 0]) ∧ w1 = w') := fun w1 => by
          have h := HK0.out w1
          unfold rtxE at h
          rw [hrt, ← hq] at h
          exact h
        rcases hrv : rtx (L.drop q) with ⟨c2, val, n2⟩
        have HV0 := Lib.hid (HRT.out q)
        have hde := rde_val (c2 := c2) (t2 := val) (n2 := n2) hrt (by rw [← hq]; exact hrv)
        by_cases hc2 : c2 = 0
        · subst hc2
          rw [if_neg (by simp)] at hde
          have hvn := rtx_len _ _ _ hrv
          have hvs := rtx_size hrv
          rw [List.length_drop] at hvn hvs
          obtain ⟨q2, hq2⟩ : ∃ q2, q2 = q + n2 := ⟨_, rfl⟩
          have HV : Hid (∀ w1, Calls Tryd.prog 15 #[.string s, .int .i64 (q : Int)] w1 fun e w' => e = .returned (.tuple #[.string val, .int .i64 (q2 : Int), .int .i64 0]) ∧ w1 = w') := fun w1 => by
            have h := HV0.out w1
            unfold rtxE at h
            rw [hrv, ← hq2] at h
            exact h
          have HSTEP : Hid (rdes true L cnt (1 + n0) [] = rdes true L (cnt - (es ++ [(⟨key, val, 0⟩ : En)]).length) q2 (es ++ [⟨key, val, 0⟩])) := by
            show _ = _
            rw [hstp, rdes_step hlt hde, ← Nat.add_assoc, ← hq, ← hq2]
          have HNUM : Hid (es.length ≤ 100000000 ∧ p < q2 ∧ q2 ≤ s.size) := by show _ ∧ _; have := HLEN.out; omega
          have HQ : Hid (q2 ≤ L.length ∧ p < q2) := by show _ ∧ _; omega
          have HFE : Hid (key.size ≤ 1000000000 ∧ val.size ≤ 1000000000 ∧ -9223372036854775808 ≤ (0 : Int) ∧ (0 : Int) ≤ 9223372036854775807) := by show _ ∧ _; have := HLEN.out; omega
          have HNX : Hid (∀ (wa w2 : World) (v' : Value), Tch [] wr wa → w2.ownsRow (w.heap.size + 1 + 1) 50 3 v' (es.length + 1) (es.flatMap fEn ++ fEn ⟨key, val, 0⟩) → (∀ b, b < wa.heap.size → some b ≠ (Value.slice x es.length c).ownBlock → w2.heap[b]? = wa.heap[b]?) → wa.heap.size ≤ w2.heap.size → (w2.os = wa.os ∧ w2.tape = wa.tape ∧ w2.output = wa.output) →
              w2.heap[w.heap.size + 1]? = some (.cells #[.bool true, .slice x es.length c] 31 (0, 0)) ∧ DeRel w w.heap.size true L cnt (1 + n0) (.int .i64 ((q2 : Nat) : Int)) (w2.setCell ⟨w.heap.size + 1, 1, none⟩ v')) :=
            fun wa w2 v' ta h1 h2 h3 h4 => DeRel.next (Nat.le_refl _) hlt HQ.out.1 HQ.out.2 hep hfine HFE.out HSTEP.out (ta.keep hb (by simp)) (ta.keep hrb (by simp)) (T.trans ta) h1 hrow h2 h3 h4
          have HOW := Lib.hid hown
          have HSZ := Lib.hid hsz
          clear hrt hrv hde hkn hks hvn hvs hq hq2 hb hrb hown hrow T hstp HK0 HV0 HNOX hsz hfine HSTEP HFE HQ
          go_wp2_with fail
          refine (HK.out _).mono ?_
          rintro e w' ⟨rfl, rfl⟩
          go_wp2_with fail
          refine (HV.out _).mono ?_
          rintro e w' ⟨rfl, rfl⟩
          go_wp2_with (at_builtin; refine wpList_append_own _ rfl _ _ 29 rfl (w.heap.size + 1 + 1) 50 i0 (.agg #[.string ⟨#[]⟩, .string ⟨#[]⟩, .int .i64 0]) 3 40 Tryd.underlying29 hi0 hz0 hz1 hz2 rfl (by decide) _ _ _ rfl ((HOW.out.alloc (.cells #[.string key, .string val, .int .i64 0] 50)).alloc (.cells #[.string key, .string val, .int .i64 0] 50)) ⟨wr.heap.size + 1, 0, none⟩ 1 1 (fEn ⟨key, val, 0⟩) rfl rfl (fun j u hu => by have := cells_en (wr.alloc (.cells #[.string key, .string val, .int .i64 0] 50)) ⟨key, val, 0⟩ 50 j u hu; simpa using this) (fEn_one _) ?c3 ?c4 ?c5 ?_)
          case c3 => unfold maxLen; have := HNUM.out; omega
          case c4 => have := HNUM.out; omega
          case c5 => have := HSZ.out; simp; omega
          intro v' w2 hown2 hgrow _
          obtain ⟨x2, c2, rfl⟩ := own_slice hown2
          obtain ⟨g1, g2, g3, g4, g5⟩ := grow_parts hgrow
          obtain ⟨hb2, hrel2⟩ := HNX.out ((wr.alloc (.cells #[.string key, .string val, .int .i64 0] 50)).alloc (.cells #[.string key, .string val, .int .i64 0] 50)) w2 _ (((Tch.refl [] wr).alloc _).alloc _) hown2 g1 g2 ⟨g3, g4, g5⟩
          have HREL := Lib.hid hrel2
          have q0 := blk_cell hb2 0
          have q1 := blk_cell hb2 1
          simp only [List.getElem?_toArray, List.getElem?_cons_zero, List.getElem?_cons_succ] at q0 q1
          have q2 := blk_free hb2 1
          have q3 := lt_of_block hb2
          clear hown2 hgrow HOW g1 g2 g3 g4 g5 hb2 hrel2 HNX
          go_wp2
          go_roundw
          case rel => exact HREL.out
          case measure => have := HNUM.out; simp [intOf]; omega
        · have HN : Hid (rde true (L.drop p) = none) := by show _ = _; rw [hde, if_pos hc2]
          have HNO := Lib.hid (HNOX.out HN.out)
          have HV : Hid (∀ w1, Calls Tryd.prog 15 #[.string s, .int .i64 (q : Int)] w1 fun e w' => e = .returned (.tuple #[.string val, .int .i64 0, .int .i64 c2]) ∧ w1 = w') := fun w1 => by
            have h := HV0.out w1
            unfold rtxE at h
            rw [hrv] at h
            simp only [if_neg hc2] at h
            exact h
          have hne : (c2 != 0) = true := by simpa using hc2
          clear hrt hrv hde hkn hks hq hb hrb hown hrow T hstp HK0 HV0 HNOX hsz hfine hc2
          go_wp2_with fail
          refine (HK.out _).mono ?_
          rintro e w' ⟨rfl, rfl⟩
          go_wp2_with fail
          refine (HV.out _).mono ?_
          rintro e w' ⟨rfl, rfl⟩
          go_wp2_with fail
          refine bodyPost_ret (v := .tuple #[.agg #[.bool false, .slice none 0 0], .int .i64 40]) (by simp [results, Tryd.results6, go_sem, r0, r1, hrlt]) rfl ((HNO.out wr _ _ (Tch.refl _ _)).alloc _)
      · have HN : Hid (rde true (L.drop p) = none) := rde_key hrt hc1
        have HNO := Lib.hid (HNOX.out HN.out)
        have HK : Hid (∀ w1, Calls Tryd.prog 15 #[.string s, .int .i64 (p : Int)] w1 fun e w' => e = .returned (.tuple #[.string key, .int .i64 0, .int .i64 c1]) ∧ w1 = w') := fun w1 => by
          have h := HK0.out w1
          unfold rtxE at h
          rw [hrt] at h
          simp only [if_neg hc1] at h
          exact h
        have hne : (c1 != 0) = true := by simpa using hc1
        clear hc1 hrt hb hrb hown hrow T hstp HK0 HNOX hsz hfine
        go_wp2_with fail
        refine (HK.out _).mono ?_
        rintro e w' ⟨rfl, rfl⟩
        go_wp2_with fail
        refine bodyPost_ret (v := .tuple #[.agg #[.bool false, .slice none 0 0], .int .i64 40]) (by simp [results, Tryd.results6, go_sem, r0, r1, hrlt]) rfl ((HNO.out wr _ _ (Tch.refl _ _)).alloc _)
    · have htst : decide (es.length < cnt) = false := by simpa using hlt
      obtain rfl : es.length = cnt := by omega
      have HDE : Hid (ddec L = if nil0 (L.drop p) && fitN true es then some (true, es) else none) := by
        show _ = _
        have h1 := HDD.out
        rw [show ((1 : UInt8) == 1) = true from by decide, hstp, Nat.sub_self, rdes] at h1
        exact h1
      obtain ⟨bb, hir, _, hbb⟩ := IsR.own fEn_len hown rfl
      have HFI := Lib.hid (rfit_any true x es.length c bb 0 es wr hir hfine (by have := HLEN.out; omega) (ndb_fine hfine (by have := HLEN.out; omega)))
      have HIR := Lib.hid (And.intro hir (And.intro hfine hbb))
      have HBK := Lib.hid (And.intro hb hrb)
      have HNOX : Hid (ddec L = none → ∀ w1 u v, Tch [] wr w1 → DePost w L (.returned (.tuple #[.agg #[.bool false, .slice none 0 0], .int .i64 40])) ((w1.setCell ⟨w.heap.size, 0, none⟩ u).setCell ⟨w.heap.size, 1, none⟩ v)) := fun h w1 u v t => DePost.no h T w1 t u v
      have HT := Lib.hid T
      clear hstp hir hfine hbb hb hrb hown T hlt HDD HR0 HRT HRU HN0 hec hep hp hsz
      go_wp2_with fail
      go_loop [6] (fun v6 => ∃ q : Nat, q ≤ s.size ∧ v6 = .int .i64 q ∧ nil0 (L.drop p) = nil0 (L.drop q)) (fun v6 => s.size - (intOf v6).toNat)
      case atStart => exact ⟨p, hp2, rfl, rfl⟩
      case round =>
        obtain ⟨q, hq, rfl, hnq⟩ := hrel
        by_cases hqs : q < s.size
        · have hby := HBY.out q hqs
          have hst : nil0 (L.drop q) = ((s[q]'hqs == 0) && nil0 (L.drop (q + 1))) := by rw [hby]; rfl
          clear hby
          by_cases hz : s[q]'hqs = 0
          · have hzz : ((s[q]'hqs).toNat : Int) = 0 := by rw [hz]; rfl
            have HG := Lib.hid (show nil0 (L.drop p) = nil0 (L.drop (q + 1)) from by rw [hnq, hst, hz]; rfl)
            clear hz hst hnq
            have hne : (((s[q]'hqs).toNat : Int) != 0) = false := by rw [hzz]; rfl
            have hne2 : ((s[q]'hqs).toNat != 0) = false := by simp; omega
            clear hzz
            go_wp2_with fail
            go_round
            case rel => exact ⟨q + 1, by omega, by go_num, HG.out⟩
            case measure => simp [intOf]; omega
          · have hzn : (s[q]'hqs).toNat ≠ 0 := fun h => hz (UInt8.toNat_inj.1 (by rw [h]; rfl))
            have HN : Hid (ddec L = none) := by
              show _ = _
              rw [HDE.out, hnq, hst, beq_eq_false_iff_ne.2 hz]
              rfl
            have HNO := Lib.hid (HNOX.out HN.out)
            have hne : (((s[q]'hqs).toNat : Int) != 0) = true := by simpa using hzn
            have hne2 : ((s[q]'hqs).toNat != 0) = true := by simpa using hzn
            clear hz hst hnq hzn
            go_wp2_with fail
            refine bodyPost_ret (v := .tuple #[.agg #[.bool false, .slice none 0 0], .int .i64 40]) (by simp [results, Tryd.results6, go_sem, r0, r1]) rfl (HNO.out wr _ _ (Tch.refl _ _))
        · have hnil : nil0 (L.drop p) = true := by
            rw [hnq, List.drop_eq_nil_of_le (by have := HLEN.out; omega)]; rfl
          have HDF : Hid (ddec L = if fitN true es then some (true, es) else none) := by
            show _ = _
            rw [HDE.out, hnil, Bool.true_and]
          clear hnq hnil
          cases hfit : fitN true es
          · rw [hfit] at HFI HDF
            have HNO := Lib.hid (HNOX.out HDF.out)
            clear hfit
            go_wp2_with fail
            refine HFI.out.mono ?_
            rintro e w2 ⟨rfl, t2⟩
            have r0' := blk_cell (t2.keep HBK.out.2 (by simp)) 0
            have r1' := blk_cell (t2.keep HBK.out.2 (by simp)) 1
            have rf0' := blk_free (t2.keep HBK.out.2 (by simp)) 0
            have rf1' := blk_free (t2.keep HBK.out.2 (by simp)) 1
            simp only [List.getElem?_toArray, List.getElem?_cons_zero, List.getElem?_cons_succ] at r0' r1'
            clear r0 r1 rf0 rf1 p0 p1
            go_wp2_with fail
            refine bodyPost_ret (v := .tuple #[.agg #[.bool false, .slice none 0 0], .int .i64 40]) (by simp [results, Tryd.results6, go_sem, r0', r1']) rfl (HNO.out w2 _ _ t2)
          · rw [hfit] at HFI HDF
            have HYES : Hid (∀ w1 u v, Tch [] wr w1 → DePost w L (.returned (.tuple #[.agg #[.bool true, .slice x es.length c], .int .i64 0])) ((w1.setCell ⟨w.heap.size, 0, none⟩ u).setCell ⟨w.heap.size, 1, none⟩ v)) := fun w1 u v t => by
              have t2 : Tch [w.heap.size] w1 ((w1.setCell ⟨w.heap.size, 0, none⟩ u).setCell ⟨w.heap.size, 1, none⟩ v) := ((Tch.refl _ w1).setCell (by simp) u).setCell (by simp) v
              exact ⟨(HT.out.trans t).transNew t2 (by simp), Or.inr ⟨true, es, x, c, bb, HDF.out, rfl, (HIR.out.1.keep0 t).keep t2 (fun h0 => by have := HIR.out.2.2 h0; simp; omega), fun h0 => by have := HIR.out.2.2 h0; omega, HIR.out.2.1⟩⟩
            clear hfit
            go_wp2_with fail
            refine HFI.out.mono ?_
            rintro e w2 ⟨rfl, t2⟩
            have r0' := blk_cell (t2.keep HBK.out.2 (by simp)) 0
            have r1' := blk_cell (t2.keep HBK.out.2 (by simp)) 1
            have rf0' := blk_free (t2.keep HBK.out.2 (by simp)) 0
            have rf1' := blk_free (t2.keep HBK.out.2 (by simp)) 1
            have p0' := blk_cell (t2.keep HBK.out.1 (by simp)) 0
            have p1' := blk_cell (t2.keep HBK.out.1 (by simp)) 1
            simp only [List.getElem?_toArray, List.getElem?_cons_zero, List.getElem?_cons_succ] at r0' r1' p0' p1'
            clear r0 r1 rf0 rf1 p0 p1
            go_wp2_with fail
            refine bodyPost_ret (v := .tuple #[.agg #[.bool true, .slice x es.length c], .int .i64 0]) (by simp [results, Tryd.results6, go_sem, r0', r1']) rfl (HYES.out w2 _ _ t2)

set_option maxRecDepth 100000 in
set_option maxHeartbeats 4000000 in
theorem rdec_kids (s : ByteArray) (M : List UInt8) (cnt n0 : Nat) (w : World) (hs : s.size ≤ 100000000) (hL : s.data.toList = 2 :: M) (hr : rdu M 0 0 = (0, cnt, n0)) :
    Calls Tryd.prog 6 #[.string s] w (DePost w s.data.toList) := by
  have hpos : 0 < s.size := by rw [Lib.size_eq, hL]; simp
  have hb0 : s[0]'hpos = 2 := by
    have : s.data.toList[0]? = some 2 := by rw [hL]; rfl
    rw [Array.getElem?_toList] at this
    have h2 : s.data[0]? = some (s[0]'hpos) := Array.getElem?_eq_getElem hpos
    rw [h2] at this
    exact Option.some.inj this
  have hlen : s.data.toList.length = s.size := (Lib.size_eq s).symm
  have hcntb := rdu_bound M 0 0 0 cnt n0 hr (by simp) (by omega) rfl
  have hML : s.size = M.length + 1 := by rw [Lib.size_eq, hL]; simp
  have HDD := Lib.hid (ddec_cons (b := 2) (M := M) (by simp) hr)
  rw [← hL] at HDD
  have HR0 : Hid (∀ w1, Calls Tryd.prog 14 #[.string s, .int .i64 1] w1 fun e w' => e = .returned (.tuple #[.int .u64 cnt, .int .i64 ((1 + n0 : Nat) : Int), .int .i64 0]) ∧ w1 = w') := fun w1 => by
    have h := rrdu_at s 1 w1 (by omega)
    rw [show s.data.toList.drop 1 = M from by rw [hL]; rfl, rduE_ok hr] at h
    exact h
  have HRT : Hid (∀ p w1, _) := fun p w1 => rrtext_at s p w1 (by omega)
  have HRU : Hid (∀ p w1, _) := fun p w1 => rrdu_at s p w1 (by omega)
  obtain ⟨L, hLL⟩ : ∃ L, s.data.toList = L := ⟨_, rfl⟩
  rw [hLL] at hL HDD hlen ⊢
  rw [show (∀ p w1, Calls Tryd.prog 15 #[.string s, .int .i64 (p : Nat)] w1 fun e w' => e = rtxE (s.data.toList.drop p) p ∧ w1 = w') = (∀ p w1, Calls Tryd.prog 15 #[.string s, .int .i64 (p : Nat)] w1 fun e w' => e = rtxE (L.drop p) p ∧ w1 = w') from by rw [hLL]] at HRT
  rw [show (∀ p w1, Calls Tryd.prog 14 #[.string s, .int .i64 (p : Nat)] w1 fun e w' => e = rduE (s.data.toList.drop p) p ∧ w1 = w') = (∀ p w1, Calls Tryd.prog 14 #[.string s, .int .i64 (p : Nat)] w1 fun e w' => e = rduE (L.drop p) p ∧ w1 = w') from by rw [hLL]] at HRU
  have HBY : Hid (∀ q (hq : q < s.size), L.drop q = (s[q]'hq) :: L.drop (q + 1)) := fun q hq => by
    rw [← hLL, List.drop_eq_getElem_cons (by rw [← Lib.size_eq]; exact hq)]; rfl
  obtain ⟨i0, hi0, hz0, hz1, hz2⟩ := info_parts Tryd.info_en
  have e0 : ((s.size : Int) == 0) = false := beq_eq_false_iff_ne.2 (by omega)
  have e0b : (s.size == 0) = false := beq_eq_false_iff_ne.2 (by omega)
  have HN0 := Lib.hid hcntb
  have HLEN := Lib.hid (And.intro hlen (And.intro hML hs))
  have HPOS := Lib.hid hpos
  clear hL hLL hr hcntb hlen hML
  go_enter Tryd.func6, Tryd.ntmps6
  go_wp2_with fail
  refine (HR0.out _).mono ?_
  rintro e w' ⟨rfl, rfl⟩
  go_wp2_with fail
  go_loopw [6] (fun v6 wr => DeRel w w.heap.size false L cnt (1 + n0) v6 wr) (fun v6 _ => s.size - (intOf v6).toNat)
  case atStart =>
    refine ⟨1 + n0, [], none, 0, rfl, by have := HN0.out; have := HLEN.out; omega, by simp, by simp, fun e he => by simp at he, rfl, ?_, World.ownsRow_nil _ _ _ _, ((Tch.refl _ _).alloc _).alloc _, blk_alloc (blk_new w _) _⟩
    rw [show w.heap.size + 1 = (w.alloc (.cells #[.bool false, .slice none 0 0] 31)).heap.size from by simp]; exact blk_new _ _
  case round =>
    obtain ⟨p, es, x, c, rfl, hp, hep, hec, hfine, hstp, hb, hown, T, hrb⟩ := hrel
    have hsz := T.size
    have p0 := blk_cell hb 0
    have p1 := blk_cell hb 1
    have r0 := blk_cell hrb 0
    have r1 := blk_cell hrb 1
    simp only [List.getElem?_toArray, List.getElem?_cons_zero, List.getElem?_cons_succ] at p0 p1 r0 r1
    have hnlt := lt_of_block hb
    have hrlt := lt_of_block hrb
    have rf0 := blk_free hrb 0
    have rf1 := blk_free hrb 1
    have hp2 : p ≤ s.size := by have := HLEN.out; omega
    have hwl : IntKind.u64.wrap (es.length : Int) = (es.length : Int) := by have := HLEN.out; rw [IntKind.wrap_u64]; omega
    by_cases hlt : es.length < cnt
    · have htst : decide (es.length < cnt) = true := by simpa using hlt
      have hrow : ∀ b, (Value.slice x es.length c).ownBlock = some b → w.heap.size + 1 + 1 ≤ b := fun b hb => (hown.lt b hb).1
      have HNOX : Hid (rde false (L.drop p) = none → ∀ w1 u v, Tch [] wr w1 → DePost w L (.returned (.tuple #[.agg #[.bool false, .slice none 0 0], .int .i64 40])) ((w1.setCell ⟨w.heap.size, 0, none⟩ u).setCell ⟨w.heap.size, 1, none⟩ v)) := fun h w1 u v t => DePost.no (by
        rw [HDD.out, show ((2 : UInt8) == 1) = false from by decide, hstp, rdes_fail hlt h]) T w1 t u v
      have HK0 := Lib.hid (HRT.out p)
      rcases hrt : rtx (L.drop p) with ⟨c1, key, n1⟩
      by_cases hc1 : c1 = 0
      · subst hc1
        have hkn := rtx_len _ _ _ hrt
        have hks := rtx_size hrt
        rw [List.length_drop] at hkn hks
        obtain ⟨q, hq⟩ : ∃ q, q = p + n1 := ⟨_, rfl⟩
        have HK : Hid (∀ w1, Calls Tryd.prog 15 #[.string s, .int .i64 (p : Int)] w1 fun e w' => e = .returned (.tuple #[.string key, .int .i64 (q : Int), .int .i64 0]) ∧ w1 = w') := fun w1 => by
          have h := HK0.out w1
          unfold rtxE at h
          rw [hrt, ← hq] at h
          exact h
        rcases hrv : rdu (L.drop q) 0 0 with ⟨c2, vn, n2⟩
        have HV0 := Lib.hid (HRU.out q)
        have hde := rde_kid (c2 := c2) (v := vn) (n2 := n2) hrt (by rw [← hq]; exact hrv)
        by_cases hc2 : c2 = 0
        · subst hc2
          have hvn := rdu_bound _ 0 0 0 vn n2 hrv (by simp) (by omega) rfl
          rw [List.length_drop] at hvn
          obtain ⟨q2, hq2⟩ : ∃ q2, q2 = q + n2 := ⟨_, rfl⟩
          have HV : Hid (∀ w1, Calls Tryd.prog 14 #[.string s, .int .i64 (q : Int)] w1 fun e w' => e = .returned (.tuple #[.int .u64 (vn : Int), .int .i64 (q2 : Int), .int .i64 0]) ∧ w1 = w') := fun w1 => by
            have h := HV0.out w1
            rw [rduE_ok hrv, ← hq2] at h
            exact h
          by_cases hv : 16384 ≤ vn
          · rw [if_pos (Or.inr hv)] at hde
            have HNO := Lib.hid (HNOX.out hde)
            have hd5 : decide ((16384 : Int) ≤ (vn : Int)) = true := by simp; omega
            have hd6 : decide (16384 ≤ vn) = true := by simpa using hv
            clear hrt hrv hde hkn hks hvn hq hq2 hb hrb hown hrow T hstp HK0 HV0 HNOX hsz hfine
            go_wp2_with fail
            refine (HK.out _).mono ?_
            rintro e w' ⟨rfl, rfl⟩
            go_wp2_with fail
            refine (HV.out _).mono ?_
            rintro e w' ⟨rfl, rfl⟩
            go_wp2_with fail
            refine bodyPost_ret (v := .tuple #[.agg #[.bool false, .slice none 0 0], .int .i64 40]) (by simp [results, Tryd.results6, go_sem, r0, r1, hrlt]) rfl ((HNO.out wr _ _ (Tch.refl _ _)).alloc _)
          · rw [if_neg (by omega)] at hde
            have HSTEP : Hid (rdes false L cnt (1 + n0) [] = rdes false L (cnt - (es ++ [(⟨key, ⟨#[]⟩, (vn : Int)⟩ : En)]).length) q2 (es ++ [⟨key, ⟨#[]⟩, (vn : Int)⟩])) := by
              show _ = _
              rw [hstp, rdes_step hlt hde, ← Nat.add_assoc, ← hq, ← hq2]
            have HNUM : Hid (es.length ≤ 100000000 ∧ p < q2 ∧ q2 ≤ s.size) := by show _ ∧ _; have := HLEN.out; omega
            have HQ : Hid (q2 ≤ L.length ∧ p < q2) := by show _ ∧ _; omega
            have HFE : Hid (key.size ≤ 1000000000 ∧ (⟨#[]⟩ : ByteArray).size ≤ 1000000000 ∧ -9223372036854775808 ≤ (vn : Int) ∧ (vn : Int) ≤ 9223372036854775807) := by
              have h1 : (⟨#[]⟩ : ByteArray).size = 0 := rfl
              show _ ∧ _; have := HLEN.out; omega
            have hd5 : decide ((16384 : Int) ≤ (vn : Int)) = false := decide_eq_false (by omega)
            have hd6 : decide (16384 ≤ vn) = false := decide_eq_false hv
            have hw2 : IntKind.i64.wrap (vn : Int) = (vn : Int) := IntWalk.i64_in _ (by omega)
            have HNX : Hid (∀ (wa w2 : World) (v' : Value), Tch [] wr wa → w2.ownsRow (w.heap.size + 1 + 1) 50 3 v' (es.length + 1) (es.flatMap fEn ++ fEn ⟨key, ⟨#[]⟩, (vn : Int)⟩) → (∀ b, b < wa.heap.size → some b ≠ (Value.slice x es.length c).ownBlock → w2.heap[b]? = wa.heap[b]?) → wa.heap.size ≤ w2.heap.size → (w2.os = wa.os ∧ w2.tape = wa.tape ∧ w2.output = wa.output) →
                w2.heap[w.heap.size + 1]? = some (.cells #[.bool false, .slice x es.length c] 31 (0, 0)) ∧ DeRel w w.heap.size false L cnt (1 + n0) (.int .i64 ((q2 : Nat) : Int)) (w2.setCell ⟨w.heap.size + 1, 1, none⟩ v')) :=
              fun wa w2 v' ta h1 h2 h3 h4 => DeRel.next (Nat.le_refl _) hlt HQ.out.1 HQ.out.2 hep hfine HFE.out HSTEP.out (ta.keep hb (by simp)) (ta.keep hrb (by simp)) (T.trans ta) h1 hrow h2 h3 h4
            have HOW := Lib.hid hown
            have HSZ := Lib.hid hsz
            clear hrt hrv hde hkn hks hvn hq hq2 hb hrb hown hrow T hstp HK0 HV0 HNOX hsz hfine HSTEP HFE HQ hv
            go_wp2_with fail
            refine (HK.out _).mono ?_
            rintro e w' ⟨rfl, rfl⟩
            go_wp2_with fail
            refine (HV.out _).mono ?_
            rintro e w' ⟨rfl, rfl⟩
            go_wp2_with (at_builtin; refine wpList_append_own _ rfl _ _ 29 rfl (w.heap.size + 1 + 1) 50 i0 (.agg #[.string ⟨#[]⟩, .string ⟨#[]⟩, .int .i64 0]) 3 40 Tryd.underlying29 hi0 hz0 hz1 hz2 rfl (by decide) _ _ _ rfl ((HOW.out.alloc (.cells #[.string key, .string ⟨#[]⟩, .int .i64 (vn : Int)] 50)).alloc (.cells #[.string key, .string ⟨#[]⟩, .int .i64 (vn : Int)] 50)) ⟨wr.heap.size + 1, 0, none⟩ 1 1 (fEn ⟨key, ⟨#[]⟩, (vn : Int)⟩) rfl rfl (fun j u hu => by have := cells_en (wr.alloc (.cells #[.string key, .string ⟨#[]⟩, .int .i64 (vn : Int)] 50)) ⟨key, ⟨#[]⟩, (vn : Int)⟩ 50 j u hu; simpa using this) (fEn_one _) ?c3 ?c4 ?c5 ?_)
            case c3 => unfold maxLen; have := HNUM.out; omega
            case c4 => have := HNUM.out; omega
            case c5 => have := HSZ.out; simp; omega
            intro v' w2 hown2 hgrow _
            obtain ⟨x2, c2, rfl⟩ := own_slice hown2
            obtain ⟨g1, g2, g3, g4, g5⟩ := grow_parts hgrow
            obtain ⟨hb2, hrel2⟩ := HNX.out ((wr.alloc (.cells #[.string key, .string ⟨#[]⟩, .int .i64 (vn : Int)] 50)).alloc (.cells #[.string key, .string ⟨#[]⟩, .int .i64 (vn : Int)] 50)) w2 _ (((Tch.refl [] wr).alloc _).alloc _) hown2 g1 g2 ⟨g3, g4, g5⟩
            have HREL := Lib.hid hrel2
            have q0 := blk_cell hb2 0
            have q1 := blk_cell hb2 1
            simp only [List.getElem?_toArray, List.getElem?_cons_zero, List.getElem?_cons_succ] at q0 q1
            have q2 := blk_free hb2 1
            have q3 := lt_of_block hb2
            clear hown2 hgrow HOW g1 g2 g3 g4 g5 hb2 hrel2 HNX
            go_wp2
            go_roundw
            case rel => exact HREL.out
            case measure => have := HNUM.out; simp [intOf]; omega
        · rw [if_pos (Or.inl hc2)] at hde
          have HNO := Lib.hid (HNOX.out hde)
          have HV : Hid (∀ w1, Calls Tryd.prog 14 #[.string s, .int .i64 (q : Int)] w1 fun e w' => e = .returned (.tuple #[.int .u64 (vn : Int), .int .i64 0, .int .i64 c2]) ∧ w1 = w') := fun w1 => by
            have h := HV0.out w1
            unfold rduE at h
            rw [hrv] at h
            simp only [if_neg hc2] at h
            exact h
          have hne : (c2 != 0) = true := by simpa using hc2
          clear hrt hrv hde hkn hks hq hb hrb hown hrow T hstp HK0 HV0 HNOX hsz hfine hc2
          go_wp2_with fail
          refine (HK.out _).mono ?_
          rintro e w' ⟨rfl, rfl⟩
          go_wp2_with fail
          refine (HV.out _).mono ?_
          rintro e w' ⟨rfl, rfl⟩
          go_wp2_with fail
          refine bodyPost_ret (v := .tuple #[.agg #[.bool false, .slice none 0 0], .int .i64 40]) (by simp [results, Tryd.results6, go_sem, r0, r1, hrlt]) rfl ((HNO.out wr _ _ (Tch.refl _ _)).alloc _)
      · have HN : Hid (rde false (L.drop p) = none) := rde_key hrt hc1
        have HNO := Lib.hid (HNOX.out HN.out)
        have HK : Hid (∀ w1, Calls Tryd.prog 15 #[.string s, .int .i64 (p : Int)] w1 fun e w' => e = .returned (.tuple #[.string key, .int .i64 0, .int .i64 c1]) ∧ w1 = w') := fun w1 => by
          have h := HK0.out w1
          unfold rtxE at h
          rw [hrt] at h
          simp only [if_neg hc1] at h
          exact h
        have hne : (c1 != 0) = true := by simpa using hc1
        clear hc1 hrt hb hrb hown hrow T hstp HK0 HNOX hsz hfine
        go_wp2_with fail
        refine (HK.out _).mono ?_
        rintro e w' ⟨rfl, rfl⟩
        go_wp2_with fail
        refine bodyPost_ret (v := .tuple #[.agg #[.bool false, .slice none 0 0], .int .i64 40]) (by simp [results, Tryd.results6, go_sem, r0, r1, hrlt]) rfl ((HNO.out wr _ _ (Tch.refl _ _)).alloc _)
    · have htst : decide (es.length < cnt) = false := by simpa using hlt
      obtain rfl : es.length = cnt := by omega
      have HDE : Hid (ddec L = if nil0 (L.drop p) && fitN false es then some (false, es) else none) := by
        show _ = _
        have h1 := HDD.out
        rw [show ((2 : UInt8) == 1) = false from by decide, hstp, Nat.sub_self, rdes] at h1
        exact h1
      obtain ⟨bb, hir, _, hbb⟩ := IsR.own fEn_len hown rfl
      have HFI := Lib.hid (rfit_any false x es.length c bb 0 es wr hir hfine (by have := HLEN.out; omega) (ndb_fine hfine (by have := HLEN.out; omega)))
      have HIR := Lib.hid (And.intro hir (And.intro hfine hbb))
      have HBK := Lib.hid (And.intro hb hrb)
      have HNOX : Hid (ddec L = none → ∀ w1 u v, Tch [] wr w1 → DePost w L (.returned (.tuple #[.agg #[.bool false, .slice none 0 0], .int .i64 40])) ((w1.setCell ⟨w.heap.size, 0, none⟩ u).setCell ⟨w.heap.size, 1, none⟩ v)) := fun h w1 u v t => DePost.no h T w1 t u v
      have HT := Lib.hid T
      clear hstp hir hfine hbb hb hrb hown T hlt HDD HR0 HRT HRU HN0 hec hep hp hsz
      go_wp2_with fail
      go_loop [6] (fun v6 => ∃ q : Nat, q ≤ s.size ∧ v6 = .int .i64 q ∧ nil0 (L.drop p) = nil0 (L.drop q)) (fun v6 => s.size - (intOf v6).toNat)
      case atStart => exact ⟨p, hp2, rfl, rfl⟩
      case round =>
        obtain ⟨q, hq, rfl, hnq⟩ := hrel
        by_cases hqs : q < s.size
        · have hby := HBY.out q hqs
          have hst : nil0 (L.drop q) = ((s[q]'hqs == 0) && nil0 (L.drop (q + 1))) := by rw [hby]; rfl
          clear hby
          by_cases hz : s[q]'hqs = 0
          · have hzz : ((s[q]'hqs).toNat : Int) = 0 := by rw [hz]; rfl
            have HG := Lib.hid (show nil0 (L.drop p) = nil0 (L.drop (q + 1)) from by rw [hnq, hst, hz]; rfl)
            clear hz hst hnq
            have hne : (((s[q]'hqs).toNat : Int) != 0) = false := by rw [hzz]; rfl
            have hne2 : ((s[q]'hqs).toNat != 0) = false := by simp; omega
            clear hzz
            go_wp2_with fail
            go_round
            case rel => exact ⟨q + 1, by omega, by go_num, HG.out⟩
            case measure => simp [intOf]; omega
          · have hzn : (s[q]'hqs).toNat ≠ 0 := fun h => hz (UInt8.toNat_inj.1 (by rw [h]; rfl))
            have HN : Hid (ddec L = none) := by
              show _ = _
              rw [HDE.out, hnq, hst, beq_eq_false_iff_ne.2 hz]
              rfl
            have HNO := Lib.hid (HNOX.out HN.out)
            have hne : (((s[q]'hqs).toNat : Int) != 0) = true := by simpa using hzn
            have hne2 : ((s[q]'hqs).toNat != 0) = true := by simpa using hzn
            clear hz hst hnq hzn
            go_wp2_with fail
            refine bodyPost_ret (v := .tuple #[.agg #[.bool false, .slice none 0 0], .int .i64 40]) (by simp [results, Tryd.results6, go_sem, r0, r1]) rfl (HNO.out wr _ _ (Tch.refl _ _))
        · have hnil : nil0 (L.drop p) = true := by
            rw [hnq, List.drop_eq_nil_of_le (by have := HLEN.out; omega)]; rfl
          have HDF : Hid (ddec L = if fitN false es then some (false, es) else none) := by
            show _ = _
            rw [HDE.out, hnil, Bool.true_and]
          clear hnq hnil
          cases hfit : fitN false es
          · rw [hfit] at HFI HDF
            have HNO := Lib.hid (HNOX.out HDF.out)
            clear hfit
            go_wp2_with fail
            refine HFI.out.mono ?_
            rintro e w2 ⟨rfl, t2⟩
            have r0' := blk_cell (t2.keep HBK.out.2 (by simp)) 0
            have r1' := blk_cell (t2.keep HBK.out.2 (by simp)) 1
            have rf0' := blk_free (t2.keep HBK.out.2 (by simp)) 0
            have rf1' := blk_free (t2.keep HBK.out.2 (by simp)) 1
            simp only [List.getElem?_toArray, List.getElem?_cons_zero, List.getElem?_cons_succ] at r0' r1'
            clear r0 r1 rf0 rf1 p0 p1
            go_wp2_with fail
            refine bodyPost_ret (v := .tuple #[.agg #[.bool false, .slice none 0 0], .int .i64 40]) (by simp [results, Tryd.results6, go_sem, r0', r1']) rfl (HNO.out w2 _ _ t2)
          · rw [hfit] at HFI HDF
            have HYES : Hid (∀ w1 u v, Tch [] wr w1 → DePost w L (.returned (.tuple #[.agg #[.bool false, .slice x es.length c], .int .i64 0])) ((w1.setCell ⟨w.heap.size, 0, none⟩ u).setCell ⟨w.heap.size, 1, none⟩ v)) := fun w1 u v t => by
              have t2 : Tch [w.heap.size] w1 ((w1.setCell ⟨w.heap.size, 0, none⟩ u).setCell ⟨w.heap.size, 1, none⟩ v) := ((Tch.refl _ w1).setCell (by simp) u).setCell (by simp) v
              exact ⟨(HT.out.trans t).transNew t2 (by simp), Or.inr ⟨false, es, x, c, bb, HDF.out, rfl, (HIR.out.1.keep0 t).keep t2 (fun h0 => by have := HIR.out.2.2 h0; simp; omega), fun h0 => by have := HIR.out.2.2 h0; omega, HIR.out.2.1⟩⟩
            clear hfit
            go_wp2_with fail
            refine HFI.out.mono ?_
            rintro e w2 ⟨rfl, t2⟩
            have r0' := blk_cell (t2.keep HBK.out.2 (by simp)) 0
            have r1' := blk_cell (t2.keep HBK.out.2 (by simp)) 1
            have rf0' := blk_free (t2.keep HBK.out.2 (by simp)) 0
            have rf1' := blk_free (t2.keep HBK.out.2 (by simp)) 1
            have p0' := blk_cell (t2.keep HBK.out.1 (by simp)) 0
            have p1' := blk_cell (t2.keep HBK.out.1 (by simp)) 1
            simp only [List.getElem?_toArray, List.getElem?_cons_zero, List.getElem?_cons_succ] at r0' r1' p0' p1'
            clear r0 r1 rf0 rf1 p0 p1
            go_wp2_with fail
            refine bodyPost_ret (v := .tuple #[.agg #[.bool false, .slice x es.length c], .int .i64 0]) (by simp [results, Tryd.results6, go_sem, r0', r1']) rfl (HYES.out w2 _ _ t2)

theorem s0_get (s : ByteArray) (hpos : 0 < s.size) : s.data.toList = (s[0]'hpos) :: s.data.toList.drop 1 := by
  have := List.drop_eq_getElem_cons (l := s.data.toList) (i := 0) (by rw [← Lib.size_eq]; exact hpos)
  rw [List.drop_zero] at this
  exact this
set_option maxRecDepth 100000 in
theorem rdec_empty (s : ByteArray) (w : World) (h : s.size = 0) : Calls Tryd.prog 6 #[.string s] w (DePost w s.data.toList) := by
  have hL : s.data.toList = [] := List.length_eq_zero_iff.1 (by rw [← Lib.size_eq]; exact h)
  have HF : Hid (∀ o, DePost w s.data.toList (.returned (.tuple #[.agg #[.bool false, .slice none 0 0], .int .i64 40])) (w.alloc o)) := fun o => ⟨(Tch.refl _ _).alloc o, Or.inl ⟨by rw [hL]; rfl, rfl⟩⟩
  have e0 : ((s.size : Int) == 0) = true := by simp [h]
  have e0b : (s.size == 0) = true := by simp [h]
  clear hL h
  go_enter Tryd.func6, Tryd.ntmps6
  go_wp2_with fail
  refine bodyPost_ret (v := .tuple #[.agg #[.bool false, .slice none 0 0], .int .i64 40]) (by simp [results, Tryd.results6, go_sem]) rfl (HF.out _)
set_option maxRecDepth 100000 in
theorem rdec_other (s : ByteArray) (w : World) (hpos : 0 < s.size) (h1 : s[0]'hpos ≠ 1) (h2 : s[0]'hpos ≠ 2) : Calls Tryd.prog 6 #[.string s] w (DePost w s.data.toList) := by
  have HF : Hid (∀ o, DePost w s.data.toList (.returned (.tuple #[.agg #[.bool false, .slice none 0 0], .int .i64 40])) (w.alloc o)) := fun o => ⟨(Tch.refl _ _).alloc o, Or.inl ⟨by rw [s0_get s hpos]; unfold ddec; simp only; rw [if_pos ⟨h1, h2⟩], rfl⟩⟩
  have e0 : ((s.size : Int) == 0) = false := beq_eq_false_iff_ne.2 (by omega)
  have e0b : (s.size == 0) = false := beq_eq_false_iff_ne.2 (by omega)
  have n1 : (s[0]'hpos).toNat ≠ 1 := fun h => h1 (UInt8.toNat_inj.1 (by rw [h]; rfl))
  have n2 : (s[0]'hpos).toNat ≠ 2 := fun h => h2 (UInt8.toNat_inj.1 (by rw [h]; rfl))
  have f1 : (((s[0]'hpos).toNat : Int) != 1) = true := by simp; omega
  have f2 : (((s[0]'hpos).toNat : Int) != 2) = true := by simp; omega
  clear h1 h2 n1 n2
  go_enter Tryd.func6, Tryd.ntmps6
  go_wp2_with fail
  refine bodyPost_ret (v := .tuple #[.agg #[.bool false, .slice none 0 0], .int .i64 40]) (by simp [results, Tryd.results6, go_sem]) rfl (HF.out _)
set_option maxRecDepth 100000 in
theorem rdec_count (s : ByteArray) (w : World) (hs : s.size ≤ 100000000) (hpos : 0 < s.size) (h1 : s[0]'hpos = 1 ∨ s[0]'hpos = 2) (c : Int) (v n : Nat) (hr : rdu (s.data.toList.drop 1) 0 0 = (c, v, n)) (hc : c ≠ 0) : Calls Tryd.prog 6 #[.string s] w (DePost w s.data.toList) := by
  have HF : Hid (∀ o o2, DePost w s.data.toList (.returned (.tuple #[.agg #[.bool false, .slice none 0 0], .int .i64 40])) ((w.alloc o).alloc o2)) := fun o o2 => ⟨((Tch.refl _ _).alloc o).alloc o2, Or.inl ⟨by
    rw [s0_get s hpos]; unfold ddec; simp only; rw [if_neg (by rcases h1 with h | h <;> simp [h]), hr]; simp [hc], rfl⟩⟩
  have e0 : ((s.size : Int) == 0) = false := beq_eq_false_iff_ne.2 (by omega)
  have e0b : (s.size == 0) = false := beq_eq_false_iff_ne.2 (by omega)
  have HR0 : Hid (∀ w1, Calls Tryd.prog 14 #[.string s, .int .i64 1] w1 fun e w' => e = .returned (.tuple #[.int .u64 v, .int .i64 0, .int .i64 c]) ∧ w1 = w') := fun w1 => by
    have h := rrdu_at s 1 w1 (by omega)
    unfold rduE at h
    rw [hr] at h
    simp only [if_neg hc] at h
    exact h
  have hne : (c != 0) = true := by simpa using hc
  clear hr hc
  rcases h1 with h1 | h1
  all_goals
    go_enter Tryd.func6, Tryd.ntmps6
    go_wp2_with fail
    refine (HR0.out _).mono ?_
    rintro e w' ⟨rfl, rfl⟩
    go_wp2_with fail
    refine bodyPost_ret (v := .tuple #[.agg #[.bool false, .slice none 0 0], .int .i64 40]) (by simp [results, Tryd.results6, go_sem]) rfl (HF.out _ _)
/-- Decode, of whatever bytes. -/
theorem rdec_any (s : ByteArray) (w : World) (hs : s.size ≤ 100000000) : Calls Tryd.prog 6 #[.string s] w (DePost w s.data.toList) := by
  by_cases h0 : s.size = 0
  · exact rdec_empty s w h0
  have hpos : 0 < s.size := by omega
  by_cases h12 : s[0]'hpos = 1 ∨ s[0]'hpos = 2
  · rcases hr : rdu (s.data.toList.drop 1) 0 0 with ⟨c, v, n⟩
    by_cases hc : c = 0
    · subst hc
      rcases h12 with h | h
      · exact rdec_leaf s _ v n w hs (by rw [s0_get s hpos, h]; rfl) hr
      · exact rdec_kids s _ v n w hs (by rw [s0_get s hpos, h]; rfl) hr
    · exact rdec_count s w hs hpos h12 c v n hr hc
  · exact rdec_other s w hpos (fun h => h12 (Or.inl h)) (fun h => h12 (Or.inr h))
end Go.Proofs.YtlgfdfpafmopdaaDoor
