/-
  'Of' of the document's nodes: the node of these lists. Condition: the keys are within the reach of memory.
-/
import Derived.Test.YtlgfdfpafmopdaaTxt
import Derived.Test.YtlgfdfpafmopdaaRow
import Derived.Outline
namespace Go.Proofs.Ytlgfdfpafmopdaa
open Go.RowKit
set_option linter.unusedVariables false

def fEn (e : En) : List Value := [.string e.key, .string e.val, .int .i64 e.kid]
theorem fEn_len (e : En) : (fEn e).length = 3 := rfl
theorem fEn_one (e : En) : ∀ u ∈ fEn e, u.oneCell' = true := by
  intro u hu; simp only [fEn, List.mem_cons, List.not_mem_nil, or_false] at hu; rcases hu with rfl | rfl | rfl <;> rfl
theorem Try.info_en : (Try.prog.info? 68).map (fun i => (i.zero, i.size, i.bytes)) = some (some (.agg #[.string ⟨#[]⟩, .string ⟨#[]⟩, .int .i64 0]), 3, 40) := by kernel_rfl
theorem cells_en (w : World) (e : En) (t : TypeId) (j : Nat) (x : Value) (h : (fEn e)[j]? = some x) : (w.alloc (.cells #[.string e.key, .string e.val, .int .i64 e.kid] t)).cell? ((⟨w.heap.size, 0, none⟩ : Addr).add j) = some x := by
  rw [add_mk, blk_cell (blk_new w _), Nat.zero_add]; simpa [fEn] using h

/-- What holds at the head of each round. -/
def OfRel (w : World) (rb : Nat) (leaf : Bool) (es : List En) (v10 : Value) (wr : World) : Prop :=
  ∃ (k : Nat) (x : Option Addr) (c : Nat), k ≤ es.length ∧ v10 = .int .i64 k ∧ wr.heap[rb + 1]? = some (.cells #[.bool leaf, .slice x k c] 32 (0, 0)) ∧ wr.ownsRow (rb + 1 + 1) 68 3 (.slice x k c) k ((es.take k).flatMap fEn) ∧ Tch [] w wr ∧ wr.heap[rb]? = some (.cells #[.bool false, .slice none 0 0] 32 (0, 0))
theorem OfRel.next {w wr w2 : World} {rb : Nat} {leaf : Bool} {es : List En} {k : Nat} {x : Option Addr} {c : Nat} (hn : w.heap.size ≤ rb) (hk : k < es.length) (hb : wr.heap[rb + 1]? = some (.cells #[.bool leaf, .slice x k c] 32 (0, 0))) (hr : wr.heap[rb]? = some (.cells #[.bool false, .slice none 0 0] 32 (0, 0)))
    (T : Tch [] w wr) {v' : Value} (hown2 : w2.ownsRow (rb + 1 + 1) 68 3 v' (k + 1) ((es.take (k + 1)).flatMap fEn)) (hrow : ∀ b, (Value.slice x k c).ownBlock = some b → rb + 1 + 1 ≤ b) (hgrow : ∀ b, b < wr.heap.size → (some b ≠ (Value.slice x k c).ownBlock) → w2.heap[b]? = wr.heap[b]?) (hsz : wr.heap.size ≤ w2.heap.size) (hmeta : w2.os = wr.os ∧ w2.tape = wr.tape ∧ w2.output = wr.output) :
    w2.heap[rb + 1]? = some (.cells #[.bool leaf, .slice x k c] 32 (0, 0)) ∧ OfRel w rb leaf es (.int .i64 ((k + 1 : Nat) : Int)) (w2.setCell ⟨rb + 1, 1, none⟩ v') := by
  have hlt := lt_of_block hb
  have hb2 : w2.heap[rb + 1]? = some (.cells #[.bool leaf, .slice x k c] 32 (0, 0)) := by
    rw [hgrow (rb + 1) hlt (fun e => by have := hrow (rb + 1) e.symm; omega)]; exact hb
  have hr2 : w2.heap[rb]? = some (.cells #[.bool false, .slice none 0 0] 32 (0, 0)) := by
    rw [hgrow rb (by omega) (fun e => by have := hrow rb e.symm; omega)]; exact hr
  obtain ⟨x2, c2, rfl⟩ := own_slice hown2
  have t2 : Tch [] w w2 := ⟨hmeta.1.trans T.os, hmeta.2.1.trans T.tape, hmeta.2.2.trans T.output, Nat.le_trans T.size hsz, fun b h1 h2 => (hgrow b (Nat.lt_of_lt_of_le h1 T.size) (fun e => by have := hrow b e.symm; omega)).trans (T.block b h1 h2)⟩
  refine ⟨hb2, k + 1, x2, c2, by omega, rfl, blk_set hb2 1 _, ?_, t2.setNew (by simp; omega) _, blk_other hr2 (by omega) _ _⟩
  refine own_keep hown2 ((Tch.refl [rb + 1] w2).setCell (p := ⟨rb + 1, 1, none⟩) (by simp) _) (fun b hb => ?_)
  have := (hown2.lt b hb).1
  simp; omega

theorem grow_parts {w w2 : World} {row : Option Nat} (h : w.grownBy w2 row) : (∀ b, b < w.heap.size → some b ≠ row → w2.heap[b]? = w.heap[b]?) ∧ w.heap.size ≤ w2.heap.size ∧ w2.os = w.os ∧ w2.tape = w.tape ∧ w2.output = w.output :=
  ⟨fun b h1 h2 => h.block b h1 h2, h.size, h.os, h.tape, h.output⟩

/-- What Of answers. -/
def OfPost (w : World) (leaf : Bool) (es : List En) (e : Ending) (w' : World) : Prop :=
  ∃ x c b, e = .returned (.agg #[.bool leaf, .slice x es.length c]) ∧ IsR fEn 3 w' x es.length b 0 es ∧ (0 < es.length → w.heap.size ≤ b) ∧ es.length ≤ c ∧ Tch [] w w'

set_option maxRecDepth 100000 in
set_option maxHeartbeats 2000000 in
theorem of_any (leaf : Bool) (ka va ia : Option Addr) (kn kc kb ko vn vc vb vo im ic ib io : Nat) (keys vals : List ByteArray) (kids : List Int) (w : World) (hk : IsR fStr 1 w ka kn kb ko keys) (hv : IsR fStr 1 w va vn vb vo vals) (hi : IsR fInt 1 w ia im ib io kids)
    (h1 : kn ≤ 1000000000) (h2 : vn ≤ 9223372036854775807) (h3 : im ≤ 9223372036854775807) :
    Calls Try.prog 19 #[.bool leaf, .slice ka kn kc, .slice va vn vc, .slice ia im ic] w (OfPost w leaf (mkN leaf keys vals kids)) := by
  obtain rfl := hk.hlen
  obtain rfl := hv.hlen
  obtain rfl := hi.hlen
  have HK : Hid (∀ wr, Tch [] w wr → IsR fStr 1 wr ka keys.length kb ko keys) := fun wr t => hk.keep0 t
  have HV : Hid (∀ wr, Tch [] w wr → IsR fStr 1 wr va vals.length vb vo vals) := fun wr t => hv.keep0 t
  have HI : Hid (∀ wr, Tch [] w wr → IsR fInt 1 wr ia kids.length ib io kids) := fun wr t => hi.keep0 t
  have HG : Hid (∀ (k : Nat) key, keys[k]? = some key → (mkN leaf keys vals kids)[k]? = some (mkE leaf keys vals kids k key)) := mkN_get leaf keys vals kids
  have HM := Lib.hid (mkN_len leaf keys vals kids)
  obtain ⟨es, hes⟩ : ∃ es, mkN leaf keys vals kids = es := ⟨_, rfl⟩
  rw [hes] at HG HM ⊢
  obtain ⟨i0, hi0, hz0, hz1, hz2⟩ := info_parts Try.info_en
  clear hk hv hi hes
  go_enter Try.func19, Try.ntmps19
  go_wp2_with fail
  go_loopw [10] (fun v10 wr => OfRel w w.heap.size leaf es v10 wr) (fun v10 _ => keys.length - (intOf v10).toNat)
  case atStart => exact ⟨0, none, 0, by omega, rfl, by rw [show w.heap.size + 1 = (w.alloc (.cells #[.bool false, .slice none 0 0] 32)).heap.size from by simp]; exact blk_new _ _, World.ownsRow_nil _ _ _ _, ((Tch.refl _ _).alloc _).alloc _, (blk_alloc (blk_new w _) _)⟩
  case round =>
    obtain ⟨k, x, c, hk, rfl, hb, hown, T, hrb⟩ := hrel
    have hsz := T.size
    have p0 := blk_cell hb 0
    have p1 := blk_cell hb 1
    simp only [List.getElem?_toArray, List.getElem?_cons_zero, List.getElem?_cons_succ] at p0 p1
    have hnlt := lt_of_block hb
    by_cases hkl : k < keys.length
    · have hget := List.getElem?_eq_getElem hkl
      have x0 := (HK.out wr T).one hget rfl
      have hka := (HK.out wr T).some_ (by omega)
      have hge := HG.out k _ hget
      generalize keys[k] = key at x0 hge
      subst hka
      have HOW := Lib.hid hown
      have HSZ := Lib.hid hsz
      have hrow : ∀ b, (Value.slice x k c).ownBlock = some b → w.heap.size + 1 + 1 ≤ b := fun b hb => (hown.lt b hb).1
      have HNX : Hid (∀ (wa w2 : World) (v' : Value), Tch [] wr wa → w2.ownsRow (w.heap.size + 1 + 1) 68 3 v' (k + 1) ((es.take (k + 1)).flatMap fEn) → (∀ b, b < wa.heap.size → some b ≠ (Value.slice x k c).ownBlock → w2.heap[b]? = wa.heap[b]?) → wa.heap.size ≤ w2.heap.size → (w2.os = wa.os ∧ w2.tape = wa.tape ∧ w2.output = wa.output) →
          w2.heap[w.heap.size + 1]? = some (.cells #[.bool leaf, .slice x k c] 32 (0, 0)) ∧ OfRel w w.heap.size leaf es (.int .i64 ((k + 1 : Nat) : Int)) (w2.setCell ⟨w.heap.size + 1, 1, none⟩ v')) :=
        fun wa w2 v' ta h1 h2 h3 h4 => OfRel.next (Nat.le_refl _) (by rw [HM.out]; exact hkl) (ta.keep hb (by simp)) (ta.keep hrb (by simp)) (T.trans ta) h1 hrow h2 h3 h4
      have hhm := HM.out
      clear hown hget hb hrow hrb
      cases leaf
      · by_cases hil : k < kids.length
        · have hgi := List.getElem?_eq_getElem hil
          have z0 := (HI.out wr T).one hgi rfl
          have hia := (HI.out wr T).some_ (by omega)
          have zl := (HI.out wr T).lt (by omega)
          rw [show mkE false keys vals kids k key = ⟨key, ⟨#[]⟩, kids[k]⟩ from by simp [mkE, List.getD_eq_getElem?_getD, hgi]] at hge
          generalize kids[k] = z at z0 hge
          subst hia
          have HS := Lib.hid (fm_snoc (f := fEn) es k _ hge)
          clear hgi hge hhm T hsz
          go_wp2_with (at_builtin; refine wpList_append_own _ rfl _ _ 30 rfl (w.heap.size + 1 + 1) 68 i0 (.agg #[.string ⟨#[]⟩, .string ⟨#[]⟩, .int .i64 0]) 3 40 Try.underlying30 hi0 hz0 hz1 hz2 rfl (by decide) _ _ _ rfl ((HOW.out.alloc (.cells #[.string key, .string ⟨#[]⟩, .int .i64 z] 68)).alloc (.cells #[.string key, .string ⟨#[]⟩, .int .i64 z] 68)) ⟨wr.heap.size + 1, 0, none⟩ 1 1 (fEn ⟨key, ⟨#[]⟩, z⟩) rfl rfl (fun j u hu => by have := cells_en (wr.alloc (.cells #[.string key, .string ⟨#[]⟩, .int .i64 z] 68)) ⟨key, ⟨#[]⟩, z⟩ 68 j u hu; simpa using this) (fEn_one _) ?c3 ?c4 ?c5 ?_)
          case c3 => unfold maxLen; omega
          case c4 => omega
          case c5 => have := HSZ.out; simp; omega
          intro v' w2 hown2 hgrow _
          rw [← HS.out] at hown2
          obtain ⟨x2, c2, rfl⟩ := own_slice hown2
          obtain ⟨g1, g2, g3, g4, g5⟩ := grow_parts hgrow
          obtain ⟨hb2, hrel2⟩ := HNX.out ((wr.alloc (.cells #[.string key, .string ⟨#[]⟩, .int .i64 z] 68)).alloc (.cells #[.string key, .string ⟨#[]⟩, .int .i64 z] 68)) w2 _ (((Tch.refl [] wr).alloc _).alloc _) hown2 g1 g2 ⟨g3, g4, g5⟩
          have HREL := Lib.hid hrel2
          have q0 := blk_cell hb2 0
          have q1 := blk_cell hb2 1
          simp only [List.getElem?_toArray, List.getElem?_cons_zero, List.getElem?_cons_succ] at q0 q1
          have q2 := blk_free hb2 1
          have q3 := lt_of_block hb2
          clear hown2 hgrow HOW g1 g2 g3 g4 g5 hb2 hrel2 HNX
          go_wp2
          go_roundw
          case rel => exact HREL.out
          case measure => simp [intOf]; omega
        · rw [show mkE false keys vals kids k key = ⟨key, ⟨#[]⟩, 0⟩ from by simp [mkE, List.getD_eq_getElem?_getD, List.getElem?_eq_none (Nat.le_of_not_lt hil)]] at hge
          have hid : decide (k < kids.length) = false := by simpa using hil
          have HS := Lib.hid (fm_snoc (f := fEn) es k _ hge)
          clear hge hhm T hsz hil
          go_wp2_with (at_builtin; refine wpList_append_own _ rfl _ _ 30 rfl (w.heap.size + 1 + 1) 68 i0 (.agg #[.string ⟨#[]⟩, .string ⟨#[]⟩, .int .i64 0]) 3 40 Try.underlying30 hi0 hz0 hz1 hz2 rfl (by decide) _ _ _ rfl ((HOW.out.alloc (.cells #[.string key, .string ⟨#[]⟩, .int .i64 0] 68)).alloc (.cells #[.string key, .string ⟨#[]⟩, .int .i64 0] 68)) ⟨wr.heap.size + 1, 0, none⟩ 1 1 (fEn ⟨key, ⟨#[]⟩, 0⟩) rfl rfl (fun j u hu => by have := cells_en (wr.alloc (.cells #[.string key, .string ⟨#[]⟩, .int .i64 0] 68)) ⟨key, ⟨#[]⟩, 0⟩ 68 j u hu; simpa using this) (fEn_one _) ?c3 ?c4 ?c5 ?_)
          case c3 => unfold maxLen; omega
          case c4 => omega
          case c5 => have := HSZ.out; simp; omega
          intro v' w2 hown2 hgrow _
          rw [← HS.out] at hown2
          obtain ⟨x2, c2, rfl⟩ := own_slice hown2
          obtain ⟨g1, g2, g3, g4, g5⟩ := grow_parts hgrow
          obtain ⟨hb2, hrel2⟩ := HNX.out ((wr.alloc (.cells #[.string key, .string ⟨#[]⟩, .int .i64 0] 68)).alloc (.cells #[.string key, .string ⟨#[]⟩, .int .i64 0] 68)) w2 _ (((Tch.refl [] wr).alloc _).alloc _) hown2 g1 g2 ⟨g3, g4, g5⟩
          have HREL := Lib.hid hrel2
          have q0 := blk_cell hb2 0
          have q1 := blk_cell hb2 1
          simp only [List.getElem?_toArray, List.getElem?_cons_zero, List.getElem?_cons_succ] at q0 q1
          have q2 := blk_free hb2 1
          have q3 := lt_of_block hb2
          clear hown2 hgrow HOW g1 g2 g3 g4 g5 hb2 hrel2 HNX
          go_wp2
          go_roundw
          case rel => exact HREL.out
          case measure => simp [intOf]; omega
      · by_cases hvl : k < vals.length
        · have hgi := List.getElem?_eq_getElem hvl
          have z0 := (HV.out wr T).one hgi rfl
          have hva := (HV.out wr T).some_ (by omega)
          have zl := (HV.out wr T).lt (by omega)
          rw [show mkE true keys vals kids k key = ⟨key, vals[k], 0⟩ from by simp [mkE, List.getD_eq_getElem?_getD, hgi]] at hge
          generalize vals[k] = y at z0 hge
          subst hva
          have HS := Lib.hid (fm_snoc (f := fEn) es k _ hge)
          clear hgi hge hhm T hsz
          go_wp2_with (at_builtin; refine wpList_append_own _ rfl _ _ 30 rfl (w.heap.size + 1 + 1) 68 i0 (.agg #[.string ⟨#[]⟩, .string ⟨#[]⟩, .int .i64 0]) 3 40 Try.underlying30 hi0 hz0 hz1 hz2 rfl (by decide) _ _ _ rfl ((HOW.out.alloc (.cells #[.string key, .string y, .int .i64 0] 68)).alloc (.cells #[.string key, .string y, .int .i64 0] 68)) ⟨wr.heap.size + 1, 0, none⟩ 1 1 (fEn ⟨key, y, 0⟩) rfl rfl (fun j u hu => by have := cells_en (wr.alloc (.cells #[.string key, .string y, .int .i64 0] 68)) ⟨key, y, 0⟩ 68 j u hu; simpa using this) (fEn_one _) ?c3 ?c4 ?c5 ?_)
          case c3 => unfold maxLen; omega
          case c4 => omega
          case c5 => have := HSZ.out; simp; omega
          intro v' w2 hown2 hgrow _
          rw [← HS.out] at hown2
          obtain ⟨x2, c2, rfl⟩ := own_slice hown2
          obtain ⟨g1, g2, g3, g4, g5⟩ := grow_parts hgrow
          obtain ⟨hb2, hrel2⟩ := HNX.out ((wr.alloc (.cells #[.string key, .string y, .int .i64 0] 68)).alloc (.cells #[.string key, .string y, .int .i64 0] 68)) w2 _ (((Tch.refl [] wr).alloc _).alloc _) hown2 g1 g2 ⟨g3, g4, g5⟩
          have HREL := Lib.hid hrel2
          have q0 := blk_cell hb2 0
          have q1 := blk_cell hb2 1
          simp only [List.getElem?_toArray, List.getElem?_cons_zero, List.getElem?_cons_succ] at q0 q1
          have q2 := blk_free hb2 1
          have q3 := lt_of_block hb2
          clear hown2 hgrow HOW g1 g2 g3 g4 g5 hb2 hrel2 HNX
          go_wp2
          go_roundw
          case rel => exact HREL.out
          case measure => simp [intOf]; omega
        · rw [show mkE true keys vals kids k key = ⟨key, ⟨#[]⟩, 0⟩ from by simp [mkE, List.getD_eq_getElem?_getD, List.getElem?_eq_none (Nat.le_of_not_lt hvl)]] at hge
          have hid : decide (k < vals.length) = false := by simpa using hvl
          have HS := Lib.hid (fm_snoc (f := fEn) es k _ hge)
          clear hge hhm T hsz hvl
          go_wp2_with (at_builtin; refine wpList_append_own _ rfl _ _ 30 rfl (w.heap.size + 1 + 1) 68 i0 (.agg #[.string ⟨#[]⟩, .string ⟨#[]⟩, .int .i64 0]) 3 40 Try.underlying30 hi0 hz0 hz1 hz2 rfl (by decide) _ _ _ rfl ((HOW.out.alloc (.cells #[.string key, .string ⟨#[]⟩, .int .i64 0] 68)).alloc (.cells #[.string key, .string ⟨#[]⟩, .int .i64 0] 68)) ⟨wr.heap.size + 1, 0, none⟩ 1 1 (fEn ⟨key, ⟨#[]⟩, 0⟩) rfl rfl (fun j u hu => by have := cells_en (wr.alloc (.cells #[.string key, .string ⟨#[]⟩, .int .i64 0] 68)) ⟨key, ⟨#[]⟩, 0⟩ 68 j u hu; simpa using this) (fEn_one _) ?c3 ?c4 ?c5 ?_)
          case c3 => unfold maxLen; omega
          case c4 => omega
          case c5 => have := HSZ.out; simp; omega
          intro v' w2 hown2 hgrow _
          rw [← HS.out] at hown2
          obtain ⟨x2, c2, rfl⟩ := own_slice hown2
          obtain ⟨g1, g2, g3, g4, g5⟩ := grow_parts hgrow
          obtain ⟨hb2, hrel2⟩ := HNX.out ((wr.alloc (.cells #[.string key, .string ⟨#[]⟩, .int .i64 0] 68)).alloc (.cells #[.string key, .string ⟨#[]⟩, .int .i64 0] 68)) w2 _ (((Tch.refl [] wr).alloc _).alloc _) hown2 g1 g2 ⟨g3, g4, g5⟩
          have HREL := Lib.hid hrel2
          have q0 := blk_cell hb2 0
          have q1 := blk_cell hb2 1
          simp only [List.getElem?_toArray, List.getElem?_cons_zero, List.getElem?_cons_succ] at q0 q1
          have q2 := blk_free hb2 1
          have q3 := lt_of_block hb2
          clear hown2 hgrow HOW g1 g2 g3 g4 g5 hb2 hrel2 HNX
          go_wp2
          go_roundw
          case rel => exact HREL.out
          case measure => simp [intOf]; omega
    · obtain rfl : k = keys.length := by rw [HM.out] at hk; omega
      have HF : Hid (∀ w', Tch [] wr w' ∨ (∃ w1 u v, Tch [] wr w1 ∧ w' = (w1.setCell ⟨w.heap.size, 0, none⟩ u).setCell ⟨w.heap.size, 1, none⟩ v) → OfPost w leaf es (.returned (.agg #[.bool leaf, .slice x keys.length c])) w') := fun w' ht' => by
        have hh := HM.out
        rw [show es.take keys.length = es from by rw [← hh, List.take_length]] at hown
        have hcap := own_cap hown
        obtain ⟨b, h1, h2, h3⟩ := IsR.own fEn_len hown hh.symm
        rw [← hh] at h1 h3 hcap ⊢
        rcases ht' with t' | ⟨w1, u, v, t', rfl⟩
        · exact ⟨x, c, b, rfl, h1.keep t' (fun _ => by simp), fun h0 => by have := h3 h0; omega, hcap, T.trans t'⟩
        · have t2 : Tch [w.heap.size] w1 ((w1.setCell ⟨w.heap.size, 0, none⟩ u).setCell ⟨w.heap.size, 1, none⟩ v) := ((Tch.refl _ _).setCell (by simp) _).setCell (by simp) _
          exact ⟨x, c, b, rfl, (h1.keep t' (fun _ => by simp)).keep t2 (fun h0 => by have := h3 h0; simp; omega), fun h0 => by have := h3 h0; omega, hcap, (T.trans t').transNew t2 (by simp)⟩
      have r0 := blk_cell hrb 0
      have r1 := blk_cell hrb 1
      simp only [List.getElem?_toArray, List.getElem?_cons_zero, List.getElem?_cons_succ] at r0 r1
      have r2 := blk_free hrb 0
      have r3 := blk_free hrb 1
      clear hb hown hrb T
      go_wp2
      refine bodyPost_ret (v := .agg #[.bool leaf, .slice x keys.length c]) (by simp [results, Try.results19, go_sem, r0, r1]) rfl (HF.out _ (Or.inr ⟨wr, _, _, Tch.refl _ _, rfl⟩))
end Go.Proofs.Ytlgfdfpafmopdaa
