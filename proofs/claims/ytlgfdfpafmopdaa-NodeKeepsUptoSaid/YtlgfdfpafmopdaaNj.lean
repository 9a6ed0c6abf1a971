/-
  'Join' of the document's nodes: the entries of the one and those of the other behind them. Condition: together there are fewer than 10^9 entries.
-/
import Derived.Test.YtlgfdfpafmopdaaNf
import Derived.Deep.RegionLaw
namespace Go.Proofs.Ytlgfdfpafmopdaa
open Go.RowKit
set_option linter.unusedVariables false

/-- 'append' to a row of the call's own, at a step of a region that draws its order. -/
theorem step_append_own {P : Program} {ops : Array Oper} {oo : Oper} {ac : Act} {w : World} {K : Act → World → Prop} {Q : Exit → Act → World → Prop} {E : Prop} (hgd : oo.guard = none) (s x : Operand) (t : TypeId)
    (ho : oo.op = .call { callee := .builtin .append, args := #[s, x], argTypes := #[t, t] })
    (base : Nat) (e : TypeId) (i : TypeInfo) (z : Value) (size bytes : Nat) (ht : P.underlying t = some (.slice e)) (hi : P.info? e = some i) (hz : i.zero = some z)
    (hsize : i.size = size) (hby : i.bytes = bytes) (hzs : z.cells.size = size) (hsz : 0 < size)
    (v : Value) (n : Nat) (xs : List Value) (hs : ac.eval s = v) (hown : w.ownsRow base e size v n xs)
    (ad : Addr) (m c : Nat) (news : List Value) (hx : ac.eval x = .slice (some ad) m c) (hl : news.length = m * size) (hnews : ∀ j u, news[j]? = some u → w.cell? (ad.add j) = some u) (h1 : ∀ u ∈ news, u.oneCell' = true)
    (h63 : n + m ≤ maxLen) (hbytes : (n + m) * bytes ≤ 140737488355328) (hbase : base ≤ w.heap.size)
    (h : ∀ v' w', w'.ownsRow base e size v' (n + m) (xs ++ news) → w.grownBy w' v.ownBlock → K (ac.put oo.dst v') w') :
    if Region.wanted oo (yielded ops ac.tmps) = true then Oper.wp P oo ac w K Q else E := by
  have hw : Region.wanted oo (yielded ops ac.tmps) = true := by simp [Region.wanted, hgd]
  rw [if_pos hw]
  exact wp_append_own w s x t ho base e i z size bytes ht hi hz hsize hby hzs hsz v n xs hs hown ad m c news hx hl hnews h1 h63 hbytes hbase fun v' w' h2 h3 _ => h v' w' h2 h3

/-- A node of the call's own in block nb, with the entries xs so far; nothing else that stands in W has turned. -/
def JoRel (W : World) (nb : Nat) (leaf : Bool) (xs : List En) (x : Option Addr) (c : Nat) (wr : World) : Prop :=
  wr.heap[nb]? = some (.cells #[.bool leaf, .slice x xs.length c] 32 (0, 0)) ∧ wr.ownsRow (nb + 1) 68 3 (.slice x xs.length c) xs.length (xs.flatMap fEn) ∧ Tch [nb] W wr
theorem JoRel.next {W wr wa w2 : World} {nb : Nat} {leaf : Bool} {xs : List En} {x : Option Addr} {c : Nat} (h : JoRel W nb leaf xs x c wr) (hW : W.heap.size ≤ nb + 1) (ta : Tch [] wr wa) (e : En) {v' : Value} (hown2 : w2.ownsRow (nb + 1) 68 3 v' (xs.length + 1) (xs.flatMap fEn ++ fEn e)) (hg : wa.grownBy w2 (Value.slice x xs.length c).ownBlock) :
    w2.heap[nb]? = some (.cells #[.bool leaf, .slice x xs.length c] 32 (0, 0)) ∧ ∃ x2 c2, v' = .slice x2 (xs.length + 1) c2 ∧ JoRel W nb leaf (xs ++ [e]) x2 c2 (w2.setCell ⟨nb, 1, none⟩ v') := by
  obtain ⟨hb, hown, T⟩ := h
  have hlt := lt_of_block hb
  have hrow : ∀ b, (Value.slice x xs.length c).ownBlock = some b → nb + 1 ≤ b := fun b hb => (hown.lt b hb).1
  obtain ⟨hgrow, hsz, g3, g4, g5⟩ := grow_parts hg
  have hszr := ta.size
  have hb2 : w2.heap[nb]? = some (.cells #[.bool leaf, .slice x xs.length c] 32 (0, 0)) := by
    rw [hgrow nb (by omega) (fun e => by have := hrow nb e.symm; omega)]; exact ta.keep hb (by simp)
  obtain ⟨x2, c2, rfl⟩ := own_slice hown2
  have T1 := T.trans (ta.mono (L' := [nb]) (by simp))
  have t2 : Tch [nb] W w2 := ⟨g3.trans T1.os, g4.trans T1.tape, g5.trans T1.output, Nat.le_trans T1.size hsz, fun b h1 h2 => (hgrow b (Nat.lt_of_lt_of_le h1 T1.size) (fun e => by have := hrow b e.symm; omega)).trans (T1.block b h1 h2)⟩
  have hlen : (xs ++ [e]).length = xs.length + 1 := by simp
  refine ⟨hb2, x2, c2, rfl, ?_, ?_, t2.setCell (by simp) _⟩
  · rw [hlen]; exact blk_set hb2 1 _
  · rw [hlen, List.flatMap_append]
    have h0 : [e].flatMap fEn = fEn e := by simp
    rw [h0]
    refine own_keep hown2 ((Tch.refl [nb] w2).setCell (p := ⟨nb, 1, none⟩) (by simp) _) (fun b hb => ?_)
    have := (hown2.lt b hb).1
    simp; omega

set_option maxRecDepth 100000 in
set_option maxHeartbeats 2000000 in
theorem rjoin_any (leaf leaf2 : Bool) (a : Option Addr) (n c b o : Nat) (es : List En) (a2 : Option Addr) (n2 c2 b2 o2 : Nat) (fs : List En) (w : World) (h : IsR fEn 3 w a n b o es) (h2 : IsR fEn 3 w a2 n2 b2 o2 fs) (hn : es.length + fs.length ≤ 1000000000) :
    Calls Try.prog 21 #[.agg #[.bool leaf, .slice a n c], .agg #[.bool leaf2, .slice a2 n2 c2]] w (OfPost w leaf (es ++ fs)) := by
  obtain rfl := h.hlen
  obtain rfl := h2.hlen
  obtain ⟨i0, hi0, hz0, hz1, hz2⟩ := info_parts Try.info_en
  have T0 : Tch [] w ((((w.alloc (.cells #[.bool leaf, .slice a es.length c] 32)).alloc (.cells #[.bool leaf2, .slice a2 fs.length c2] 32)).alloc (.cells #[.bool false, .slice none 0 0] 32)).alloc (.cells #[.bool leaf, .slice none 0 0] 32)) := ((((Tch.refl _ _).alloc _).alloc _).alloc _).alloc _
  have hbk : ((((w.alloc (.cells #[.bool leaf, .slice a es.length c] 32)).alloc (.cells #[.bool leaf2, .slice a2 fs.length c2] 32)).alloc (.cells #[.bool false, .slice none 0 0] 32)).alloc (.cells #[.bool leaf, .slice none 0 0] 32)).heap[w.heap.size]? = some (.cells #[.bool leaf, .slice a es.length c] 32 (0, 0)) ∧
      ((((w.alloc (.cells #[.bool leaf, .slice a es.length c] 32)).alloc (.cells #[.bool leaf2, .slice a2 fs.length c2] 32)).alloc (.cells #[.bool false, .slice none 0 0] 32)).alloc (.cells #[.bool leaf, .slice none 0 0] 32)).heap[w.heap.size + 1]? = some (.cells #[.bool leaf2, .slice a2 fs.length c2] 32 (0, 0)) ∧
      ((((w.alloc (.cells #[.bool leaf, .slice a es.length c] 32)).alloc (.cells #[.bool leaf2, .slice a2 fs.length c2] 32)).alloc (.cells #[.bool false, .slice none 0 0] 32)).alloc (.cells #[.bool leaf, .slice none 0 0] 32)).heap[w.heap.size + 1 + 1]? = some (.cells #[.bool false, .slice none 0 0] 32 (0, 0)) ∧
      ((((w.alloc (.cells #[.bool leaf, .slice a es.length c] 32)).alloc (.cells #[.bool leaf2, .slice a2 fs.length c2] 32)).alloc (.cells #[.bool false, .slice none 0 0] 32)).alloc (.cells #[.bool leaf, .slice none 0 0] 32)).heap[w.heap.size + 1 + 1 + 1]? = some (.cells #[.bool leaf, .slice none 0 0] 32 (0, 0)) ∧
      ((((w.alloc (.cells #[.bool leaf, .slice a es.length c] 32)).alloc (.cells #[.bool leaf2, .slice a2 fs.length c2] 32)).alloc (.cells #[.bool false, .slice none 0 0] 32)).alloc (.cells #[.bool leaf, .slice none 0 0] 32)).heap.size = w.heap.size + 1 + 1 + 1 + 1 := by
    refine ⟨?_, ?_, ?_, ?_, by simp⟩
    · exact blk_alloc (blk_alloc (blk_alloc (blk_new _ _) _) _) _
    · rw [show w.heap.size + 1 = (w.alloc (.cells #[.bool leaf, .slice a es.length c] 32)).heap.size from by simp]; exact blk_alloc (blk_alloc (blk_new _ _) _) _
    · rw [show w.heap.size + 1 + 1 = ((w.alloc (.cells #[.bool leaf, .slice a es.length c] 32)).alloc (.cells #[.bool leaf2, .slice a2 fs.length c2] 32)).heap.size from by simp]; exact blk_alloc (blk_new _ _) _
    · rw [show w.heap.size + 1 + 1 + 1 = (((w.alloc (.cells #[.bool leaf, .slice a es.length c] 32)).alloc (.cells #[.bool leaf2, .slice a2 fs.length c2] 32)).alloc (.cells #[.bool false, .slice none 0 0] 32)).heap.size from by simp]; exact blk_new _ _
  go_enter Try.func21, Try.ntmps21
  go_wp2_with fail
  obtain ⟨nb, hnb⟩ : ∃ nb, nb = w.heap.size + 1 + 1 + 1 := ⟨_, rfl⟩
  rw [← hnb] at hbk ⊢
  generalize (((w.alloc (.cells #[.bool leaf, .slice a es.length c] 32)).alloc (.cells #[.bool leaf2, .slice a2 fs.length c2] 32)).alloc (.cells #[.bool false, .slice none 0 0] 32)).alloc (.cells #[.bool leaf, .slice none 0 0] 32) = W1 at T0 hbk ⊢
  have HBX : Hid (∀ wr, Tch [nb] W1 wr → wr.heap[w.heap.size]? = some (.cells #[.bool leaf, .slice a es.length c] 32 (0, 0)) ∧ wr.heap[w.heap.size + 1]? = some (.cells #[.bool leaf2, .slice a2 fs.length c2] 32 (0, 0)) ∧ wr.heap[w.heap.size + 1 + 1]? = some (.cells #[.bool false, .slice none 0 0] 32 (0, 0))) := fun wr t =>
    ⟨t.keep hbk.1 (by simp; omega), t.keep hbk.2.1 (by simp; omega), t.keep hbk.2.2.1 (by simp; omega)⟩
  have HA : Hid (∀ wr, Tch [nb] W1 wr → IsR fEn 3 wr a es.length b o es) := fun wr t => (h.keep0 T0).keep t (fun h0 => by have := h.lt h0; simp; omega)
  have HB : Hid (∀ wr, Tch [nb] W1 wr → IsR fEn 3 wr a2 fs.length b2 o2 fs) := fun wr t => (h2.keep0 T0).keep t (fun h0 => by have := h2.lt h0; simp; omega)
  have HNB : Hid (W1.heap.size ≤ nb + 1 ∧ es.length + fs.length + 1 ≤ 1000000001 ∧ W1.heap.size = nb + 1 ∧ nb = w.heap.size + 1 + 1 + 1) := by show _ ∧ _; omega
  have HST : Hid (JoRel W1 nb leaf [] none 0 W1) := ⟨hbk.2.2.2.1, World.ownsRow_nil _ _ _ _, Tch.refl _ _⟩
  clear h h2 hbk hnb hn
  go_loopw [6] (fun v6 wr => ∃ (k : Nat) (x : Option Addr) (cx : Nat), k ≤ es.length ∧ v6 = .int .i64 k ∧ JoRel W1 nb leaf (es.take k) x cx wr) (fun v6 _ => es.length - (intOf v6).toNat)
  case atStart => exact ⟨0, none, 0, by omega, rfl, by rw [List.take_zero]; exact HST.out⟩
  case round =>
    obtain ⟨k, x, cx, hk, rfl, hjo⟩ := hrel
    obtain ⟨hb, hown, T⟩ := hjo
    have hbx := HBX.out wr T
    have s0 := blk_cell hbx.1 1
    have p1 := blk_cell hb 1
    have pf := blk_free hb 1
    have hlt := lt_of_block hb
    simp only [List.getElem?_toArray, List.getElem?_cons_zero, List.getElem?_cons_succ] at s0 p1
    by_cases hkl : k < es.length
    · have hget := List.getElem?_eq_getElem hkl
      have hr := HA.out wr T
      have y0 : wr.cell? ⟨b, o + k * 3, none⟩ = some (.string es[k].key) := hr.c0 hget rfl
      have y1 : wr.cell? ⟨b, o + k * 3 + 1, none⟩ = some (.string es[k].val) := hr.c hget 1 rfl
      have y2 : wr.cell? ⟨b, o + k * 3 + 2, none⟩ = some (.int .i64 es[k].kid) := hr.c hget 2 rfl
      have ha := hr.some_ (by omega)
      have hbl := hr.lt (by omega)
      have htk : es.take (k + 1) = (es.take k) ++ [es[k]] := by rw [List.take_add_one, hget]; simp
      subst ha
      generalize es[k] = e at y0 y1 y2 htk
      have HX : Hid (∀ (wa w2 : World) (v' : Value), Tch [] wr wa → w2.ownsRow (nb + 1) 68 3 v' ((es.take k).length + 1) ((es.take k).flatMap fEn ++ fEn e) → wa.grownBy w2 (Value.slice x (es.take k).length cx).ownBlock → _) := fun wa w2 v' ta h1 h2 => JoRel.next ⟨hb, hown, T⟩ HNB.out.1 ta e h1 h2
      have HTK := Lib.hid htk
      have HLN : Hid ((es.take k).length + 1 ≤ 1000000000) := by show _ ≤ _; have := HNB.out.2; simp; omega
      have hsz : nb + 1 ≤ wr.heap.size := hlt
      generalize es.take k = xs at p1 hown HX HTK HLN
      have HOW := Lib.hid hown
      have hI1 : (0 : Int) ≤ (k : Int) := by omega
      have hI2 : (k : Int) < (es.length : Int) := by omega
      clear hb hown T hbx hget hr htk
      go_wp2_with fail
      have HSZ := Lib.hid hsz
      have hbd : es.length ≤ 1000000000 := by have := HNB.out.2.1; omega
      clear hsz
      go_region_law (first | (refine step_append_own (by rfl) _ _ 30 (by rfl) (nb + 1) 68 i0 (.agg #[.string ⟨#[]⟩, .string ⟨#[]⟩, .int .i64 0]) 3 40 Try.underlying30 hi0 hz0 hz1 hz2 rfl (by decide) (.slice x xs.length cx) xs.length (xs.flatMap fEn) (by rfl) (own_keep (HOW.out.alloc (.cells #[.string e.key, .string e.val, .int .i64 e.kid] 68)) (Tch.refl [] _).drew (fun _ _ => by simp)) ⟨wr.heap.size, 0, none⟩ 1 1 (fEn e) (by rfl) rfl (fun j u hu => cells_en wr e 68 j u hu) (fEn_one _) (by unfold maxLen; have := HLN.out; omega) (by have := HLN.out; omega) (by have := HSZ.out; simp; omega) ?_; intro v' w2 hown2 hgrow; obtain ⟨hb2, x2, cx2, rfl, hj2⟩ := HX.out _ w2 v' ((Tch.refl [] wr).alloc _).drew hown2 hgrow; have HREL := Lib.hid hj2; have q1 := blk_cell hb2 1; simp only [List.getElem?_toArray, List.getElem?_cons_zero, List.getElem?_cons_succ] at q1; have q2 := blk_free hb2 1; have q3 := lt_of_block hb2; clear hown2 hgrow hb2 hj2))
      all_goals
        clear HOW HX
        go_wp2
        go_roundw
        case rel => exact ⟨k + 1, x2, cx2, by omega, by go_num, by rw [HTK.out]; exact HREL.out⟩
        case measure => simp [intOf]; omega
    · obtain rfl : k = es.length := by omega
      rw [List.take_length] at hb hown p1
      have HST2 : Hid (JoRel W1 nb leaf es x cx wr) := ⟨hb, hown, T⟩
      clear hb hown T hbx p1 pf hlt HA HST
      go_wp2
      clear s0 hkl hk
      go_loopw [7] (fun v7 wr => ∃ (k : Nat) (x : Option Addr) (cx : Nat), k ≤ fs.length ∧ v7 = .int .i64 k ∧ JoRel W1 nb leaf (es ++ fs.take k) x cx wr) (fun v7 _ => fs.length - (intOf v7).toNat)
      case atStart => exact ⟨0, x, cx, by omega, rfl, by rw [List.take_zero, List.append_nil]; exact HST2.out⟩
      case round =>
        obtain ⟨k, x, cx, hk, rfl, hjo⟩ := hrel
        obtain ⟨hb, hown, T⟩ := hjo
        have hbx := HBX.out wr T
        have s0 := blk_cell hbx.2.1 1
        have p1 := blk_cell hb 1
        have pf := blk_free hb 1
        have hlt := lt_of_block hb
        simp only [List.getElem?_toArray, List.getElem?_cons_zero, List.getElem?_cons_succ] at s0 p1
        by_cases hkl : k < fs.length
        · have hget := List.getElem?_eq_getElem hkl
          have hr := HB.out wr T
          have y0 : wr.cell? ⟨b2, o2 + k * 3, none⟩ = some (.string fs[k].key) := hr.c0 hget rfl
          have y1 : wr.cell? ⟨b2, o2 + k * 3 + 1, none⟩ = some (.string fs[k].val) := hr.c hget 1 rfl
          have y2 : wr.cell? ⟨b2, o2 + k * 3 + 2, none⟩ = some (.int .i64 fs[k].kid) := hr.c hget 2 rfl
          have ha := hr.some_ (by omega)
          have hbl := hr.lt (by omega)
          have htk : es ++ fs.take (k + 1) = (es ++ fs.take k) ++ [fs[k]] := by rw [List.take_add_one, hget]; simp
          subst ha
          generalize fs[k] = e at y0 y1 y2 htk
          have HX : Hid (∀ (wa w2 : World) (v' : Value), Tch [] wr wa → w2.ownsRow (nb + 1) 68 3 v' ((es ++ fs.take k).length + 1) ((es ++ fs.take k).flatMap fEn ++ fEn e) → wa.grownBy w2 (Value.slice x (es ++ fs.take k).length cx).ownBlock → _) := fun wa w2 v' ta h1 h2 => JoRel.next ⟨hb, hown, T⟩ HNB.out.1 ta e h1 h2
          have HTK := Lib.hid htk
          have HLN : Hid ((es ++ fs.take k).length + 1 ≤ 1000000000) := by show _ ≤ _; have := HNB.out.2; simp; omega
          have hsz : nb + 1 ≤ wr.heap.size := hlt
          generalize es ++ fs.take k = xs at p1 hown HX HTK HLN
          have HOW := Lib.hid hown
          have hI1 : (0 : Int) ≤ (k : Int) := by omega
          have hI2 : (k : Int) < (fs.length : Int) := by omega
          clear hb hown T hbx hget hr htk
          go_wp2_with fail
          have HSZ := Lib.hid hsz
          have hbd : fs.length ≤ 1000000000 := by have := HNB.out.2.1; omega
          clear hsz
          go_region_law (first | (refine step_append_own (by rfl) _ _ 30 (by rfl) (nb + 1) 68 i0 (.agg #[.string ⟨#[]⟩, .string ⟨#[]⟩, .int .i64 0]) 3 40 Try.underlying30 hi0 hz0 hz1 hz2 rfl (by decide) (.slice x xs.length cx) xs.length (xs.flatMap fEn) (by rfl) (own_keep (HOW.out.alloc (.cells #[.string e.key, .string e.val, .int .i64 e.kid] 68)) (Tch.refl [] _).drew (fun _ _ => by simp)) ⟨wr.heap.size, 0, none⟩ 1 1 (fEn e) (by rfl) rfl (fun j u hu => cells_en wr e 68 j u hu) (fEn_one _) (by unfold maxLen; have := HLN.out; omega) (by have := HLN.out; omega) (by have := HSZ.out; simp; omega) ?_; intro v' w2 hown2 hgrow; obtain ⟨hb2, x2, cx2, rfl, hj2⟩ := HX.out _ w2 v' ((Tch.refl [] wr).alloc _).drew hown2 hgrow; have HREL := Lib.hid hj2; have q1 := blk_cell hb2 1; simp only [List.getElem?_toArray, List.getElem?_cons_zero, List.getElem?_cons_succ] at q1; have q2 := blk_free hb2 1; have q3 := lt_of_block hb2; clear hown2 hgrow hb2 hj2))
          all_goals
            clear HOW HX
            go_wp2
            go_roundw
            case rel => exact ⟨k + 1, x2, cx2, by omega, by go_num, by rw [HTK.out]; exact HREL.out⟩
            case measure => simp [intOf]; omega
        · obtain rfl : k = fs.length := by omega
          rw [List.take_length] at hb hown p1
          have hcr := blk_cell hbx.2.2 0
          have hcr1 := blk_cell hbx.2.2 1
          have hrf0 := blk_free hbx.2.2 0
          have hrf1 := blk_free hbx.2.2 1
          have p0 := blk_cell hb 0
          have hrlt := lt_of_block hbx.2.2
          simp only [List.getElem?_toArray, List.getElem?_cons_zero, List.getElem?_cons_succ] at hcr hcr1 p0
          have HF : Hid (∀ u v, OfPost w leaf (es ++ fs) (.returned (.agg #[.bool leaf, .slice x (es ++ fs).length cx])) ((wr.setCell ⟨w.heap.size + 1 + 1, 0, none⟩ u).setCell ⟨w.heap.size + 1 + 1, 1, none⟩ v)) := fun u v => by
            obtain ⟨bb, h1, _, h3⟩ := IsR.own fEn_len hown rfl
            have t2 : Tch [w.heap.size + 1 + 1] wr ((wr.setCell ⟨w.heap.size + 1 + 1, 0, none⟩ u).setCell ⟨w.heap.size + 1 + 1, 1, none⟩ v) := ((Tch.refl _ wr).setCell (by simp) u).setCell (by simp) v
            have hq := HNB.out.2.2.2
            exact ⟨x, cx, bb, rfl, h1.keep t2 (fun h0 => by have := h3 h0; simp; omega), fun h0 => by have := h3 h0; omega, own_cap hown, (T0.transNew T (by simp; omega)).transNew t2 (by simp; omega)⟩
          clear hb hown T hbx T0
          go_wp2
          refine bodyPost_ret (v := .agg #[.bool leaf, .slice x (es ++ fs).length cx]) (by simp [results, Try.results21, go_sem, hcr, hcr1]) rfl (HF.out _ _)
end Go.Proofs.Ytlgfdfpafmopdaa
