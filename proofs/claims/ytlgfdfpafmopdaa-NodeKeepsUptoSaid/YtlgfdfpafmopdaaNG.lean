/-
  The law NodeGuides, walked: it answers true and turns nothing that was there, if package node answers as the document has it. Condition: lists and texts of fewer than 10^7 parts.
-/
import Derived.Test.YtlgfdfpafmopdaaNB
namespace Go.Proofs.Ytlgfdfpafmopdaa
open Go.RowKit
set_option linter.unusedVariables false

theorem less_tri : ∀ a b : List UInt8, Go.Op.bytesLess a b = false → Go.Op.bytesLess b a = false → a = b
  | [], [], _, _ => rfl
  | [], b :: y, h, _ => by simp [Go.Op.bytesLess] at h
  | a :: x, [], _, h => by simp [Go.Op.bytesLess] at h
  | a :: x, b :: y, h1, h2 => by
    simp only [Go.Op.bytesLess, Bool.or_eq_false_iff, Bool.and_eq_false_iff, decide_eq_false_iff_not] at h1 h2
    have hab : a = b := UInt8.toNat_inj.1 (by
      have h3 := h1.1; have h4 := h2.1
      rw [UInt8.lt_iff_toNat_lt] at h3 h4
      omega)
    subst hab
    rw [less_tri x y (by rcases h1.2 with h | h; simp at h; exact h) (by rcases h2.2 with h | h; simp at h; exact h)]
theorem slt_of {a b : ByteArray} (h : sle b a = false) : slt a b = true := by
  unfold sle slt at h
  rw [Bool.or_eq_false_iff] at h
  by_cases hs : Go.Op.bytesLess a.toList b.toList = true
  · exact hs
  · have := less_tri a.toList b.toList (by simpa using hs) h.1
    have h2 := h.2
    rw [this] at h2
    simp at h2
theorem fit_rise (leaf : Bool) : ∀ (es : List En) (prev : Option ByteArray), fitFrom leaf prev es = true → (∀ p e, prev = some p → es[0]? = some e → slt p e.key = true) ∧ ∀ (i : Nat) a b, es[i]? = some a → es[i + 1]? = some b → slt a.key b.key = true
  | [], prev, _ => ⟨fun p e _ h => by simp at h, fun i a b h => by simp at h⟩
  | e :: es, prev, h => by
    rw [show fitFrom leaf prev (e :: es) = (fitE leaf e && (match prev with | none => true | some p => !sle e.key p) && fitFrom leaf (some e.key) es) from by cases prev <;> rfl] at h
    rw [Bool.and_eq_true, Bool.and_eq_true] at h
    obtain ⟨⟨_, h2⟩, h3⟩ := h
    obtain ⟨i1, i2⟩ := fit_rise leaf es (some e.key) h3
    refine ⟨fun p e' hp he => ?_, fun i a b ha hb => ?_⟩
    · subst hp
      simp at he; subst he
      exact slt_of (by simpa using h2)
    · match i, ha, hb with
      | 0, ha, hb =>
        simp at ha; subst ha
        exact i1 e.key b rfl (by simpa using hb)
      | i + 1, ha, hb => exact i2 i a b (by simpa using ha) (by simpa using hb)
theorem Nv.rise {v : Nv} (h : v.fits = true) : Rise v.keys := by
  unfold Nv.fits fitN at h
  rw [Bool.and_eq_true, Bool.and_eq_true, Bool.and_eq_true] at h
  have hr := (fit_rise v.leaf v.es none h.2.1.1).2
  intro i a b ha hb
  exact hr i _ _ (mkN_get v.leaf v.keys v.vals v.kids i a ha) (mkN_get v.leaf v.keys v.vals v.kids (i + 1) b hb)
theorem plc_spec (key : ByteArray) : ∀ (es : List En) (at_ k : Nat), (plcE key at_ k es = at_ ∨ ∃ j : Nat, ∃ e : En, plcE key at_ k es = k + j ∧ es[j]? = some e ∧ sle e.key key = true) ∧ ∀ (j : Nat) e, es[j]? = some e → (plcE key at_ k es < k + j ∨ (plcE key at_ k es = at_ ∧ at_ < k ∧ plcE key at_ k es < k + j)) → sle e.key key = false
  | [], at_, k => ⟨Or.inl rfl, fun j e h => by simp at h⟩
  | e :: es, at_, k => by
    rw [plcE]
    obtain ⟨i1, i2⟩ := plc_spec key es (if sle e.key key then k else at_) (k + 1)
    refine ⟨?_, fun j e' hj hlt => ?_⟩
    · rcases i1 with h | ⟨j, e', h1, h2, h3⟩
      · by_cases hs : sle e.key key = true
        · right; exact ⟨0, e, by rw [h, if_pos hs]; omega, rfl, hs⟩
        · left; rw [h, if_neg hs]
      · right; exact ⟨j + 1, e', by omega, by simpa using h2, h3⟩
    · match j, hj with
      | 0, hj =>
        simp at hj; subst hj
        by_cases hs : sle e.key key = true
        · exfalso
          rw [if_pos hs] at hlt i1
          rcases i1 with h | ⟨j, e', h1, _⟩ <;> omega
        · simpa using hs
      | j + 1, hj =>
        exact i2 j e' (by simpa using hj) (Or.inl (by omega))
/-- Where a key belongs: the last entry whose key isn't above it. -/
theorem plcN_spec (es : List En) (key : ByteArray) : (plcN es key = 0 ∨ ∃ e, es[plcN es key]? = some e ∧ sle e.key key = true) ∧ (∀ (i : Nat) e, plcN es key < i → es[i]? = some e → sle e.key key = false) ∧ (0 < es.length → plcN es key < es.length) := by
  obtain ⟨h1, h2⟩ := plc_spec key es 0 0
  unfold plcN
  refine ⟨?_, fun i e hi he => h2 i e he (Or.inl (by omega)), fun hl => ?_⟩
  · rcases h1 with h | ⟨j, e, ha, hb, hc⟩
    · exact Or.inl h
    · right; rw [ha, Nat.zero_add]; exact ⟨e, hb, hc⟩
  · rcases h1 with h | ⟨j, e, ha, hb, hc⟩
    · rw [h]; exact hl
    · rw [ha, Nat.zero_add]; exact (List.getElem?_eq_some_iff.1 hb).1

set_option maxRecDepth 100000 in
set_option maxHeartbeats 2000000 in
theorem nguides_walk (HE : EncSpec) (HP : PlaSpec) (v : Nv) (key : ByteArray) (w : World) (h : IsNv w v) (ho : v.Ok) (hc : v.caps) (hk : key.size ≤ 10000000) :
    Calls Try.prog 9 #[.agg #[.bool v.leaf, .slice v.ka v.kn v.kc, .slice v.va v.vn v.vc, .slice v.ia v.im v.ic], .string key] w fun e w' => e = .returned (.bool true) ∧ Tch [] w w' := by
  have T0 : Tch [] w (w.alloc (.cells #[.bool v.leaf, .slice v.ka v.kn v.kc, .slice v.va v.vn v.vc, .slice v.ia v.im v.ic] 25)) := (Tch.refl _ _).alloc _
  have hb : IsNb (w.alloc (.cells #[.bool v.leaf, .slice v.ka v.kn v.kc, .slice v.va v.vn v.vc, .slice v.ia v.im v.ic] 25)) w.heap.size v := blk_new w _
  have HFF : Hid (∀ w', Tch [] w w' → _) := fun w' t => nfit_any v w' (h.keep0 t) ho
  have HKK := Lib.hid (nwakes_any HE HP)
  have HKEEP : Hid (∀ w', Tch [] (w.alloc (.cells #[.bool v.leaf, .slice v.ka v.kn v.kc, .slice v.va v.vn v.vc, .slice v.ia v.im v.ic] 25)) w' → IsNb w' w.heap.size v) := fun w' t => t.keep hb (by simp)
  have HROW : Hid (∀ w', Tch [] w w' → IsR fStr 1 w' v.ka v.kn v.kb v.ko v.keys) := fun w' t => h.rk.keep0 t
  have hkl : v.kn ≤ v.keys.length ∧ v.keys.length ≤ v.kn := by have := h.rk.hlen; omega
  have hlk := ho.lk
  have hel0 := Nv.es_len v
  have hel : v.es.length ≤ v.keys.length ∧ v.keys.length ≤ v.es.length := by omega
  have hkey : ∀ (i : Nat) e, v.es[i]? = some e → v.keys[i]? = some e.key := fun i e he => by
    have hlt := (List.getElem?_eq_some_iff.1 he).1
    rw [hel0] at hlt
    have hg := List.getElem?_eq_getElem hlt
    have := mkN_get v.leaf v.keys v.vals v.kids i _ hg
    rw [show v.es[i]? = _ from this] at he
    cases he
    exact hg
  obtain ⟨hp1, hp2, hp3⟩ := plcN_spec v.es key
  clear hel0
  cases hfit : v.fits
  · rw [hfit] at HFF
    clear hfit h ho hc hp1 hp2 hp3 hkey
    obtain ⟨c0, c1, c2, c3⟩ := hb.c
    go_enter Try.func9, Try.ntmps9
    go_wp2_with fail
    refine (HKK.out _).mono ?_
    rintro e w1 ⟨rfl, t1⟩
    obtain ⟨d0, d1, d2, d3⟩ := (HKEEP.out w1 t1).c
    clear c0 c1 c2 c3
    go_wp2_with (first | (go_at_call 15; refine (HFF.out _ (T0.trans t1)).mono ?_; rintro e w2 ⟨rfl, t2⟩))
    refine (HKK.out _).mono ?_
    rintro e w3 ⟨rfl, t3⟩
    go_wp2_with fail
    go_ret
    exact ⟨rfl, ((T0.trans t1).trans t2).trans t3⟩
  · have HPL : Hid (∀ w', Tch [] w w' → _) := fun w' t => HP v key w' (h.keep0 t) ho hc hk (Nv.rise hfit)
    have hhit : ∀ e, v.es[plcN v.es key]? = some e → hitN v.es key = (e.key.toList == key.toList) := fun e he => by unfold hitN; rw [he]
    have hnil : v.keys.length = 0 → plcN v.es key = 0 ∧ hitN v.es key = false := fun h0 => by
      have : v.es = [] := List.length_eq_zero_iff.1 (by omega)
      rw [this]; exact ⟨rfl, rfl⟩
    rw [hfit] at HFF
    clear hfit h ho hc hk
    obtain ⟨c0, c1, c2, c3⟩ := hb.c
    by_cases hz : v.kn = 0
    · have hn := hnil (by omega)
      rw [hn.1, hn.2] at HPL
      have ez : ((v.kn : Int) == 0) = true := by simp [hz]
      have ez2 : (v.kn == 0) = true := by simp [hz]
      clear hp1 hp2 hp3 hkey hhit hnil hn hz hkl hlk hel HROW
      go_enter Try.func9, Try.ntmps9
      go_wp2_with fail
      refine (HKK.out _).mono ?_
      rintro e w1 ⟨rfl, t1⟩
      obtain ⟨d0, d1, d2, d3⟩ := (HKEEP.out w1 t1).c
      clear c0 c1 c2 c3
      go_wp2_with (first | (go_at_call 15; refine (HFF.out _ (T0.trans t1)).mono ?_; rintro e w2 ⟨rfl, t2⟩; obtain ⟨f0, f1, f2, f3⟩ := (HKEEP.out w2 (t1.trans t2)).c))
      refine (HPL.out _ ((T0.trans t1).trans t2)).mono ?_
      rintro e w3 ⟨rfl, t3⟩
      obtain ⟨g0, g1, g2, g3⟩ := (HKEEP.out w3 ((t1.trans t2).trans t3)).c
      clear d0 d1 d2 d3 f0 f1 f2 f3
      go_wp2_with fail
      go_ret
      exact ⟨rfl, (((T0.trans t1).trans t2).trans t3)⟩
    · have ez : ((v.kn : Int) == 0) = false := beq_eq_false_iff_ne.2 (by omega)
      have ez2 : (v.kn == 0) = false := beq_eq_false_iff_ne.2 hz
      have hrl := hp3 (by omega)
      generalize hr : plcN v.es key = r at HPL hp1 hp2 hrl hhit
      have hrk : r < v.keys.length := by omega
      have hge := List.getElem?_eq_getElem (show r < v.es.length from hrl)
      have hgk := hkey r _ hge
      have hh := hhit _ hge
      rw [hh] at HPL
      generalize v.es[r]'hrl = er at hge hgk HPL hh
      have hx : ∀ w', Tch [] w w' → v.ka = some ⟨v.kb, v.ko, none⟩ ∧ w'.cell? ⟨v.kb, v.ko + r, none⟩ = some (.string er.key) := fun w' t => ⟨(HROW.out w' t).some_ (by omega), (HROW.out w' t).one hgk rfl⟩
      have HX := Lib.hid hx
      have i1 : decide (v.kn ≤ r) = false := decide_eq_false (by omega)
      have i2 : decide ((v.kn : Int) ≤ (r : Int)) = false := decide_eq_false (by omega)
      have i3 : (r : Int) < (v.kn : Int) := by omega
      have i4 : decide ((r : Int) < 0) = false := decide_eq_false (by omega)
      have hsl : r = 0 ∨ sle er.key key = true := by
        rcases hp1 with h0 | ⟨e, h1, h2⟩
        · exact Or.inl h0
        · rw [hge] at h1; cases h1; exact Or.inr h2
      have hkn : v.kn ≤ 100000000 := by omega
      by_cases hlast : r + 1 = v.kn
      · have j1 : ((r : Int) == (v.kn : Int) - 1) = true := beq_iff_eq.2 (by omega)
        clear hp1 hp2 hp3 hkey hhit hnil hge hgk hh hx hr hrl hlast
        rcases Nat.eq_zero_or_pos r with h0 | h0
        · have k1 : decide ((0 : Int) < (r : Int)) = false := decide_eq_false (by omega)
          have k2 : decide (0 < r) = false := decide_eq_false (by omega)
          clear hsl h0
          go_enter Try.func9, Try.ntmps9
          go_wp2_with fail
          refine (HKK.out _).mono ?_
          rintro e w1 ⟨rfl, t1⟩
          obtain ⟨d0, d1, d2, d3⟩ := (HKEEP.out w1 t1).c
          clear c0 c1 c2 c3
          go_wp2_with (first | (go_at_call 15; refine (HFF.out _ (T0.trans t1)).mono ?_; rintro e w2 ⟨rfl, t2⟩; obtain ⟨f0, f1, f2, f3⟩ := (HKEEP.out w2 (t1.trans t2)).c))
          refine (HPL.out _ ((T0.trans t1).trans t2)).mono ?_
          rintro e w3 ⟨rfl, t3⟩
          obtain ⟨g0, g1, g2, g3⟩ := (HKEEP.out w3 ((t1.trans t2).trans t3)).c
          clear d0 d1 d2 d3 f0 f1 f2 f3
          obtain ⟨ha, y0⟩ := HX.out w3 (((T0.trans t1).trans t2).trans t3)
          rw [ha] at g1
          clear ha
          go_wp2_with fail
          go_ret
          exact ⟨rfl, (((T0.trans t1).trans t2).trans t3)⟩
        · have k1 : decide ((0 : Int) < (r : Int)) = true := decide_eq_true (by omega)
          have k2 : decide (0 < r) = true := decide_eq_true h0
          have hs : sle er.key key = true := by rcases hsl with h | h; omega; exact h
          unfold sle slt at hs
          by_cases b1 : Go.Op.bytesLess er.key.toList key.toList = true
          · clear hs hsl h0
            go_enter Try.func9, Try.ntmps9
            go_wp2_with fail
            refine (HKK.out _).mono ?_
            rintro e w1 ⟨rfl, t1⟩
            obtain ⟨d0, d1, d2, d3⟩ := (HKEEP.out w1 t1).c
            clear c0 c1 c2 c3
            go_wp2_with (first | (go_at_call 15; refine (HFF.out _ (T0.trans t1)).mono ?_; rintro e w2 ⟨rfl, t2⟩; obtain ⟨f0, f1, f2, f3⟩ := (HKEEP.out w2 (t1.trans t2)).c))
            refine (HPL.out _ ((T0.trans t1).trans t2)).mono ?_
            rintro e w3 ⟨rfl, t3⟩
            obtain ⟨g0, g1, g2, g3⟩ := (HKEEP.out w3 ((t1.trans t2).trans t3)).c
            clear d0 d1 d2 d3 f0 f1 f2 f3
            obtain ⟨ha, y0⟩ := HX.out w3 (((T0.trans t1).trans t2).trans t3)
            rw [ha] at g1
            clear ha
            go_wp2_with fail
            go_ret
            exact ⟨rfl, (((T0.trans t1).trans t2).trans t3)⟩
          · have b1 : Go.Op.bytesLess er.key.toList key.toList = false := by simpa using b1
            have b2 : (er.key.toList == key.toList) = true := by rw [b1, Bool.false_or] at hs; exact hs
            clear hs hsl h0
            go_enter Try.func9, Try.ntmps9
            go_wp2_with fail
            refine (HKK.out _).mono ?_
            rintro e w1 ⟨rfl, t1⟩
            obtain ⟨d0, d1, d2, d3⟩ := (HKEEP.out w1 t1).c
            clear c0 c1 c2 c3
            go_wp2_with (first | (go_at_call 15; refine (HFF.out _ (T0.trans t1)).mono ?_; rintro e w2 ⟨rfl, t2⟩; obtain ⟨f0, f1, f2, f3⟩ := (HKEEP.out w2 (t1.trans t2)).c))
            refine (HPL.out _ ((T0.trans t1).trans t2)).mono ?_
            rintro e w3 ⟨rfl, t3⟩
            obtain ⟨g0, g1, g2, g3⟩ := (HKEEP.out w3 ((t1.trans t2).trans t3)).c
            clear d0 d1 d2 d3 f0 f1 f2 f3
            obtain ⟨ha, y0⟩ := HX.out w3 (((T0.trans t1).trans t2).trans t3)
            rw [ha] at g1
            clear ha
            go_wp2_with fail
            go_ret
            exact ⟨rfl, (((T0.trans t1).trans t2).trans t3)⟩
      · have j1 : ((r : Int) == (v.kn : Int) - 1) = false := beq_eq_false_iff_ne.2 (by omega)
        have hg2 := List.getElem?_eq_getElem (show r + 1 < v.es.length from by omega)
        have hk2 := hkey (r + 1) _ hg2
        have hs2 := hp2 (r + 1) _ (by omega) hg2
        generalize v.es[r + 1]'(by omega) = e2 at hg2 hk2 hs2
        have HX2 : Hid (∀ w', Tch [] w w' → w'.cell? ⟨v.kb, v.ko + (r + 1), none⟩ = some (.string e2.key)) := fun w' t => (HROW.out w' t).one hk2 rfl
        unfold sle slt at hs2
        rw [Bool.or_eq_false_iff] at hs2
        obtain ⟨s1, s2⟩ := hs2
        have i5 : (r : Int) + 1 < (v.kn : Int) := by omega
        have i6 : (r : Int) + 1 ≤ 100000000 := by omega
        clear hp1 hp2 hp3 hkey hhit hnil hge hgk hh hx hr hrl hlast hg2 hk2
        rcases Nat.eq_zero_or_pos r with h0 | h0
        · have k1 : decide ((0 : Int) < (r : Int)) = false := decide_eq_false (by omega)
          have k2 : decide (0 < r) = false := decide_eq_false (by omega)
          clear hsl h0
          go_enter Try.func9, Try.ntmps9
          go_wp2_with fail
          refine (HKK.out _).mono ?_
          rintro e w1 ⟨rfl, t1⟩
          obtain ⟨d0, d1, d2, d3⟩ := (HKEEP.out w1 t1).c
          clear c0 c1 c2 c3
          go_wp2_with (first | (go_at_call 15; refine (HFF.out _ (T0.trans t1)).mono ?_; rintro e w2 ⟨rfl, t2⟩; obtain ⟨f0, f1, f2, f3⟩ := (HKEEP.out w2 (t1.trans t2)).c))
          refine (HPL.out _ ((T0.trans t1).trans t2)).mono ?_
          rintro e w3 ⟨rfl, t3⟩
          obtain ⟨g0, g1, g2, g3⟩ := (HKEEP.out w3 ((t1.trans t2).trans t3)).c
          clear d0 d1 d2 d3 f0 f1 f2 f3
          obtain ⟨ha, y0⟩ := HX.out w3 (((T0.trans t1).trans t2).trans t3)
          rw [ha] at g1
          clear ha
          have y1 := HX2.out w3 (((T0.trans t1).trans t2).trans t3)
          go_wp2_with fail
          go_ret
          exact ⟨rfl, (((T0.trans t1).trans t2).trans t3)⟩
        · have k1 : decide ((0 : Int) < (r : Int)) = true := decide_eq_true (by omega)
          have k2 : decide (0 < r) = true := decide_eq_true h0
          have hs : sle er.key key = true := by rcases hsl with h | h; omega; exact h
          unfold sle slt at hs
          by_cases b1 : Go.Op.bytesLess er.key.toList key.toList = true
          · clear hs hsl h0
            go_enter Try.func9, Try.ntmps9
            go_wp2_with fail
            refine (HKK.out _).mono ?_
            rintro e w1 ⟨rfl, t1⟩
            obtain ⟨d0, d1, d2, d3⟩ := (HKEEP.out w1 t1).c
            clear c0 c1 c2 c3
            go_wp2_with (first | (go_at_call 15; refine (HFF.out _ (T0.trans t1)).mono ?_; rintro e w2 ⟨rfl, t2⟩; obtain ⟨f0, f1, f2, f3⟩ := (HKEEP.out w2 (t1.trans t2)).c))
            refine (HPL.out _ ((T0.trans t1).trans t2)).mono ?_
            rintro e w3 ⟨rfl, t3⟩
            obtain ⟨g0, g1, g2, g3⟩ := (HKEEP.out w3 ((t1.trans t2).trans t3)).c
            clear d0 d1 d2 d3 f0 f1 f2 f3
            obtain ⟨ha, y0⟩ := HX.out w3 (((T0.trans t1).trans t2).trans t3)
            rw [ha] at g1
            clear ha
            have y1 := HX2.out w3 (((T0.trans t1).trans t2).trans t3)
            go_wp2_with fail
            go_ret
            exact ⟨rfl, (((T0.trans t1).trans t2).trans t3)⟩
          · have b1 : Go.Op.bytesLess er.key.toList key.toList = false := by simpa using b1
            have b2 : (er.key.toList == key.toList) = true := by rw [b1, Bool.false_or] at hs; exact hs
            clear hs hsl h0
            go_enter Try.func9, Try.ntmps9
            go_wp2_with fail
            refine (HKK.out _).mono ?_
            rintro e w1 ⟨rfl, t1⟩
            obtain ⟨d0, d1, d2, d3⟩ := (HKEEP.out w1 t1).c
            clear c0 c1 c2 c3
            go_wp2_with (first | (go_at_call 15; refine (HFF.out _ (T0.trans t1)).mono ?_; rintro e w2 ⟨rfl, t2⟩; obtain ⟨f0, f1, f2, f3⟩ := (HKEEP.out w2 (t1.trans t2)).c))
            refine (HPL.out _ ((T0.trans t1).trans t2)).mono ?_
            rintro e w3 ⟨rfl, t3⟩
            obtain ⟨g0, g1, g2, g3⟩ := (HKEEP.out w3 ((t1.trans t2).trans t3)).c
            clear d0 d1 d2 d3 f0 f1 f2 f3
            obtain ⟨ha, y0⟩ := HX.out w3 (((T0.trans t1).trans t2).trans t3)
            rw [ha] at g1
            clear ha
            have y1 := HX2.out w3 (((T0.trans t1).trans t2).trans t3)
            go_wp2_with fail
            go_ret
            exact ⟨rfl, (((T0.trans t1).trans t2).trans t3)⟩
end Go.Proofs.Ytlgfdfpafmopdaa
