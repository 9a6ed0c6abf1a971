/-
  The law BusTwins, walked.
-/
import Derived.Test.YtgdfbpgnknnkpaaBwp
namespace Go.Proofs.Ytgdfbpgnknnkpaa
open Go.RowKit
set_option linter.unusedVariables false

/-- A bus and one of the document's, made behind w, with the blocks that a call on them may turn. -/
def Pr (w : World) (L : List Nat) (bb rb : Nat) (N : Int) (wr : World) : Prop :=
  ∃ v rv b, PBus wr bb v b ∧ RBus wr rb rv b ∧ b.Good ∧ Dj (dom bb v) (dom rb rv) ∧ L = dom bb v ++ dom rb rv ∧ (∀ q ∈ L, w.heap.size ≤ q) ∧ b.next ≤ N
theorem Pr.lt {w wr : World} {L : List Nat} {bb rb : Nat} {N : Int} (h : Pr w L bb rb N wr) : ∀ q ∈ L, q < wr.heap.size := by
  obtain ⟨v, rv, b, h1, h2, _, _, rfl, _⟩ := h
  intro q hq
  rcases List.mem_append.1 hq with h | h
  · exact h1.dom_lt q h
  · exact h2.dom_lt q h
theorem Pr.keep {w wr w' : World} {L M : List Nat} {bb rb : Nat} {N : Int} (h : Pr w L bb rb N wr) (t : Tch M wr w') (hd : Dj L M) : Pr w L bb rb N w' := by
  obtain ⟨v, rv, b, h1, h2, h3, h4, rfl, h5, h6⟩ := h
  exact ⟨v, rv, b, h1.keep t (fun k hk => hd k (List.mem_append_left _ hk)), h2.keep t (fun k hk => hd k (List.mem_append_right _ hk)), h3, h4, rfl, h5, h6⟩
theorem Pr.mono {w wr : World} {L : List Nat} {bb rb : Nat} {N M : Int} (h : Pr w L bb rb N wr) (hm : N ≤ M) : Pr w L bb rb M wr := by
  obtain ⟨v, rv, b, h1, h2, h3, h4, h5, h6, h7⟩ := h
  exact ⟨v, rv, b, h1, h2, h3, h4, h5, h6, by omega⟩
/-- One call of a script that is no Restore. -/
def PrPost (w : World) (L : List Nat) (bb rb : Nat) (N : Int) (wr : World) (e : Ending) (w' : World) : Prop :=
  e = .returned (.bool true) ∧ ∃ L', Pr w L' bb rb (N + 1) w' ∧ Tch L wr w' ∧ Nearer wr.heap.size L L'
theorem Pr.play {w wr : World} {L : List Nat} {bb rb : Nat} {N : Int} (h : Pr w L bb rb N wr) (hw : w.heap.size ≤ wr.heap.size) (o : POp) (a : Option Addr) (cap sb so : Nat) (hs : IsR fOp 10 wr a 1 sb so [o]) (hsb : sb ∉ L) (hok : o.lt.Ok) (h4 : o.kind ≠ 4) (hN : N ≤ 4611686018427387900) :
    Calls Try.prog 10 #[.pointer (some ⟨bb, 0, none⟩), .pointer (some ⟨rb, 0, none⟩), .slice a 1 cap] wr (PrPost w L bb rb N wr) := by
  obtain ⟨v, rv, b, h1, h2, h3, hd, rfl, h5, h6⟩ := h
  refine (bplay_any bb rb v rv b [o] a 1 cap sb so wr (dom bb v) (dom rb rv) ⟨h1, h2, h3, hd, Nearer.refl _ _, Nearer.refl _ _, Tch.refl _ _⟩ hs (fun _ => hsb) (fun x hx => by simp only [List.mem_singleton] at hx; subst hx; exact hok) (by simp; omega) (by simp)).mono ?_
  rintro e w' ⟨rfl, bb', v', rv', b', s, hn, hb⟩
  obtain rfl := hb (fun x hx => by simp only [List.mem_singleton] at hx; subst hx; exact h4)
  refine ⟨rfl, dom bb' v' ++ dom rb rv', ⟨v', rv', b', s.p, s.r, s.g, s.dj, rfl, fun q hq => ?_, by simp at hn; omega⟩, s.t, fun q hq => ?_⟩
  · rcases List.mem_append.1 hq with h | h
    · rcases s.np q h with h | h
      · exact h5 q (List.mem_append_left _ h)
      · omega
    · rcases s.nr q h with h | h
      · exact h5 q (List.mem_append_right _ h)
      · omega
  · rcases List.mem_append.1 hq with h | h
    · rcases s.np q h with h | h
      · exact Or.inl (List.mem_append_left _ h)
      · exact Or.inr h
    · rcases s.nr q h with h | h
      · exact Or.inl (List.mem_append_right _ h)
      · exact Or.inr h
theorem Pr.alike {w wr : World} {L : List Nat} {bb rb : Nat} {N : Int} (h : Pr w L bb rb N wr) : Calls Try.prog 15 #[.pointer (some ⟨bb, 0, none⟩), .pointer (some ⟨rb, 0, none⟩)] wr (TchPost wr) := by
  obtain ⟨v, rv, b, h1, h2, h3, _⟩ := h
  exact balike_yes bb rb v rv b wr h1 h2 h3
/-- Two such pairs, apart. -/
def Tw (w : World) (a1 r1 a2 r2 : Nat) (N : Int) (wr : World) : Prop :=
  ∃ L M, Pr w L a1 r1 N wr ∧ Pr w M a2 r2 N wr ∧ Dj L M ∧ Tch [] w wr
theorem Tw.keep {w wr w' : World} {a1 r1 a2 r2 : Nat} {N : Int} (h : Tw w a1 r1 a2 r2 N wr) (t : Tch [] wr w') : Tw w a1 r1 a2 r2 N w' := by
  obtain ⟨L, M, h1, h2, h3, h4⟩ := h
  exact ⟨L, M, h1.keep t (fun _ _ => by simp), h2.keep t (fun _ _ => by simp), h3, h4.trans t⟩
theorem Pr.new {w wr : World} {L : List Nat} {bb rb : Nat} {N : Int} (h : Pr w L bb rb N wr) : ∀ q ∈ L, w.heap.size ≤ q := by
  obtain ⟨v, rv, b, _, _, _, _, _, h5, _⟩ := h
  exact h5
theorem Tw.post1 {w wr w' : World} {a1 r1 a2 r2 : Nat} {N : Int} {L M : List Nat} (h1 : Pr w L a1 r1 N wr) (h2 : Pr w M a2 r2 N wr) (h3 : Dj L M) (h4 : Tch [] w wr) {e : Ending} (h : PrPost w L a1 r1 N wr e w') : e = .returned (.bool true) ∧ Tw w a1 r1 a2 r2 (N + 1) w' := by
  obtain ⟨rfl, L', h5, h6, h7⟩ := h
  exact ⟨rfl, L', M, h5, (h2.keep h6 h3.symm).mono (by omega), h3.near h7 h2.lt, h4.transNew h6 (fun m hm => Or.inr (h1.new m hm))⟩
theorem Tw.play1 {w wr : World} {a1 r1 a2 r2 : Nat} {N : Int} (h : Tw w a1 r1 a2 r2 N wr) (o : POp) (a : Option Addr) (cap sb so : Nat) (hs : IsR fOp 10 wr a 1 sb so [o]) (hsb : sb < w.heap.size) (hok : o.lt.Ok) (h4 : o.kind ≠ 4) (hN : N ≤ 4611686018427387900) :
    Calls Try.prog 10 #[.pointer (some ⟨a1, 0, none⟩), .pointer (some ⟨r1, 0, none⟩), .slice a 1 cap] wr fun e w' => e = .returned (.bool true) ∧ Tw w a1 r1 a2 r2 (N + 1) w' := by
  obtain ⟨L, M, h1, h2, h3, h5⟩ := h
  exact (h1.play h5.size o a cap sb so hs (fun hm => by have := h1.new _ hm; omega) hok h4 hN).mono fun e w' h => Tw.post1 h1 h2 h3 h5 h
theorem Tw.symm {w wr : World} {a1 r1 a2 r2 : Nat} {N : Int} (h : Tw w a1 r1 a2 r2 N wr) : Tw w a2 r2 a1 r1 N wr := by
  obtain ⟨L, M, h1, h2, h3, h4⟩ := h
  exact ⟨M, L, h2, h1, h3.symm, h4⟩
theorem Tw.mono {w wr : World} {a1 r1 a2 r2 : Nat} {N M : Int} (h : Tw w a1 r1 a2 r2 N wr) (hm : N ≤ M) : Tw w a1 r1 a2 r2 M wr := by
  obtain ⟨L, K, h1, h2, h3, h4⟩ := h
  exact ⟨L, K, h1.mono hm, h2.mono hm, h3, h4⟩
theorem Tw.t {w wr : World} {a1 r1 a2 r2 : Nat} {N : Int} (h : Tw w a1 r1 a2 r2 N wr) : Tch [] w wr := by
  obtain ⟨L, K, h1, h2, h3, h4⟩ := h
  exact h4
/-- What holds at the head of each round. -/
def TwRel (w : World) (a1 r1 a2 r2 n : Nat) (v9 : Value) (wr : World) : Prop := ∃ k : Nat, k ≤ n ∧ v9 = .int .i64 k ∧ Tw w a1 r1 a2 r2 (1 + 2 * (k : Int)) wr
theorem tw_new {w w1 w2 : World} {a1 a2 : Nat} {v1 v2 : Value} (p1 : PBus w1 a1 v1 ⟨[], 1⟩) (n1 : ∀ q ∈ dom a1 v1, w.heap.size ≤ q) (t1 : Tch [] w w1) (p2 : PBus w2 a2 v2 ⟨[], 1⟩) (n2 : ∀ q ∈ dom a2 v2, w1.heap.size ≤ q) (t2 : Tch [] w1 w2) :
    Tw w a1 w2.heap.size a2 (w2.heap.size + 1) 1 ((w2.alloc (.cells #[.slice none 0 0, .int .i64 1] 30)).alloc (.cells #[.slice none 0 0, .int .i64 1] 30)) := by
  have hnr : NewRow 38 w2 [] (.slice none 0 0) w2 := ⟨World.ownsRow_nil _ _ _ _, Tch.refl _ _⟩
  obtain ⟨q1, q2, q3⟩ := bus_new (TB := 30) (TL := 38) 1 hnr
  obtain ⟨W3, hW3⟩ : ∃ W3, W3 = w2.alloc (.cells #[.slice none 0 0, .int .i64 1] 30) := ⟨_, rfl⟩
  have hs3 : W3.heap.size = w2.heap.size + 1 := by rw [hW3]; simp
  rw [← hW3] at q1 q3 ⊢
  have hnr3 : NewRow 38 W3 [] (.slice none 0 0) W3 := ⟨World.ownsRow_nil _ _ _ _, Tch.refl _ _⟩
  obtain ⟨x1, x2, x3⟩ := bus_new (TB := 30) (TL := 38) 1 hnr3
  rw [hs3] at x1 x2
  have s1 := t1.size
  have s2 := t2.size
  have l1 : ∀ q ∈ dom a1 v1, q < w1.heap.size := p1.dom_lt
  have l2 : ∀ q ∈ dom a2 v2, q < w2.heap.size := p2.dom_lt
  have d1 : ∀ q ∈ dom w2.heap.size (.slice none 0 0), q = w2.heap.size := fun q hq => by rcases mem_dom.1 hq with h | h; exact h; simp [Value.ownBlock] at h
  have d2 : ∀ q ∈ dom (w2.heap.size + 1) (.slice none 0 0), q = w2.heap.size + 1 := fun q hq => by rcases mem_dom.1 hq with h | h; exact h; simp [Value.ownBlock] at h
  refine ⟨_, _, ⟨v1, .slice none 0 0, ⟨[], 1⟩, p1.keep0 ((t2.trans q3).trans x3), q1.keep0 x3, Bs.good_new, fun q h1 h2 => ?_, rfl, fun q hq => ?_, by simp⟩, ⟨v2, .slice none 0 0, ⟨[], 1⟩, p2.keep0 (q3.trans x3), x1, Bs.good_new, fun q h1 h2 => ?_, rfl, fun q hq => ?_, by simp⟩, fun q h1 h2 => ?_, ((t1.trans t2).trans q3).trans x3⟩
  · have := l1 q h1; have := d1 q h2; omega
  · rcases List.mem_append.1 hq with h | h
    · exact n1 q h
    · have := d1 q h; omega
  · have := l2 q h1; have := d2 q h2; omega
  · rcases List.mem_append.1 hq with h | h
    · have := n2 q h; omega
    · have := d2 q h; omega
  · rcases List.mem_append.1 h1 with h1 | h1 <;> rcases List.mem_append.1 h2 with h2 | h2
    · have := l1 q h1; have := n2 q h2; omega
    · have := l1 q h1; have := d2 q h2; omega
    · have := d1 q h1; have := l2 q h2; omega
    · have := d1 q h1; have := d2 q h2; omega

set_option maxRecDepth 100000 in
set_option maxHeartbeats 4000000 in
theorem twins7_walk (a : Option Addr) (n1 cap1 sb1 so1 : Nat) (os1 : List POp) (a' : Option Addr) (n2 cap2 sb2 so2 : Nat) (os2 : List POp) (w : World) (hs1 : IsR fOp 10 w a n1 sb1 so1 os1) (hok1 : ∀ o ∈ os1, o.lt.Ok) (hl1 : n1 * 88 ≤ 140737488351232) (hc1 : n1 ≤ cap1) (hs2 : IsR fOp 10 w a' n2 sb2 so2 os2) (hok2 : ∀ o ∈ os2, o.lt.Ok) (hl2 : n2 * 88 ≤ 140737488351232) (hc2 : n2 ≤ cap2) :
    Calls Try.prog 8 #[.slice a n1 cap1, .slice a' n2 cap2] w (TchPost w) := by
  have hle1 := hs1.hlen
  have hle2 := hs2.hlen
  have HN1 := Lib.hid (bnew_any w)
  have HN2 : Hid (∀ W, Calls Try.prog 11 #[] W (NewOk 63 37 W ⟨[], 1⟩)) := fun W => bnew_any W
  have HWK : Hid (∀ W, Calls Try.prog 9 #[] W (TchPost W)) := fun W => bwakes_any W
  have HF : Hid (∀ W, Tch [] w W → TchPost w (.returned (.bool true)) W) := fun W t => ⟨rfl, t⟩
  generalize hQ : TchPost w = Q at HF ⊢
  have HC1 : Hid (∀ W, Tch [] w W → ∀ k, k < n1 → ∃ o : POp, a = some ⟨sb1, so1, none⟩ ∧ sb1 < w.heap.size ∧ o.lt.Ok ∧ W.cell? ⟨sb1, so1 + k * 10, none⟩ = some (.int .i64 o.kind) ∧ IsR fOp 10 W (some ⟨sb1, so1 + k * 10, none⟩) 1 sb1 (so1 + k * 10) [o]) := fun W t k hk => by
    have hg := List.getElem?_eq_getElem (show k < os1.length by omega)
    have q := hs1.keep0 t
    refine ⟨os1[k], hs1.some_ (by omega), hs1.lt (by omega), hok1 _ (List.getElem_mem _), q.c0 hg rfl, ?_⟩
    have := q.part k 1 (by omega) (some ⟨sb1, so1 + k * 10, none⟩) (fun _ => rfl)
    rw [List.drop_eq_getElem_cons (show k < os1.length by omega), List.take_succ_cons, List.take_zero] at this
    exact this
  have HC2 : Hid (∀ W, Tch [] w W → ∀ k, k < n2 → ∃ o : POp, a' = some ⟨sb2, so2, none⟩ ∧ sb2 < w.heap.size ∧ o.lt.Ok ∧ W.cell? ⟨sb2, so2 + k * 10, none⟩ = some (.int .i64 o.kind) ∧ IsR fOp 10 W (some ⟨sb2, so2 + k * 10, none⟩) 1 sb2 (so2 + k * 10) [o]) := fun W t k hk => by
    have hg := List.getElem?_eq_getElem (show k < os2.length by omega)
    have q := hs2.keep0 t
    refine ⟨os2[k], hs2.some_ (by omega), hs2.lt (by omega), hok2 _ (List.getElem_mem _), q.c0 hg rfl, ?_⟩
    have := q.part k 1 (by omega) (some ⟨sb2, so2 + k * 10, none⟩) (fun _ => rfl)
    rw [List.drop_eq_getElem_cons (show k < os2.length by omega), List.take_succ_cons, List.take_zero] at this
    exact this
  have hI1 : (n1 : Int) ≤ 10000000000000 := by omega
  have hI2 : (n2 : Int) ≤ 10000000000000 := by omega
  clear hQ hs1 hok1 hl1 hs2 hok2 hl2 hle1 hle2
  go_enter Try.func8, Try.ntmps8
  go_wp2_with fail
  refine HN1.out.mono ?_
  rintro e w1 ⟨a1, v1, rfl, p1, m1, t1⟩
  clear HN1
  have HNB := Lib.hid (HN2.out w1)
  have H1 := Lib.hid (And.intro p1 (And.intro m1 t1))
  clear p1 m1 t1 HN2
  go_wp2_with fail
  refine HNB.out.mono ?_
  rintro e w2 ⟨a2, v2, rfl, p2, m2, t2⟩
  have tw := tw_new H1.out.1 H1.out.2.1 H1.out.2.2 p2 m2 t2
  obtain ⟨W4, hW4⟩ : ∃ W4, W4 = (w2.alloc (.cells #[.slice none 0 0, .int .i64 1] 30)).alloc (.cells #[.slice none 0 0, .int .i64 1] 30) := ⟨_, rfl⟩
  rw [← hW4] at tw
  have TW := Lib.hid tw
  clear tw p2 m2 t2 H1 HNB
  go_upto_region 3 with fail
  rw [← hW4]
  clear hW4
  have HW1 := Lib.hid (HWK.out W4)
  clear HWK
  go_wp2_with fail
  refine HW1.out.mono ?_
  rintro e w5 ⟨rfl, t5⟩
  generalize w2.heap.size = r1 at *
  have TW5 := Lib.hid (TW.out.keep t5)
  clear TW HW1 t5
  obtain ⟨n, hn⟩ : ∃ n, n = max n1 n2 := ⟨_, rfl⟩
  have hn1 : n1 ≤ n := by omega
  have hn2 : n2 ≤ n := by omega
  have hn3 : n ≤ n1 ∨ n ≤ n2 := by omega
  have hnI : (n : Int) ≤ 10000000000000 := by omega
  clear hn
  go_wp2_with fail
  go_loopw [9] (fun v9 wr => TwRel w a1 r1 a2 (r1 + 1) n v9 wr) (fun v9 _ => n - (intOf v9).toNat)
  case atStart => exact ⟨0, by omega, rfl, by simpa using TW5.out⟩
  case round =>
    clear TW5
    obtain ⟨k, hk, rfl, tw⟩ := hrel
    have HEND : Hid (∀ W, Tw w a1 r1 a2 (r1 + 1) (1 + 2 * (k : Int) + 1 + 1) W → TwRel w a1 r1 a2 (r1 + 1) n (.int .i64 ((k + 1 : Nat) : Int)) W ∨ n ≤ k) := fun W s => by
      by_cases h : k < n
      · exact Or.inl ⟨k + 1, by omega, rfl, s.mono (by push_cast; omega)⟩
      · exact Or.inr (by omega)
    have TWK := Lib.hid tw
    have hk0 : (0 : Int) ≤ (k : Int) := by omega
    have hkI : (k : Int) ≤ 10000000000000 := by omega
    clear tw
    by_cases hl1 : k < n1
    · have dl1 : decide (k < n1) = true := decide_eq_true hl1
      have di1 : (k : Int) < (n1 : Int) := by omega
      obtain ⟨o1, ha1, hb1, hk1, hc11, hr1⟩ := HC1.out wr TWK.out.t k hl1
      subst ha1
      have dc1 : k + 1 ≤ cap1 := by omega
      by_cases h14 : o1.kind = 4
      · rw [h14] at hc11
        clear hr1
        by_cases hl2 : k < n2
        · have dl2 : decide (k < n2) = true := decide_eq_true hl2
          have di2 : (k : Int) < (n2 : Int) := by omega
          obtain ⟨o2, ha2, hb2, hk2, hc12, hr2⟩ := HC2.out wr TWK.out.t k hl2
          subst ha2
          have dc2 : k + 1 ≤ cap2 := by omega
          by_cases h24 : o2.kind = 4
          · rw [h24] at hc12
            clear hr2
            have HR := Lib.hid (HEND.out wr (TWK.out.mono (by omega)))
            clear HEND TWK HC1 HC2 HF
            go_wp2_with fail
            go_roundw
            case rel => exact HR.out.resolve_right (by omega)
            case measure => simp [intOf]; omega
          · have b24 : (o2.kind == 4) = false := beq_false_of_ne h24
            have c24 : (o2.kind != 4) = true := by simp [h24]
            have HP2 := Lib.hid (TWK.out.symm.play1 o2 _ (cap2 - k) sb2 (so2 + k * 10) hr2 hb2 hk2 h24 (by omega))
            generalize o2.kind = kd2 at *
            clear hr2 hk2 h24
            go_wp2_with fail
            refine HP2.out.mono ?_
            rintro e w9 ⟨rfl, s9⟩
            have S9 := Lib.hid s9.symm
            clear HP2 s9 hc12
            have HR := Lib.hid (HEND.out w9 (S9.out.mono (by omega)))
            clear HEND TWK HC1 HC2 HF
            go_wp2_with fail
            go_roundw
            case rel => exact HR.out.resolve_right (by omega)
            case measure => simp [intOf]; omega
        · have dl2 : decide (k < n2) = false := decide_eq_false hl2
          have HR := Lib.hid (HEND.out wr (TWK.out.mono (by omega)))
          clear HEND TWK HC1 HC2 HF
          go_wp2_with fail
          go_roundw
          case rel => exact HR.out.resolve_right (by omega)
          case measure => simp [intOf]; omega
      · have b14 : (o1.kind == 4) = false := beq_false_of_ne h14
        have c14 : (o1.kind != 4) = true := by simp [h14]
        have HP1 := Lib.hid (TWK.out.play1 o1 _ (cap1 - k) sb1 (so1 + k * 10) hr1 hb1 hk1 h14 (by omega))
        generalize o1.kind = kd1 at *
        clear hr1 hk1 h14
        go_wp2_with fail
        refine HP1.out.mono ?_
        rintro e w8 ⟨rfl, s8⟩
        have S8 := Lib.hid s8
        clear HP1 s8 hc11
        by_cases hl2 : k < n2
        · have dl2 : decide (k < n2) = true := decide_eq_true hl2
          have di2 : (k : Int) < (n2 : Int) := by omega
          obtain ⟨o2, ha2, hb2, hk2, hc12, hr2⟩ := HC2.out w8 S8.out.t k hl2
          subst ha2
          have dc2 : k + 1 ≤ cap2 := by omega
          by_cases h24 : o2.kind = 4
          · rw [h24] at hc12
            clear hr2
            have HR := Lib.hid (HEND.out w8 (S8.out.mono (by omega)))
            clear HEND TWK HC1 HC2 HF
            go_wp2_with fail
            go_roundw
            case rel => exact HR.out.resolve_right (by omega)
            case measure => simp [intOf]; omega
          · have b24 : (o2.kind == 4) = false := beq_false_of_ne h24
            have c24 : (o2.kind != 4) = true := by simp [h24]
            have HP2 := Lib.hid (S8.out.symm.play1 o2 _ (cap2 - k) sb2 (so2 + k * 10) hr2 hb2 hk2 h24 (by omega))
            generalize o2.kind = kd2 at *
            clear hr2 hk2 h24
            go_wp2_with fail
            refine HP2.out.mono ?_
            rintro e w9 ⟨rfl, s9⟩
            have S9 := Lib.hid s9.symm
            clear HP2 s9 hc12
            have HR := Lib.hid (HEND.out w9 (S9.out.mono (by omega)))
            clear HEND TWK HC1 HC2 HF
            go_wp2_with fail
            go_roundw
            case rel => exact HR.out.resolve_right (by omega)
            case measure => simp [intOf]; omega
        · have dl2 : decide (k < n2) = false := decide_eq_false hl2
          have HR := Lib.hid (HEND.out w8 (S8.out.mono (by omega)))
          clear HEND TWK HC1 HC2 HF
          go_wp2_with fail
          go_roundw
          case rel => exact HR.out.resolve_right (by omega)
          case measure => simp [intOf]; omega
    · have dl1 : decide (k < n1) = false := decide_eq_false hl1
      by_cases hl2 : k < n2
      · have dl2 : decide (k < n2) = true := decide_eq_true hl2
        have di2 : (k : Int) < (n2 : Int) := by omega
        obtain ⟨o2, ha2, hb2, hk2, hc12, hr2⟩ := HC2.out wr TWK.out.t k hl2
        subst ha2
        have dc2 : k + 1 ≤ cap2 := by omega
        by_cases h24 : o2.kind = 4
        · rw [h24] at hc12
          clear hr2
          have HR := Lib.hid (HEND.out wr (TWK.out.mono (by omega)))
          clear HEND TWK HC1 HC2 HF
          go_wp2_with fail
          go_roundw
          case rel => exact HR.out.resolve_right (by omega)
          case measure => simp [intOf]; omega
        · have b24 : (o2.kind == 4) = false := beq_false_of_ne h24
          have c24 : (o2.kind != 4) = true := by simp [h24]
          have HP2 := Lib.hid (TWK.out.symm.play1 o2 _ (cap2 - k) sb2 (so2 + k * 10) hr2 hb2 hk2 h24 (by omega))
          generalize o2.kind = kd2 at *
          clear hr2 hk2 h24
          go_wp2_with fail
          refine HP2.out.mono ?_
          rintro e w9 ⟨rfl, s9⟩
          have S9 := Lib.hid s9.symm
          clear HP2 s9 hc12
          have HR := Lib.hid (HEND.out w9 (S9.out.mono (by omega)))
          clear HEND TWK HC1 HC2 HF
          go_wp2_with fail
          go_roundw
          case rel => exact HR.out.resolve_right (by omega)
          case measure => simp [intOf]; omega
      · have dl2 : decide (k < n2) = false := decide_eq_false hl2
        obtain ⟨L, M, x1, x2, x3, x4⟩ := TWK.out
        have HA1 := Lib.hid x1.alike
        have X2 := Lib.hid x2
        have X4 := Lib.hid x4
        clear x1 x2 x3 x4 HEND TWK HC1 HC2
        go_wp2_with fail
        refine HA1.out.mono ?_
        rintro e w7 ⟨rfl, t7⟩
        have HA2 := Lib.hid (X2.out.keep t7 (fun _ _ => by simp)).alike
        have T7 := Lib.hid (X4.out.trans t7)
        clear t7 HA1 X2 X4
        go_wp2_with fail
        refine HA2.out.mono ?_
        rintro e w8 ⟨rfl, t8⟩
        have HE := Lib.hid (HF.out w8 (T7.out.trans t8))
        clear t8 HA2 T7 HF
        go_wp2_with fail
        first | exact HE.out | (go_ret; exact HE.out)
end Go.Proofs.Ytgdfbpgnknnkpaa
