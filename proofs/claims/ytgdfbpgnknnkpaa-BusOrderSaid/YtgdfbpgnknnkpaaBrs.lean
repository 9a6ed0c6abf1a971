/-
  bus.numbered, Restore, New: whichever list a bus is made of. Conditions: texts in reach.
-/
import Derived.Test.YtgdfbpgnknnkpaaBdl
namespace Go.Proofs.Ytgdfbpgnknnkpaa
open Go.RowKit
set_option linter.unusedVariables false

/-- What holds at the head of each round. -/
def NumRel (w : World) (next : Int) (l : List Lt) (v5 v10 : Value) (wr : World) : Prop :=
  ∃ (k : Nat) (last : Int), k ≤ l.length ∧ v10 = .int .i64 k ∧ v5 = .int .i64 last ∧ numB next 0 l = numB next last (l.drop k) ∧ Tch [] w wr
def BoolPost (w : World) (t : Bool) (e : Ending) (w' : World) : Prop := e = .returned (.bool t) ∧ Tch [] w w'

set_option maxRecDepth 100000 in
set_option maxHeartbeats 1000000 in
theorem bnumbered_any (a : Option Addr) (len cap b o : Nat) (l : List Lt) (next : Int) (w : World) (h : IsR fLt 8 w a len b o l) (hl : l.length ≤ 1000000000) :
    Calls Try.prog 25 #[.slice a len cap, .int .i64 next] w (BoolPost w (numB next 0 l)) := by
  obtain rfl := h.hlen
  have HF : Hid (∀ t W, numB next 0 l = t → Tch [] w W → BoolPost w (numB next 0 l) (.returned (.bool t)) W) := fun t W h1 h2 => ⟨by rw [h1], h2⟩
  generalize hQ : BoolPost w (numB next 0 l) = Q at HF ⊢
  have HC : Hid (∀ wr, Tch [] w wr → IsR fLt 8 wr a l.length b o l) := fun wr t => h.keep0 t
  have hll : (l.length : Int) ≤ 9223372036854775807 := by omega
  have HS : Hid (NumRel w next l (.int .i64 0) (.int .i64 0) w) := ⟨0, 0, by omega, rfl, rfl, rfl, Tch.refl _ _⟩
  clear h hQ
  go_enter Try.func25, Try.ntmps25
  go_wp2_with fail
  go_loopw [5, 10] (fun v5 v10 wr => NumRel w next l v5 v10 wr) (fun _ v10 _ => l.length - (intOf v10).toNat)
  case atStart => exact HS.out
  case round =>
    clear HS
    obtain ⟨k, last, hk, rfl, rfl, hnb, T⟩ := hrel
    by_cases hkl : k < l.length
    · have hcw := HC.out wr T
      have hget := List.getElem?_eq_getElem hkl
      obtain ⟨p0, p1, p2, p3, p4, p5, p6, p7⟩ := lt_cells hcw hget
      have hla := hcw.some_ (by omega)
      subst hla
      have hd : decide (k < l.length) = true := decide_eq_true hkl
      rw [List.drop_eq_getElem_cons hkl, numB] at hnb
      generalize l[k] = y at *
      have HNB := Lib.hid hnb
      generalize y.id = yid at *
      generalize y.dst = ydst at *
      generalize y.ord = yord at *
      generalize y.step = ystep at *
      generalize y.tr = ytr at *
      generalize y.kind = ykind at *
      generalize y.code = ycode at *
      generalize y.verb = yverb at *
      have T1 := Lib.hid (T.alloc (.cells #[.int .i64 yid, .int .i64 ydst, .int .i64 yord, .int .i64 ystep, .int .i64 ytr, .int .i64 ykind, .int .i64 ycode, .string yverb] 37))
      clear hcw hget T hnb
      by_cases g1 : yid ≤ last
      · have HE := Lib.hid (HF.out false _ (by rw [HNB.out, if_pos (Or.inl g1)]) T1.out)
        clear HF HC HNB
        go_wp2_with fail
        first | exact HE.out | (go_ret; exact HE.out)
      · have g1d : decide (yid ≤ last) = false := decide_eq_false g1
        by_cases g2 : next ≤ yid
        · have HE := Lib.hid (HF.out false _ (by rw [HNB.out, if_pos (Or.inr g2)]) T1.out)
          clear HF HC HNB
          go_wp2_with fail
          first | exact HE.out | (go_ret; exact HE.out)
        · have g2d : decide (next ≤ yid) = false := decide_eq_false g2
          have HR : Hid (NumRel w next l (.int .i64 yid) (.int .i64 ((k + 1 : Nat) : Int)) _) := ⟨k + 1, yid, by omega, rfl, rfl, by rw [HNB.out, if_neg (by omega)], T1.out⟩
          clear HF HC HNB g1 g2
          go_wp2_with fail
          go_roundw
          case rel => exact HR.out
          case measure => simp [intOf]; omega
    · have HE := Lib.hid (HF.out true wr (by rw [hnb, List.drop_eq_nil_of_le (by omega)]; rfl) T)
      have hd : decide (k < l.length) = false := decide_eq_false hkl
      clear hnb T HF HC
      go_wp2_with fail
      first | exact HE.out | (go_ret; exact HE.out)

/-- A bus was made. -/
def RestOk (TB TL : TypeId) (w : World) (b : Bs) (e : Ending) (w' : World) : Prop :=
  ∃ bb v, e = .returned (.tuple #[.pointer (some ⟨bb, 0, none⟩), .int .i64 0]) ∧ IsBus TB TL w' bb v b ∧ (∀ k ∈ dom bb v, w.heap.size ≤ k) ∧ Tch [] w w'
/-- .. or refused. -/
def RestNo (w : World) (e : Ending) (w' : World) : Prop := e = .returned (.tuple #[.pointer none, .int .i64 2]) ∧ Tch [] w w'
/-- A new block with a new row is a bus. -/
theorem bus_new {TB TL : TypeId} {w w1 : World} {l : List Lt} {v : Value} (n : Int) (h : NewRow TL w l v w1) : IsBus TB TL (w1.alloc (.cells #[v, .int .i64 n] TB)) w1.heap.size v ⟨l, n⟩ ∧ (∀ k ∈ dom w1.heap.size v, w.heap.size ≤ k) ∧ Tch [] w (w1.alloc (.cells #[v, .int .i64 n] TB)) :=
  ⟨⟨blk_new _ _, (own_base h.1 (Nat.zero_le _)).alloc _⟩, fun k hk => by
    rcases mem_dom.1 hk with rfl | hk
    · exact h.2.size
    · exact (h.1.lt k hk).1, h.2.alloc _⟩

set_option maxRecDepth 100000 in
set_option maxHeartbeats 1000000 in
theorem brest_yes (a : Option Addr) (len cap b o : Nat) (l : List Lt) (next : Int) (w : World) (h : IsR fLt 8 w a len b o l) (hr : restB next l = true) (hok : ∀ x ∈ l, x.Ok) :
    Calls Try.prog 12 #[.int .i64 next, .slice a len cap] w (RestOk 63 37 w ⟨l, next⟩) := by
  obtain rfl := h.hlen
  unfold restB at hr
  simp only [Bool.and_eq_true, decide_eq_true_eq] at hr
  obtain ⟨⟨⟨h1, h2⟩, h3⟩, h4⟩ := hr
  have HF : Hid (∀ w1 v, NewRow 37 w l v w1 → RestOk 63 37 w ⟨l, next⟩ (.returned (.tuple #[.pointer (some ⟨w1.heap.size, 0, none⟩), .int .i64 0])) (w1.alloc (.cells #[v, .int .i64 next] 63))) := fun w1 v hn => by
    obtain ⟨q1, q2, q3⟩ := bus_new (TB := 63) next hn
    exact ⟨_, v, rfl, q1, q2, q3⟩
  generalize hQ : RestOk 63 37 w ⟨l, next⟩ = Q at HF ⊢
  have HN := Lib.hid (bnumbered_any a l.length cap b o l next w h (by omega))
  rw [h4] at HN
  have HC : Hid (∀ W, Tch [] w W → Calls Try.prog 26 #[.slice a l.length cap] W (CopPost 37 W l)) := fun W t => bcopies_any a l.length cap b o l W (h.keep0 t) (by omega) hok
  have d1 : decide (next < 1) = false := decide_eq_false (by omega)
  have d2 : decide (1152921504606846976 < next) = false := decide_eq_false (by omega)
  have d3 : decide (4096 < l.length) = false := decide_eq_false (by omega)
  have d4 : decide ((4096 : Int) < (l.length : Int)) = false := decide_eq_false (by omega)
  clear hQ h4 h hok
  go_enter Try.func12, Try.ntmps12
  go_wp2_with fail
  refine HN.out.mono ?_
  rintro e w1 ⟨rfl, t1⟩
  have HC1 := Lib.hid (HC.out w1 t1)
  have HT1 := Lib.hid t1
  clear HN HC t1
  go_wp2_with fail
  refine HC1.out.mono ?_
  rintro e w2 ⟨v, rfl, ⟨g1, g2⟩⟩
  obtain ⟨x2, c2, rfl⟩ := own_slice g1
  have HE := Lib.hid (HF.out w2 _ ⟨own_base g1 HT1.out.size, HT1.out.trans g2⟩)
  clear HC1 HF g1 g2 HT1
  go_wp2_with fail
  first | exact HE.out | (go_ret2; exact HE.out)

set_option maxRecDepth 100000 in
set_option maxHeartbeats 1000000 in
theorem brest_no (a : Option Addr) (len cap b o : Nat) (l : List Lt) (next : Int) (w : World) (h : IsR fLt 8 w a len b o l) (hr : restB next l = false) :
    Calls Try.prog 12 #[.int .i64 next, .slice a len cap] w (RestNo w) := by
  obtain rfl := h.hlen
  have HF : Hid (∀ W, Tch [] w W → RestNo w (.returned (.tuple #[.pointer none, .int .i64 2])) W) := fun W t => ⟨rfl, t⟩
  generalize hQ : RestNo w = Q at HF ⊢
  clear hQ
  by_cases h1 : next < 1
  · have HE := Lib.hid (HF.out w (Tch.refl _ _))
    clear HF h hr
    go_enter Try.func12, Try.ntmps12
    go_wp2_with fail
    first | exact HE.out | (go_ret2; exact HE.out)
  have d1 : decide (next < 1) = false := decide_eq_false h1
  by_cases h2 : 1152921504606846976 < next
  · have HE := Lib.hid (HF.out w (Tch.refl _ _))
    clear HF h hr
    go_enter Try.func12, Try.ntmps12
    go_wp2_with fail
    first | exact HE.out | (go_ret2; exact HE.out)
  have d2 : decide (1152921504606846976 < next) = false := decide_eq_false h2
  by_cases h3 : 4096 < l.length
  · have HE := Lib.hid (HF.out w (Tch.refl _ _))
    have d3 : decide (4096 < l.length) = true := decide_eq_true h3
    have d4 : decide ((4096 : Int) < (l.length : Int)) = true := decide_eq_true (by omega)
    clear HF h hr
    go_enter Try.func12, Try.ntmps12
    go_wp2_with fail
    first | exact HE.out | (go_ret2; exact HE.out)
  have d3 : decide (4096 < l.length) = false := decide_eq_false h3
  have d4 : decide ((4096 : Int) < (l.length : Int)) = false := decide_eq_false (by omega)
  have h4 : numB next 0 l = false := by
    unfold restB at hr
    rw [decide_eq_true (by omega : 1 ≤ next), decide_eq_true (by omega : next ≤ 1152921504606846976), decide_eq_true (by omega : l.length ≤ 4096)] at hr
    simpa using hr
  have HN := Lib.hid (bnumbered_any a l.length cap b o l next w h (by omega))
  rw [h4] at HN
  clear h hr h4
  go_enter Try.func12, Try.ntmps12
  go_wp2_with fail
  refine HN.out.mono ?_
  rintro e w1 ⟨rfl, t1⟩
  have HE := Lib.hid (HF.out w1 t1)
  clear HN HF t1
  go_wp2_with fail
  first | exact HE.out | (go_ret2; exact HE.out)

/-- A bus was made, without more. -/
def NewOk (TB TL : TypeId) (w : World) (b : Bs) (e : Ending) (w' : World) : Prop :=
  ∃ bb v, e = .returned (.pointer (some ⟨bb, 0, none⟩)) ∧ IsBus TB TL w' bb v b ∧ (∀ k ∈ dom bb v, w.heap.size ≤ k) ∧ Tch [] w w'
theorem bnew_any (w : World) : Calls Try.prog 11 #[] w (NewOk 63 37 w ⟨[], 1⟩) := by
  have HE : Hid (NewOk 63 37 w ⟨[], 1⟩ (.returned (.pointer (some ⟨w.heap.size, 0, none⟩))) (w.alloc (.cells #[.slice none 0 0, .int .i64 1] 63))) := by
    obtain ⟨q1, q2, q3⟩ := bus_new (TB := 63) (TL := 37) (w := w) (w1 := w) (l := []) (v := .slice none 0 0) 1 ⟨World.ownsRow_nil _ _ _ _, Tch.refl _ _⟩
    exact ⟨_, _, rfl, q1, q2, q3⟩
  generalize NewOk 63 37 w ⟨[], 1⟩ = Q at *
  go_enter Try.func11, Try.ntmps11
  go_wp2_with fail
  first | exact HE.out | (go_ret; exact HE.out)
end Go.Proofs.Ytgdfbpgnknnkpaa
