/-
  Place of package node answers where a key belongs, as the document has it, in nodes whose keys rise. Conditions: the lists and texts are short (Nv.Ok).
-/
import Derived.Test.YtlgfdfpafmopdaaNwi
import Derived.OwnWalk
namespace Go.Proofs.Ytlgfdfpafmopdaa
open Go.RowKit
set_option linter.unusedVariables false

theorem less_trans : ∀ (x y z : List UInt8), Go.Op.bytesLess x y = true → Go.Op.bytesLess y z = true → Go.Op.bytesLess x z = true := by
  intro x
  induction x with
  | nil => intro y z h1 h2; cases z with
    | nil => cases y <;> simp [Go.Op.bytesLess] at h2
    | cons c z => simp [Go.Op.bytesLess]
  | cons a x ih => intro y z h1 h2; cases y with
    | nil => simp [Go.Op.bytesLess] at h1
    | cons b y => cases z with
      | nil => simp [Go.Op.bytesLess] at h2
      | cons c z =>
        simp only [Go.Op.bytesLess, Bool.or_eq_true, Bool.and_eq_true, decide_eq_true_eq, beq_iff_eq] at h1 h2 ⊢
        rcases h1 with h1 | ⟨rfl, h1⟩
        · rcases h2 with h2 | ⟨rfl, h2⟩
          · exact Or.inl (UInt8.lt_trans h1 h2)
          · exact Or.inl h1
        · rcases h2 with h2 | ⟨rfl, h2⟩
          · exact Or.inl h2
          · exact Or.inr ⟨rfl, ih y z h1 h2⟩
theorem slt_trans {a b c : ByteArray} (h1 : slt a b = true) (h2 : slt b c = true) : slt a c = true := less_trans _ _ _ h1 h2
theorem rise_mono (keys : List ByteArray) (key : ByteArray) (hr : Rise keys) : ∀ (d a : Nat) x y, keys[a]? = some x → keys[a + d]? = some y → slt key x = true → slt key y = true
  | 0, a, x, y, hx, hy, h => by rw [Nat.add_zero, hx] at hy; cases hy; exact h
  | d + 1, a, x, y, hx, hy, h => by
    have hlt : a + d < keys.length := by have := (List.getElem?_eq_some_iff.1 hy).1; omega
    have hz := List.getElem?_eq_getElem hlt
    have ih := rise_mono keys key hr d a x _ hx hz h
    exact slt_trans ih (hr (a + d) _ y hz (by rw [show a + d + 1 = a + (d + 1) from by omega]; exact hy))
/-- Is the key of that number above the key? -/
def abv (keys : List ByteArray) (key : ByteArray) (i : Nat) : Bool := match keys[i]? with
  | some x => slt key x
  | none => true
theorem abv_mono (keys : List ByteArray) (key : ByteArray) (hr : Rise keys) (a b : Nat) (hab : a ≤ b) (hb : b < keys.length) (h : abv keys key a = true) : abv keys key b = true := by
  have h1 := List.getElem?_eq_getElem (show a < keys.length by omega)
  have h2 := List.getElem?_eq_getElem hb
  unfold abv at h ⊢
  rw [h1] at h
  rw [h2]
  exact rise_mono keys key hr (b - a) a _ _ h1 (by rw [show a + (b - a) = b from by omega]; exact h2) h

set_option maxRecDepth 100000 in
theorem nplaceFn_any (pn pk i : Nat) (a : Option Addr) (n c b o : Nat) (keys : List ByteArray) (key : ByteArray) (w : World) (hr : IsR fStr 1 w a n b o keys) (c1 : w.cell? ⟨pn, 1, none⟩ = some (.slice a n c)) (ck : w.cell? ⟨pk, 0, none⟩ = some (.string key)) (hi : i < keys.length) (hn : keys.length ≤ 1000000000) :
    Calls Try.prog 40 #[.int .i64 i, .pointer (some ⟨pn, 0, none⟩), .pointer (some ⟨pk, 0, none⟩)] w fun e w' => e = .returned (.bool (abv keys key i)) ∧ ∃ m, w' = w.drewN m := by
  obtain rfl := hr.hlen
  have hget := List.getElem?_eq_getElem hi
  have x0 := hr.one hget (v := .string keys[i]) rfl
  have ha := hr.some_ (by omega)
  have hbl := hr.lt (by omega)
  have hI : (i : Int) < (keys.length : Int) := by omega
  have hI0 : (0 : Int) ≤ (i : Int) := by omega
  have hv : abv keys key i = slt key keys[i] := by unfold abv; rw [hget]
  have hln : pn < w.heap.size := World.block_lt_of_cell? _ _ c1
  have hlk : pk < w.heap.size := World.block_lt_of_cell? _ _ ck
  subst ha
  generalize keys[i] = x at x0 hv
  rw [hv]
  have HS : Hid (slt key x = (!Go.Op.bytesLess x.toList key.toList && !(x.toList == key.toList))) := by
    show _ = _
    rw [show slt key x = !sle x key from by rw [sle_slt, Bool.not_not]]
    unfold sle slt
    rw [Bool.not_or]
  clear hget hv hr
  go_enter Try.func40, Try.ntmps40
  go_wp2_with fail
  go_quiet (fail)
  go_wp2
  go_ret
  refine ⟨?_, _, rfl⟩
  rw [HS.out]
  rfl

set_option maxRecDepth 100000 in
set_option maxHeartbeats 1000000 in
theorem nsearch_any (n pn pk : Nat) (p : Nat → Bool) (w : World) (hn : n ≤ 1000000000) (hf : ∀ m i, i < n → Calls Try.prog 40 #[.int .i64 (i : Nat), .pointer (some ⟨pn, 0, none⟩), .pointer (some ⟨pk, 0, none⟩)] (w.drewN m) fun e w' => e = .returned (.bool (p i)) ∧ ∃ q, w' = (w.drewN m).drewN q) (hm : ∀ a b, a ≤ b → b < n → p a = true → p b = true) :
    Calls Try.prog 39 #[.int .i64 n, .func (.func 40) #[] #[.pointer (some ⟨pn, 0, none⟩), .pointer (some ⟨pk, 0, none⟩)]] w fun e w' => ∃ r m, e = .returned (.int .i64 (r : Nat)) ∧ w' = w.drewN m ∧ r ≤ n ∧ (∀ t, t < r → p t = false) ∧ ∀ t, r ≤ t → t < n → p t = true := by
  have HF := Lib.hid hf
  have HM := Lib.hid hm
  clear hf hm
  go_enter Try.func39, Try.ntmps39
  go_wp2_with fail
  go_loopw [5, 6] (fun v5 v6 wr => ∃ lo hi m : Nat, v5 = .int .i64 lo ∧ v6 = .int .i64 hi ∧ lo ≤ hi ∧ hi ≤ n ∧ wr = w.drewN m ∧ (∀ t, t < lo → p t = false) ∧ ∀ t, hi ≤ t → t < n → p t = true) (fun v5 v6 _ => (intOf v6).toNat - (intOf v5).toNat)
  case atStart => exact ⟨0, n, 0, rfl, rfl, by omega, by omega, rfl, fun t ht => by omega, fun t h1 h2 => by omega⟩
  case round =>
    obtain ⟨lo, hi, m, rfl, rfl, hlh, hin, rfl, hlo, hhi⟩ := hrel
    by_cases hlt : lo < hi
    · have hc := HF.out m ((lo + hi) / 2) (by omega)
      rw [show (((lo + hi) / 2 : Nat) : Int) = ((lo : Int) + (hi : Int)) / 2 by omega] at hc
      cases hp : p ((lo + hi) / 2) <;> rw [hp] at hc
      · have HL : Hid (∀ t, t < (lo + hi) / 2 + 1 → p t = false) := fun t ht => by
          cases h : p t with
          | false => rfl
          | true => have := HM.out t ((lo + hi) / 2) (by omega) (by omega) h; rw [hp] at this; cases this
        have HC := Lib.hid hc
        have HH := Lib.hid hhi
        clear hp hc hlo hhi
        go_wp2_with fail
        refine HC.out.mono ?_
        rintro e w2 ⟨rfl, q, rfl⟩
        go_wp2_with fail
        go_roundw
        case rel => exact ⟨(lo + hi) / 2 + 1, hi, m + q, by rw [show ((lo : Int) + (hi : Int)) / 2 + 1 = (((lo + hi) / 2 + 1 : Nat) : Int) by omega], rfl, by omega, hin, rfl, HL.out, HH.out⟩
        case measure => simp [intOf]; omega
      · have HL : Hid (∀ t, (lo + hi) / 2 ≤ t → t < n → p t = true) := fun t ht htn => HM.out ((lo + hi) / 2) t ht htn hp
        have HC := Lib.hid hc
        have HH := Lib.hid hlo
        clear hp hc hlo hhi
        go_wp2_with fail
        refine HC.out.mono ?_
        rintro e w2 ⟨rfl, q, rfl⟩
        go_wp2_with fail
        go_roundw
        case rel => exact ⟨lo, (lo + hi) / 2, m + q, rfl, by rw [show ((lo : Int) + (hi : Int)) / 2 = (((lo + hi) / 2 : Nat) : Int) by omega], by omega, by omega, rfl, HH.out, HL.out⟩
        case measure => simp [intOf]; omega
    · obtain rfl : hi = lo := by omega
      have HR : Hid ((∀ t, t < hi → p t = false) ∧ ∀ t, hi ≤ t → t < n → p t = true) := ⟨hlo, hhi⟩
      clear hlo hhi
      go_wp2_with fail
      go_ret
      exact ⟨hi, m, rfl, rfl, hin, HR.out.1, HR.out.2⟩

theorem abv_of (v : Nv) (key : ByteArray) (k : Nat) (e : En) (h : v.es[k]? = some e) : abv v.keys key k = !sle e.key key := by
  have hk : k < v.keys.length := by rw [← v.es_len]; exact (List.getElem?_eq_some_iff.1 h).1
  have h1 := List.getElem?_eq_getElem hk
  rw [es_get v k _ h1] at h
  cases h
  unfold abv mkE
  rw [h1, sle_slt]
  simp
theorem plc_none (v : Nv) (key : ByteArray) (h : ∀ t, t < v.keys.length → abv v.keys key t = true) : plcN v.es key = 0 ∧ hitN v.es key = false := by
  have hs := plcN_spec v.es key
  have hno : ∀ (k : Nat) (e : En), v.es[k]? = some e → sle e.key key = false := fun k e he => by
    have h1 := abv_of v key k e he
    rw [h k (by rw [← v.es_len]; exact (List.getElem?_eq_some_iff.1 he).1)] at h1
    simpa using h1.symm
  have h0 : plcN v.es key = 0 := by
    rcases hs.1 with h1 | ⟨e, h1, h2⟩
    · exact h1
    · rw [hno _ _ h1] at h2; cases h2
  refine ⟨h0, ?_⟩
  unfold hitN
  rcases he : v.es[plcN v.es key]? with _ | e
  · rfl
  · have := hno _ _ he
    unfold sle at this
    simp at this
    simpa using this.2
theorem plc_some (v : Nv) (key x : ByteArray) (r : Nat) (hx : v.keys[r]? = some x) (h0 : abv v.keys key r = false) (h : ∀ t, r < t → t < v.keys.length → abv v.keys key t = true) : plcN v.es key = r ∧ hitN v.es key = (x.toList == key.toList) := by
  have hs := plcN_spec v.es key
  have he := es_get v r x hx
  have h1 : plcN v.es key = r := by
    have hle : r ≤ plcN v.es key := by
      by_cases hlt : plcN v.es key < r
      · have := hs.2.1 r _ hlt he
        have h3 := abv_of v key r _ he
        rw [h0, this] at h3
        cases h3
      · omega
    rcases hs.1 with h2 | ⟨e, h2, h3⟩
    · omega
    · by_cases hgt : r < plcN v.es key
      · have h4 := abv_of v key _ e h2
        rw [h _ hgt (by rw [← v.es_len]; exact (List.getElem?_eq_some_iff.1 h2).1), h3] at h4
        cases h4
      · omega
  refine ⟨h1, ?_⟩
  unfold hitN
  rw [h1, he]
  rfl

set_option maxRecDepth 100000 in
set_option maxHeartbeats 1000000 in
theorem place_any : PlaSpec := by
  intro v key w h ho hc hk hr
  have T0 : Tch [] w ((w.alloc (.cells #[.bool v.leaf, .slice v.ka v.kn v.kc, .slice v.va v.vn v.vc, .slice v.ia v.im v.ic] 25)).alloc (.cells #[.string key] 9)) := ((Tch.refl _ _).alloc _).alloc _
  have hb : ((w.alloc (.cells #[.bool v.leaf, .slice v.ka v.kn v.kc, .slice v.va v.vn v.vc, .slice v.ia v.im v.ic] 25)).alloc (.cells #[.string key] 9)).heap[w.heap.size]? = some (.cells #[.bool v.leaf, .slice v.ka v.kn v.kc, .slice v.va v.vn v.vc, .slice v.ia v.im v.ic] 25 (0, 0)) := blk_alloc (blk_new w _) _
  have hg : ((w.alloc (.cells #[.bool v.leaf, .slice v.ka v.kn v.kc, .slice v.va v.vn v.vc, .slice v.ia v.im v.ic] 25)).alloc (.cells #[.string key] 9)).heap[w.heap.size + 1]? = some (.cells #[.string key] 9 (0, 0)) := by
    rw [show w.heap.size + 1 = (w.alloc (.cells #[.bool v.leaf, .slice v.ka v.kn v.kc, .slice v.va v.vn v.vc, .slice v.ia v.im v.ic] 25)).heap.size from by simp]; exact blk_new _ _
  obtain ⟨W2, hW2⟩ : ∃ W2, W2 = (w.alloc (.cells #[.bool v.leaf, .slice v.ka v.kn v.kc, .slice v.va v.vn v.vc, .slice v.ia v.im v.ic] 25)).alloc (.cells #[.string key] 9) := ⟨_, rfl⟩
  rw [← hW2] at T0 hb hg
  have hkl := h.rk.hlen
  have hk8 := ho.lk
  have HS : Hid (∀ n, n = v.kn → Calls Try.prog 39 _ W2 _) := fun n hn => by
    subst hn
    exact nsearch_any v.kn w.heap.size (w.heap.size + 1) (abv v.keys key) W2 (by omega)
      (fun m i hi => nplaceFn_any w.heap.size (w.heap.size + 1) i v.ka v.kn v.kc v.kb v.ko v.keys key (W2.drewN m) ((h.keep0 T0).keep0 (tdrewN (Tch.refl [] W2) m)).rk (blk_cell hb 1) (blk_cell hg 0) (by omega) (by omega))
      (fun a b h1 h2 h3 => abv_mono v.keys key hr a b h1 (by omega) h3)
  have HKN := Lib.hid hkl
  have HIS : Hid (∀ m, IsR fStr 1 (W2.drewN m) v.ka v.kn v.kb v.ko v.keys) := fun m => ((h.keep0 T0).keep0 (tdrewN (Tch.refl [] W2) m)).rk
  have HQ : Hid (∀ m, (W2.drewN m).heap[w.heap.size]? = some (.cells #[.bool v.leaf, .slice v.ka v.kn v.kc, .slice v.va v.vn v.vc, .slice v.ia v.im v.ic] 25 (0, 0)) ∧ (W2.drewN m).heap[w.heap.size + 1]? = some (.cells #[.string key] 9 (0, 0)) ∧ Tch [] w (W2.drewN m)) := fun m => ⟨hb, hg, tdrewN T0 m⟩
  have HZ : Hid ((∀ t, t < v.keys.length → abv v.keys key t = true) → plcN v.es key = 0 ∧ hitN v.es key = false) := plc_none v key
  have HP : Hid (∀ r x, v.keys[r]? = some x → abv v.keys key r = false → (∀ t, r < t → t < v.keys.length → abv v.keys key t = true) → plcN v.es key = r ∧ hitN v.es key = (x.toList == key.toList)) := fun r x => plc_some v key x r
  have HSC := Lib.hid (HS.out _ rfl)
  generalize abv v.keys key = p at *
  generalize plcN v.es key = pl at *
  generalize hitN v.es key = ht at *
  generalize hka : v.ka = ka at *
  generalize hkn : v.kn = kn at *
  have hk9 : kn ≤ 100000000 := by omega
  clear h ho hc hr hb hg T0 HS hkl hk8
  go_enter Try.func22, Try.ntmps22
  go_wp2_with fail
  rw [← hW2]
  clear hW2
  refine HSC.out.mono ?_
  rintro e w3 ⟨r, m, rfl, rfl, hrn, hlo, hhi⟩
  obtain ⟨hb, hg, T3⟩ := HQ.out m
  have hr3 := HIS.out m
  generalize W2.drewN m = w3 at hb hg T3 hr3 ⊢
  have c0 := blk_cell hb 0
  have c1 := blk_cell hb 1
  have ck := blk_cell hg 0
  have l1 := lt_of_block hb
  have l2 := lt_of_block hg
  simp only [List.getElem?_toArray, List.getElem?_cons_zero, List.getElem?_cons_succ] at c0 c1 ck
  clear hb hg HSC HQ HIS
  by_cases h0 : r = 0
  · subst h0
    obtain ⟨rfl, rfl⟩ := HZ.out (fun t ht => hhi t (by omega) (by rw [HKN.out]; exact ht))
    clear hr3 HP HZ hlo hhi
    go_wp2_with fail
    go_ret2
    exact ⟨rfl, T3⟩
  · have hlt : r - 1 < v.keys.length := by have := HKN.out; omega
    have hget := List.getElem?_eq_getElem hlt
    have hE := HP.out (r - 1) _ hget (hlo _ (by omega)) (fun t h1 h2 => hhi t (by omega) (by rw [HKN.out]; exact h2))
    have x0 := hr3.one hget (v := .string v.keys[r - 1]) rfl
    have ha := hr3.some_ (by omega)
    have hbl := hr3.lt (by omega)
    have hd : ((r : Int) == 0) = false := beq_eq_false_iff_ne.2 (by omega)
    have hd2 : (r == 0) = false := beq_eq_false_iff_ne.2 h0
    have hI1 : (0 : Int) ≤ (r : Int) - 1 := by omega
    have hI2 : (r : Int) - 1 < (kn : Int) := by omega
    have hwr : IntKind.i64.wrap ((r : Int) - 1) = (r : Int) - 1 := IntWalk.i64_in _ (by omega)
    have HRR : Hid (((r : Int) - 1) = ((r - 1 : Nat) : Int)) := by show _ = _; omega
    subst ha
    generalize v.keys[r - 1] = x at x0 hE
    have HE : Hid _ := hE
    clear hE hget hr3 HP HZ hlo hhi
    go_wp2_with fail
    go_quiet (fail)
    go_wp2
    go_ret2
    refine ⟨?_, tdrewN T3 _⟩
    rw [HE.out.1, HE.out.2, ← HRR.out]
    rfl
end Go.Proofs.Ytlgfdfpafmopdaa
