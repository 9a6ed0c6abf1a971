/-
  The law NodeHalves, walked: it answers true and turns nothing that was there, if package node answers as the document has it. Condition: lists and texts of fewer than 10^7 parts.
-/
import Derived.Test.YtlgfdfpafmopdaaNHm
namespace Go.Proofs.Ytlgfdfpafmopdaa
open Go.RowKit
set_option linter.unusedVariables false

theorem less_anti : ∀ (x y : List UInt8), Go.Op.bytesLess x y = true → Go.Op.bytesLess y x = false ∧ (y == x) = false
  | [], [], h => by simp [Go.Op.bytesLess] at h
  | a :: x, [], h => by simp [Go.Op.bytesLess] at h
  | [], b :: y, h => by simp [Go.Op.bytesLess]
  | a :: x, b :: y, h => by
    simp only [Go.Op.bytesLess, Bool.or_eq_true, decide_eq_true_eq, Bool.and_eq_true, beq_iff_eq] at h
    rcases h with h | ⟨rfl, h⟩
    · rw [UInt8.lt_iff_toNat_lt] at h
      have h1 : ¬ b < a := by rw [UInt8.lt_iff_toNat_lt]; omega
      have h2 : ¬ b = a := by intro hh; subst hh; omega
      simp [Go.Op.bytesLess, h1, h2]
    · have := less_anti x y h
      have h1 : ¬ a < a := by rw [UInt8.lt_iff_toNat_lt]; omega
      have h3 : ¬ y = x := by have := this.2; simpa using this
      simp [Go.Op.bytesLess, h1, this.1, h3]
theorem sle_no {a b : ByteArray} (h : Go.Op.bytesLess a.toList b.toList = true) : sle b a = false := by
  unfold sle slt
  rw [(less_anti _ _ h).1, (less_anti _ _ h).2]; rfl
/-- The leaf of one entry. -/
def nvK (p : Nat) (key value : ByteArray) : Nv := ⟨true, some ⟨p, 0, none⟩, 1, 1, some ⟨p + 1, 0, none⟩, 1, 1, none, 0, 0, p, 0, p + 1, 0, 0, 0, [key], [value], []⟩
theorem nvK_ok (p : Nat) (key value : ByteArray) (h1 : key.size ≤ 48) (h2 : value.size ≤ 200) : (nvK p key value).Ok := by
  refine ⟨?_, ?_, ?_, ?_, ?_, ?_, ?_⟩ <;> simp [nvK] <;> omega
theorem nvK_caps (p : Nat) (key value : ByteArray) : (nvK p key value).caps := by unfold Nv.caps nvK maxLen; simp
theorem nvK_upto (p : Nat) (key value : ByteArray) (h1 : key.size ≤ 48) (h2 : value.size ≤ 200) : (nvK p key value).upto 10000000 := by
  refine ⟨?_, ?_, ?_, ?_⟩ <;> simp [nvK] <;> omega
theorem nvK_nv (w : World) (key value : ByteArray) : IsNv ((w.alloc (.cells #[.string key] 9)).alloc (.cells #[.string value] 9)) (nvK w.heap.size key value) := by
  have hb0 : ((w.alloc (.cells #[.string key] 9)).alloc (.cells #[.string value] 9)).heap[w.heap.size]? = some (.cells #[.string key] 9 (0, 0)) := blk_alloc (blk_new w _) _
  have hb1 : ((w.alloc (.cells #[.string key] 9)).alloc (.cells #[.string value] 9)).heap[w.heap.size + 1]? = some (.cells #[.string value] 9 (0, 0)) := by
    rw [show w.heap.size + 1 = (w.alloc (.cells #[.string key] 9)).heap.size from by simp]; exact blk_new _ _
  refine ⟨⟨rfl, Or.inr ⟨rfl, lt_of_block hb0⟩, ?_⟩, ⟨rfl, Or.inr ⟨rfl, lt_of_block hb1⟩, ?_⟩, IsR.nil _ _ _ _⟩
  · intro k x hk j v hv
    match k, hk, j, hv with
    | 0, hk, 0, hv => simp [nvK] at hk; subst hk; simp [fStr] at hv; subst hv; exact blk_cell hb0 0
  · intro k x hk j v hv
    match k, hk, j, hv with
    | 0, hk, 0, hv => simp [nvK] at hk; subst hk; simp [fStr] at hv; subst hv; exact blk_cell hb1 0
theorem sum_le (B : Nat) : ∀ (l : List ByteArray), (∀ x ∈ l, x.size ≤ B) → (l.map ByteArray.size).sum ≤ l.length * B
  | [], _ => by simp
  | a :: l, h => by
    have := sum_le B l (fun x hx => h x (List.mem_cons_of_mem _ hx))
    have h1 := h a (List.mem_cons_self ..)
    rw [List.map_cons, List.sum_cons, List.length_cons, Nat.add_mul]
    omega
theorem fits_upto {u : Nv} (h : u.fits = true) (hl : u.leaf = true) : u.upto 10000000 := by
  have hs := Nv.short h
  have hp := flat_pos u.leaf u.es
  have hn := ndb_len u.leaf u.es
  have he := Nv.es_len u
  unfold Nv.fits fitN at h
  simp only [Bool.and_eq_true] at h
  obtain ⟨hlen, ⟨hf, _⟩, _⟩ := h
  rw [hl] at hf
  have hall := fit_all true _ _ hf
  unfold Nv.lens at hlen
  rw [hl, if_pos rfl, Bool.and_eq_true, beq_iff_eq, beq_iff_eq] at hlen
  have hk : u.keys.length ≤ 1024 := by omega
  have hg : ∀ k, k < u.keys.length → fitE true ⟨u.keys.getD k ⟨#[]⟩, u.vals.getD k ⟨#[]⟩, 0⟩ = true := fun k hk => by
    have h1 := List.getElem?_eq_getElem hk
    have h2 := mkN_get u.leaf u.keys u.vals u.kids k _ h1
    have h3 := hall _ (List.mem_of_getElem? h2)
    unfold mkE at h3
    rw [hl, if_pos rfl, if_pos rfl] at h3
    rw [List.getD_eq_getElem?_getD, h1]
    exact h3
  have k1 : ∀ x ∈ u.keys, x.size ≤ 200 := fun x hx => by
    obtain ⟨k, hk, rfl⟩ := List.getElem_of_mem hx
    have := hg k hk
    unfold fitE at this
    simp only [Bool.and_eq_true, decide_eq_true_eq, List.getD_eq_getElem?_getD, List.getElem?_eq_getElem hk, Option.getD_some] at this
    omega
  have k2 : ∀ x ∈ u.vals, x.size ≤ 200 := fun x hx => by
    obtain ⟨k, hk, rfl⟩ := List.getElem_of_mem hx
    have := hg k (by omega)
    unfold fitE at this
    simp only [Bool.and_eq_true, decide_eq_true_eq, if_true, List.getD_eq_getElem?_getD, List.getElem?_eq_getElem hk, Option.getD_some] at this
    omega
  have s1 := sum_le 200 _ k1
  have s2 := sum_le 200 _ k2
  refine ⟨by omega, by omega, by omega, by omega⟩
theorem part_fits {w : World} {a : Nv} {es : List En} (g : a.Good w true es) (h : fitN true es = true) : a.fits = true := by
  unfold Nv.fits; rw [g.lens, g.leaf, g.es, h]; rfl
theorem split_parts (leaf : Bool) (es : List En) : splitN leaf es = [es] ∨ ∃ p q, splitN leaf es = [p, q] ∧ p ++ q = es := by
  unfold splitN
  split
  · exact Or.inl rfl
  · exact Or.inr ⟨_, _, rfl, List.take_append_drop _ _⟩
theorem IsR.str_keep {w w' : World} {a : Option Addr} {n b o J : Nat} {xs : List ByteArray} {cs : Array Value} {t : TypeId} (h : IsR fStr 1 w a n b o xs) (hj : w.heap[J]? = some (.cells cs t (0, 0))) (hcs : ∀ (i : Nat) (s : ByteArray), cs[i]? ≠ some (.string s)) (tt : Tch [J] w w') : IsR fStr 1 w' a n b o xs :=
  h.keep tt (fun hp hm => by
    have hbj : b = J := by simpa using hm
    subst hbj
    have hl : 0 < xs.length := by have := h.hlen; omega
    have := h.row 0 _ (List.getElem?_eq_getElem hl) 0 (.string xs[0]) rfl
    rw [blk_cell hj] at this
    exact hcs _ _ this)
theorem IsR.int_keep {w w' : World} {a : Option Addr} {n b o J : Nat} {xs : List Int} {cs : Array Value} {t : TypeId} (h : IsR fInt 1 w a n b o xs) (hj : w.heap[J]? = some (.cells cs t (0, 0))) (hcs : ∀ (i : Nat) (s : Int), cs[i]? ≠ some (.int .i64 s)) (tt : Tch [J] w w') : IsR fInt 1 w' a n b o xs :=
  h.keep tt (fun hp hm => by
    have hbj : b = J := by simpa using hm
    subst hbj
    have hl : 0 < xs.length := by have := h.hlen; omega
    have := h.row 0 _ (List.getElem?_eq_getElem hl) 0 (.int .i64 xs[0]) rfl
    rw [blk_cell hj] at this
    exact hcs _ _ this)
theorem Nv.Good.set {w w' : World} {q : Nv} {es : List En} {J : Nat} {t : TypeId} {l : Bool} {a b c : Option Addr} {x1 x2 y1 y2 z1 z2 : Nat} (g : q.Good w true es) (hj : w.heap[J]? = some (.cells #[.bool l, .slice a x1 x2, .slice b y1 y2, .slice c z1 z2] t (0, 0))) (tt : Tch [J] w w') : q.Good w' true es := by
  have h1 : ∀ (i : Nat) (s : ByteArray), (#[.bool l, .slice a x1 x2, .slice b y1 y2, .slice c z1 z2] : Array Value)[i]? ≠ some (.string s) := fun i s => by
    match i with
    | 0 => simp
    | 1 => simp
    | 2 => simp
    | 3 => simp
    | n + 4 => simp
  have h2 : ∀ (i : Nat) (s : Int), (#[.bool l, .slice a x1 x2, .slice b y1 y2, .slice c z1 z2] : Array Value)[i]? ≠ some (.int .i64 s) := fun i s => by
    match i with
    | 0 => simp
    | 1 => simp
    | 2 => simp
    | 3 => simp
    | n + 4 => simp
  exact ⟨⟨g.nv.rk.str_keep hj h1 tt, g.nv.rv.str_keep hj h1 tt, g.nv.ri.int_keep hj h2 tt⟩, g.leaf, g.es, g.lens, g.ok, g.caps⟩
/-- The key of the last entry. -/
theorem es_last (v : Nv) (k : Nat) (hk : v.keys.length = k + 1) (a : En) (h : v.es.getLast? = some a) : v.keys[k]? = some a.key := by
  rw [List.getLast?_eq_getElem?, Nv.es_len, hk] at h
  have hkk : v.keys[k]? = some (v.keys[k]'(by omega)) := List.getElem?_eq_getElem (by omega)
  have := mkN_get v.leaf v.keys v.vals v.kids k _ hkk
  unfold Nv.es at h
  rw [show k + 1 - 1 = k from rfl, this] at h
  cases h
  exact hkk

set_option maxRecDepth 100000 in
set_option maxHeartbeats 4000000 in
theorem nhalves_walk (HE : EncSpec) (HW : WeiSpec) (HSP : SplSpec) (HJ : JoiSpec) (HP : PlaSpec) (v : Nv) (key value : ByteArray) (w : World) (hv : IsNv w v) (hov : v.Ok) (hcv : v.caps) (hlv : v.upto 10000000) (hkk : key.size ≤ 10000000) (hvv : value.size ≤ 10000000) :
    Calls Try.prog 6 #[.agg #[.bool v.leaf, .slice v.ka v.kn v.kc, .slice v.va v.vn v.vc, .slice v.ia v.im v.ic], .string key, .string value] w fun e w' => e = .returned (.bool true) ∧ Tch [] w w' := by
  have T0 : Tch [] w (w.alloc (.cells #[.bool v.leaf, .slice v.ka v.kn v.kc, .slice v.va v.vn v.vc, .slice v.ia v.im v.ic] 25)) := (Tch.refl _ _).alloc _
  have hb : IsNb (w.alloc (.cells #[.bool v.leaf, .slice v.ka v.kn v.kc, .slice v.va v.vn v.vc, .slice v.ia v.im v.ic] 25)) w.heap.size v := blk_new w _
  have HK : Hid (∀ w', Tch [] (w.alloc (.cells #[.bool v.leaf, .slice v.ka v.kn v.kc, .slice v.va v.vn v.vc, .slice v.ia v.im v.ic] 25)) w' → IsNb w' w.heap.size v ∧ IsNv w' v ∧ Tch [] w w') := fun w' t =>
    ⟨t.keep hb (by simp), hv.keep0 (T0.trans t), T0.trans t⟩
  have HKK := Lib.hid (nwakes_any HE HP)
  have HF1 : Hid (∀ w', IsNv w' v → _) := fun w' h => nfit_any v w' h hov
  obtain ⟨c0, c1, c2, c3⟩ := hb.c
  have hkl := hv.rk.hlen
  have hkn : v.kn ≤ 10000000 := by have := hlv.1; omega
  have HKL := Lib.hid hkl
  have HOK := Lib.hid hov
  have HCA := Lib.hid hcv
  have HLV := Lib.hid hlv
  clear hkl hov hcv hlv hv hb
  go_enter Try.func6, Try.ntmps6
  go_wp2_with fail
  generalize w.alloc (.cells #[.bool v.leaf, .slice v.ka v.kn v.kc, .slice v.va v.vn v.vc, .slice v.ia v.im v.ic] 25) = W1 at T0 HK c0 c1 c2 c3 ⊢
  generalize w.heap.size = p at HK c0 c1 c2 c3 ⊢
  refine (HKK.out _).mono ?_
  rintro e w1 ⟨rfl, t1⟩
  clear c0 c1 c2 c3
  obtain ⟨hbv, hnv, TW⟩ := HK.out w1 t1
  obtain ⟨c0, c1, c2, c3⟩ := hbv.c
  have HG1 := Lib.hid (HF1.out w1 hnv)
  clear hbv hnv
  go_wp2_with fail
  refine HG1.out.mono ?_
  rintro e w2 ⟨rfl, t2⟩
  have t12 := t1.trans t2
  obtain ⟨hbv2, hnv2, TW2⟩ := HK.out w2 t12
  obtain ⟨d0, d1, d2, d3⟩ := hbv2.c
  clear c0 c1 c2 c3 hbv2
  cases hf1 : v.fits
  · clear hf1
    go_wp2_with fail
    refine (HKK.out _).mono ?_
    rintro e w9 ⟨rfl, t9⟩
    go_wp2_with fail
    go_ret
    exact ⟨rfl, TW2.trans t9⟩
  cases hlf : v.leaf
  · rw [hlf] at d0
    go_wp2_with fail
    refine (HKK.out _).mono ?_
    rintro e w9 ⟨rfl, t9⟩
    go_wp2_with fail
    go_ret
    exact ⟨rfl, TW2.trans t9⟩
  rw [hlf] at d0
  by_cases hk1 : key.size < 1
  · have i1 : decide ((key.size : Int) < (1 : Int)) = true := decide_eq_true (by omega)
    go_wp2_with fail
    refine (HKK.out _).mono ?_
    rintro e w9 ⟨rfl, t9⟩
    go_wp2_with fail
    go_ret
    exact ⟨rfl, TW2.trans t9⟩
  have ihk1 : decide ((key.size : Int) < (1 : Int)) = false := decide_eq_false (by omega)
  by_cases hk2 : 48 < key.size
  · have i1 : decide ((48 : Int) < (key.size : Int)) = true := decide_eq_true (by omega)
    go_wp2_with fail
    refine (HKK.out _).mono ?_
    rintro e w9 ⟨rfl, t9⟩
    go_wp2_with fail
    go_ret
    exact ⟨rfl, TW2.trans t9⟩
  have ihk2 : decide ((48 : Int) < (key.size : Int)) = false := decide_eq_false (by omega)
  by_cases hv1 : 200 < value.size
  · have i1 : decide ((200 : Int) < (value.size : Int)) = true := decide_eq_true (by omega)
    go_wp2_with fail
    refine (HKK.out _).mono ?_
    rintro e w9 ⟨rfl, t9⟩
    go_wp2_with fail
    go_ret
    exact ⟨rfl, TW2.trans t9⟩
  have ihv1 : decide ((200 : Int) < (value.size : Int)) = false := decide_eq_false (by omega)
  have HJJ : Hid (∀ w', Tch [] W1 w' → Calls Try.prog 20 #[.agg #[.bool true, .slice v.ka v.kn v.kc, .slice v.va v.vn v.vc, .slice v.ia v.im v.ic], .agg #[.bool true, .slice (some ⟨w'.heap.size, 0, none⟩) 1 1, .slice (some ⟨w'.heap.size + 1, 0, none⟩) 1 1, .slice none 0 0]] ((w'.alloc (.cells #[.string key] 9)).alloc (.cells #[.string value] 9)) fun e w'' => Tch [] w' w'' ∧ ∃ z : Nv, e = .returned (.agg #[.bool z.leaf, .slice z.ka z.kn z.kc, .slice z.va z.vn z.vc, .slice z.ia z.im z.ic]) ∧ z.Good w'' true (v.es ++ [⟨key, value, 0⟩])) := fun w' t => by
    have tA : Tch [] w' ((w'.alloc (.cells #[.string key] 9)).alloc (.cells #[.string value] 9)) := ((Tch.refl _ _).alloc _).alloc _
    have h := HJ v (nvK w'.heap.size key value) _ ((HK.out _ (t.trans tA)).2.1) (nvK_nv w' key value) HOK.out (nvK_ok _ _ _ (by omega) (by omega)) HLV.out (nvK_upto _ _ _ (by omega) (by omega)) HCA.out (nvK_caps _ _ _)
    rw [hlf] at h
    refine h.mono ?_
    rintro e w'' ⟨t2, z, he, hg⟩
    exact ⟨tA.trans t2, z, he, hg⟩
  have HFE : Hid (fitN true v.es = true) := by
    have := hf1
    unfold Nv.fits at this
    rw [Bool.and_eq_true, hlf] at this
    exact this.2
  have HEE : Hid (fitE true ⟨key, value, 0⟩ = true) := by
    show _ = _
    unfold fitE
    simp only [Bool.and_eq_true, decide_eq_true_eq, if_true]
    omega
  by_cases hk0 : v.kn = 0
  · have i1 : decide ((0 : Int) < (v.kn : Int)) = false := decide_eq_false (by omega)
    have i1b : decide (0 < v.kn) = false := decide_eq_false (by omega)
    have HLA : Hid (∀ a, v.es.getLast? = some a → sle key a.key = false) := fun a ha => by
      have h1 : v.es.length = 0 := by rw [Nv.es_len, ← HKL.out]; exact hk0
      rw [List.eq_nil_of_length_eq_zero h1] at ha
      simp at ha
    have JJ := Lib.hid (HJJ.out w2 t12)
    clear hk0 hf1 hlf hnv2
    go_wp2_with fail
    refine JJ.out.mono ?_
    rintro e w3 ⟨t3, z, rfl, hz⟩
    have t13 := t12.trans t3
    have HH := Lib.hid (halves v.es ⟨key, value, 0⟩ HFE.out HEE.out HLA.out)
    have SP : Hid (∀ w', z.Good w' true (v.es ++ [⟨key, value, 0⟩]) → Calls Try.prog 16 #[.agg #[.bool z.leaf, .slice z.ka z.kn z.kc, .slice z.va z.vn z.vc, .slice z.ia z.im z.ic]] w' fun e w'' => Tch [] w' w'' ∧ ∃ (us : List Nv) (a : Option Addr) (c b o : Nat), e = .returned (.slice a us.length c) ∧ IsR fNv 4 w'' a us.length b o us ∧ us.map Nv.es = splitN true (v.es ++ [⟨key, value, 0⟩]) ∧ ∀ u ∈ us, u.Good w'' true u.es) := fun w' g => by
      refine (HSP z w' g.nv g.ok g.caps).mono ?_
      rintro e w'' ⟨t, us, a, c, b, o, he, h1, h2, h3, h4⟩
      rw [g.leaf, g.es] at h3
      rw [g.leaf] at h4
      exact ⟨t, us, a, c, b, o, he, h2, h3, h4⟩
    have tZ : Tch [] w3 (w3.alloc (.cells #[.bool z.leaf, .slice z.ka z.kn z.kc, .slice z.va z.vn z.vc, .slice z.ia z.im z.ic] 25)) := (Tch.refl _ _).alloc _
    have hX : IsNb (w3.alloc (.cells #[.bool z.leaf, .slice z.ka z.kn z.kc, .slice z.va z.vn z.vc, .slice z.ia z.im z.ic] 25)) w3.heap.size z := blk_new w3 _
    have HZ : Hid (∀ w', Tch [] (w3.alloc (.cells #[.bool z.leaf, .slice z.ka z.kn z.kc, .slice z.va z.vn z.vc, .slice z.ia z.im z.ic] 25)) w' → IsNb w' w3.heap.size z ∧ z.Good w' true (v.es ++ [⟨key, value, 0⟩]) ∧ Tch [] w w') := fun w' t => ⟨t.keep hX (by simp), hz.keep0 (tZ.trans t), (HK.out w' ((t13.trans tZ).trans t)).2.2⟩
    have HZL := Lib.hid hz.leaf
    have HRZ : Hid (∀ w', z.Good w' true (v.es ++ [(⟨key, value, 0⟩ : En)]) → Calls Try.prog 12 #[.agg #[.bool true, .slice z.ka z.kn z.kc, .slice z.va z.vn z.vc, .slice z.ia z.im z.ic]] w' (OfPost w' true (v.es ++ [(⟨key, value, 0⟩ : En)]))) := fun w' g => by
      have h := nref_any z w' g.nv g.ok
      rw [g.es, g.leaf] at h
      exact h
    have HAL : Hid (∀ (q : Nv) w' x c b, q.Good w' true (v.es ++ [(⟨key, value, 0⟩ : En)]) → IsR fEn 3 w' x (v.es ++ [(⟨key, value, 0⟩ : En)]).length b 0 (v.es ++ [(⟨key, value, 0⟩ : En)]) → Calls Try.prog 18 #[.agg #[.bool true, .slice q.ka q.kn q.kc, .slice q.va q.vn q.vc, .slice q.ia q.im q.ic], .agg #[.bool true, .slice x (v.es ++ [(⟨key, value, 0⟩ : En)]).length c]] w' fun e w'' => e = .returned (.bool true) ∧ Tch [] w' w'') := fun q w' x c b g hr => by
      have h := nalike_yes q x (v.es ++ [(⟨key, value, 0⟩ : En)]).length c b 0 w' g.nv g.ok (by rw [g.es]; exact hr) g.lens
      rw [g.leaf] at h
      exact h
    have HPT := split_parts true (v.es ++ [⟨key, value, 0⟩])
    have HAPP : Hid (∃ x, x = v.es ++ [(⟨key, value, 0⟩ : En)]) := ⟨_, rfl⟩
    clear hz hX tZ
    generalize v.es ++ [(⟨key, value, 0⟩ : En)] = es3 at HH SP HZ HPT HRZ HAL
    have SPX := Lib.hid (SP.out _ (HZ.out _ (Tch.refl _ _)).2.1)
    clear SP HJJ HF1 HAPP
    go_wp2_with fail
    generalize w3.alloc (.cells #[.bool z.leaf, .slice z.ka z.kn z.kc, .slice z.va z.vn z.vc, .slice z.ia z.im z.ic] 25) = W4 at HZ SPX ⊢
    generalize w3.heap.size = X at HZ ⊢
    refine SPX.out.mono ?_
    rintro e w5 ⟨t5, us, la, lc, lb, lo, rfl, hrow, hmap, hgood⟩
    rcases HPT with hp | ⟨P1, P2, hp, hpp⟩
    · rw [hp] at hmap HH
      obtain ⟨a, rfl⟩ : ∃ a, us = [a] := by
        match us, hmap with
        | [a], _ => exact ⟨a, rfl⟩
      have hae : a.es = es3 := by simpa using hmap
      have hga := hgood a (by simp)
      rw [hae] at hga
      have y0 := hrow.c0 (k := 0) (x := a) rfl (v := .bool a.leaf) rfl
      have y1 := hrow.c (k := 0) (x := a) rfl 1 (v := .slice a.ka a.kn a.kc) rfl
      have y2 := hrow.c (k := 0) (x := a) rfl 2 (v := .slice a.va a.vn a.vc) rfl
      have y3 := hrow.c (k := 0) (x := a) rfl 3 (v := .slice a.ia a.im a.ic) rfl
      simp only [Nat.zero_mul, Nat.add_zero] at y0 y1 y2 y3
      have hla := hrow.some_ (by simp)
      have hlb := hrow.lt (by simp)
      subst hla
      have haf := part_fits hga (HH.out.1 es3 (by simp))
      have HEA : Hid (∀ w', a.Good w' true es3 → Calls Try.prog 10 #[.agg #[.bool true, .slice a.ka a.kn a.kc, .slice a.va a.vn a.vc, .slice a.ia a.im a.ic]] w' fun e w'' => e = .returned (.tuple #[.string ⟨(ndb true es3).toArray⟩, .int .i64 0]) ∧ Tch [] w' w'') := fun w' g => by
        have h := HE a w' g.nv g.ok g.caps
        rw [haf, if_pos rfl, if_pos rfl, g.leaf, g.es] at h
        exact h
      have HAL0 := Lib.hid hga.leaf
      rw [HAL0.out] at y0
      clear hrow hgood hmap
      go_wp2_with fail
      refine wp_loop_rounds 2 ?_
      rw [rounds_succ]
      go_wp2_with fail
      have hJ : ((w5.alloc (.cells #[.bool true, .slice a.ka a.kn a.kc, .slice a.va a.vn a.vc, .slice a.ia a.im a.ic] 25)).alloc (.cells #[.bool true, .slice a.ka a.kn a.kc, .slice a.va a.vn a.vc, .slice a.ia a.im a.ic] 25)).heap[w5.heap.size]? = some (.cells #[.bool true, .slice a.ka a.kn a.kc, .slice a.va a.vn a.vc, .slice a.ia a.im a.ic] 25 (0, 0)) := blk_alloc (blk_new w5 _) _
      have t56 : Tch [] W4 ((w5.alloc (.cells #[.bool true, .slice a.ka a.kn a.kc, .slice a.va a.vn a.vc, .slice a.ia a.im a.ic] 25)).alloc (.cells #[.bool true, .slice a.ka a.kn a.kc, .slice a.va a.vn a.vc, .slice a.ia a.im a.ic] 25)) := (t5.alloc _).alloc _
      have HQ : Hid (∀ w', Tch [] ((w5.alloc (.cells #[.bool true, .slice a.ka a.kn a.kc, .slice a.va a.vn a.vc, .slice a.ia a.im a.ic] 25)).alloc (.cells #[.bool true, .slice a.ka a.kn a.kc, .slice a.va a.vn a.vc, .slice a.ia a.im a.ic] 25)) w' → w'.heap[w5.heap.size]? = some (.cells #[.bool true, .slice a.ka a.kn a.kc, .slice a.va a.vn a.vc, .slice a.ia a.im a.ic] 25 (0, 0)) ∧ IsNb w' X z ∧ a.Good w' true es3 ∧ z.Good w' true es3 ∧ Tch [] w w') := fun w' t => by
        obtain ⟨a1, a2, a3⟩ := HZ.out w' (t56.trans t)
        exact ⟨t.keep hJ (by simp), a1, hga.keep0 (((Tch.refl [] w5).alloc _).alloc _ |>.trans t), a2, a3⟩
      generalize (w5.alloc (.cells #[.bool true, .slice a.ka a.kn a.kc, .slice a.va a.vn a.vc, .slice a.ia a.im a.ic] 25)).alloc (.cells #[.bool true, .slice a.ka a.kn a.kc, .slice a.va a.vn a.vc, .slice a.ia a.im a.ic] 25) = W6 at HQ hJ t56 ⊢
      generalize w5.heap.size = J at HQ hJ ⊢
      refine (HEA.out _ (HQ.out _ (Tch.refl _ _)).2.2.1).mono ?_
      rintro e w6 ⟨rfl, t6⟩
      obtain ⟨hj6, hx6, hga6, hz6, TW6⟩ := HQ.out w6 t6
      have j0 := blk_cell hj6 0
      have j1 := blk_cell hj6 1
      have j2 := blk_cell hj6 2
      have j3 := blk_cell hj6 3
      simp only [List.getElem?_toArray, List.getElem?_cons_zero, List.getElem?_cons_succ] at j0 j1 j2 j3
      obtain ⟨x0, x1, x2, x3⟩ := hx6.c
      rw [HZL.out] at x0
      clear hJ hj6 hx6 hga6 hz6 hga y0 y1 y2 y3 t56
      go_wp2_with fail
      rw [rounds_succ]
      go_wp2_with fail
      have HC : Hid (∀ w', Tch [] w6.drew w' → w'.cell? { block := J, off := 0 } = some (.bool true) ∧ w'.cell? { block := J, off := 1 } = some (.slice a.ka a.kn a.kc) ∧ w'.cell? { block := J, off := 2 } = some (.slice a.va a.vn a.vc) ∧ w'.cell? { block := J, off := 3 } = some (.slice a.ia a.im a.ic) ∧ w'.cell? { block := X, off := 0 } = some (.bool true) ∧ w'.cell? { block := X, off := 1 } = some (.slice z.ka z.kn z.kc) ∧ w'.cell? { block := X, off := 2 } = some (.slice z.va z.vn z.vc) ∧ w'.cell? { block := X, off := 3 } = some (.slice z.ia z.im z.ic)) := fun w' t => by
        obtain ⟨a1, a2, _⟩ := HQ.out w' ((t6.drew).trans t)
        obtain ⟨b0, b1, b2, b3⟩ := a2.c
        rw [HZL.out] at b0
        exact ⟨by rw [blk_cell a1]; rfl, by rw [blk_cell a1]; rfl, by rw [blk_cell a1]; rfl, by rw [blk_cell a1]; rfl, b0, b1, b2, b3⟩
      have HG : Hid (∀ w', Tch [] w6.drew w' → a.Good w' true es3 ∧ z.Good w' true es3 ∧ Tch [] w w') := fun w' t => (HQ.out w' ((t6.drew).trans t)).2.2
      clear HQ
      go_region_held3 (fun w' => w'.cell? { block := J, off := 0 } = some (.bool true) ∧ w'.cell? { block := J, off := 1 } = some (.slice a.ka a.kn a.kc) ∧ w'.cell? { block := J, off := 2 } = some (.slice a.va a.vn a.vc) ∧ w'.cell? { block := J, off := 3 } = some (.slice a.ia a.im a.ic) ∧ w'.cell? { block := X, off := 0 } = some (.bool true) ∧ w'.cell? { block := X, off := 1 } = some (.slice z.ka z.kn z.kc) ∧ w'.cell? { block := X, off := 2 } = some (.slice z.va z.vn z.vc) ∧ w'.cell? { block := X, off := 3 } = some (.slice z.ia z.im z.ic))
        (first | exact HC.out _ t8 | exact HC.out _ t7 | exact HC.out _ (Tch.refl _ _))
        (first | (go_at_call 12; (with_reducible refine (HRZ.out _ (HG.out _ (Tch.refl _ _)).2.1).mono ?_); rintro e w7 ⟨x, c, b, rfl, hx, _, _, t7⟩; have HA7 := HAL.out a w7 x c b (HG.out _ t7).1 hx) | (go_at_call 18; (with_reducible refine HA7.mono ?_); rintro e w8 ⟨rfl, t8a⟩; have t8 := t7.trans t8a))
      have T8 := (HG.out _ t8).2.2
      go_wp2_with fail
      go_ret
      exact ⟨rfl, T8⟩
    rw [hp] at hmap HH
    obtain ⟨a, b, rfl⟩ : ∃ a b, us = [a, b] := by
      match us, hmap with
      | [a, b], _ => exact ⟨a, b, rfl⟩
    have hae : a.es = P1 ∧ b.es = P2 := by simpa using hmap
    have hga := hgood a (by simp)
    have hgb := hgood b (by simp)
    rw [hae.1] at hga
    rw [hae.2] at hgb
    have y0 := hrow.c0 (k := 0) (x := a) rfl (v := .bool a.leaf) rfl
    have y1 := hrow.c (k := 0) (x := a) rfl 1 (v := .slice a.ka a.kn a.kc) rfl
    have y2 := hrow.c (k := 0) (x := a) rfl 2 (v := .slice a.va a.vn a.vc) rfl
    have y3 := hrow.c (k := 0) (x := a) rfl 3 (v := .slice a.ia a.im a.ic) rfl
    have u0 := hrow.c0 (k := 1) (x := b) rfl (v := .bool b.leaf) rfl
    have u1 := hrow.c (k := 1) (x := b) rfl 1 (v := .slice b.ka b.kn b.kc) rfl
    have u2 := hrow.c (k := 1) (x := b) rfl 2 (v := .slice b.va b.vn b.vc) rfl
    have u3 := hrow.c (k := 1) (x := b) rfl 3 (v := .slice b.ia b.im b.ic) rfl
    simp only [Nat.zero_mul, Nat.one_mul, Nat.add_zero, Nat.add_assoc, Nat.reduceAdd] at y0 y1 y2 y3 u0 u1 u2 u3
    have hla := hrow.some_ (by simp)
    have hlb := hrow.lt (by simp)
    subst hla
    have haf := part_fits hga (HH.out.1 P1 (by simp))
    have hbf := part_fits hgb (HH.out.1 P2 (by simp))
    have hwts : 250 ≤ (ndb true P1).length ∧ 250 ≤ (ndb true P2).length := by
      rcases HH.out.2 with h | h
      · simp at h
      · exact ⟨h P1 (by simp), h P2 (by simp)⟩
    have HEA : Hid (∀ w', a.Good w' true P1 → Calls Try.prog 10 #[.agg #[.bool true, .slice a.ka a.kn a.kc, .slice a.va a.vn a.vc, .slice a.ia a.im a.ic]] w' fun e w'' => e = .returned (.tuple #[.string ⟨(ndb true P1).toArray⟩, .int .i64 0]) ∧ Tch [] w' w'') := fun w' g => by
      have h := HE a w' g.nv g.ok g.caps
      rw [haf, if_pos rfl, if_pos rfl, g.leaf, g.es] at h
      exact h
    have HEB : Hid (∀ w', b.Good w' true P2 → Calls Try.prog 10 #[.agg #[.bool true, .slice b.ka b.kn b.kc, .slice b.va b.vn b.vc, .slice b.ia b.im b.ic]] w' fun e w'' => e = .returned (.tuple #[.string ⟨(ndb true P2).toArray⟩, .int .i64 0]) ∧ Tch [] w' w'') := fun w' g => by
      have h := HE b w' g.nv g.ok g.caps
      rw [hbf, if_pos rfl, if_pos rfl, g.leaf, g.es] at h
      exact h
    have HWA : Hid (∀ w', a.Good w' true P1 → Calls Try.prog 14 #[.agg #[.bool true, .slice a.ka a.kn a.kc, .slice a.va a.vn a.vc, .slice a.ia a.im a.ic]] w' fun e w'' => e = .returned (.int .i64 ((ndb true P1).length : Nat)) ∧ Tch [] w' w'') := fun w' g => by
      have h := HW a w' g.nv g.ok g.caps
      rw [g.leaf, g.es] at h
      exact h
    have HWB : Hid (∀ w', b.Good w' true P2 → Calls Try.prog 14 #[.agg #[.bool true, .slice b.ka b.kn b.kc, .slice b.va b.vn b.vc, .slice b.ia b.im b.ic]] w' fun e w'' => e = .returned (.int .i64 ((ndb true P2).length : Nat)) ∧ Tch [] w' w'') := fun w' g => by
      have h := HW b w' g.nv g.ok g.caps
      rw [g.leaf, g.es] at h
      exact h
    have HJ2 : Hid (∀ w', a.Good w' true P1 → b.Good w' true P2 → Calls Try.prog 20 #[.agg #[.bool true, .slice a.ka a.kn a.kc, .slice a.va a.vn a.vc, .slice a.ia a.im a.ic], .agg #[.bool true, .slice b.ka b.kn b.kc, .slice b.va b.vn b.vc, .slice b.ia b.im b.ic]] w' fun e w'' => Tch [] w' w'' ∧ ∃ q : Nv, e = .returned (.agg #[.bool true, .slice q.ka q.kn q.kc, .slice q.va q.vn q.vc, .slice q.ia q.im q.ic]) ∧ q.Good w'' true es3) := fun w' ga gb => by
      have h := HJ a b w' ga.nv gb.nv ga.ok gb.ok (fits_upto haf ga.leaf) (fits_upto hbf gb.leaf) ga.caps gb.caps
      have hm : mkN a.leaf b.keys b.vals b.kids = P2 := by rw [ga.leaf, ← gb.es]; unfold Nv.es; rw [gb.leaf]
      rw [hm, ga.leaf, gb.leaf, ga.es, hpp] at h
      refine h.mono ?_
      rintro e w'' ⟨t, q, he, hg⟩
      rw [hg.leaf] at he
      exact ⟨t, q, he, hg⟩
    generalize hn1 : (ndb true P1).length = n1 at HWA hwts
    generalize hn2 : (ndb true P2).length = n2 at HWB hwts
    have b1 : decide ((n1 : Int) < 250) = false := decide_eq_false (by omega)
    have b2 : decide ((n2 : Int) < 250) = false := decide_eq_false (by omega)
    have HLA0 := Lib.hid hga.leaf
    have HLB0 := Lib.hid hgb.leaf
    rw [HLA0.out] at y0
    rw [HLB0.out] at u0
    clear hrow hgood hmap hn1 hn2 hwts hae hpp
    go_wp2_with fail
    refine wp_loop_rounds 3 ?_
    rw [rounds_succ]
    go_wp2_with fail
    have hJ : ((w5.alloc (.cells #[.bool true, .slice a.ka a.kn a.kc, .slice a.va a.vn a.vc, .slice a.ia a.im a.ic] 25)).alloc (.cells #[.bool true, .slice a.ka a.kn a.kc, .slice a.va a.vn a.vc, .slice a.ia a.im a.ic] 25)).heap[w5.heap.size]? = some (.cells #[.bool true, .slice a.ka a.kn a.kc, .slice a.va a.vn a.vc, .slice a.ia a.im a.ic] 25 (0, 0)) := blk_alloc (blk_new w5 _) _
    have hJ1 : ((w5.alloc (.cells #[.bool true, .slice a.ka a.kn a.kc, .slice a.va a.vn a.vc, .slice a.ia a.im a.ic] 25)).alloc (.cells #[.bool true, .slice a.ka a.kn a.kc, .slice a.va a.vn a.vc, .slice a.ia a.im a.ic] 25)).heap[w5.heap.size + 1]? = some (.cells #[.bool true, .slice a.ka a.kn a.kc, .slice a.va a.vn a.vc, .slice a.ia a.im a.ic] 25 (0, 0)) := by
      rw [show w5.heap.size + 1 = (w5.alloc (.cells #[.bool true, .slice a.ka a.kn a.kc, .slice a.va a.vn a.vc, .slice a.ia a.im a.ic] 25)).heap.size from by simp]; exact blk_new _ _
    have t55 : Tch [] w5 ((w5.alloc (.cells #[.bool true, .slice a.ka a.kn a.kc, .slice a.va a.vn a.vc, .slice a.ia a.im a.ic] 25)).alloc (.cells #[.bool true, .slice a.ka a.kn a.kc, .slice a.va a.vn a.vc, .slice a.ia a.im a.ic] 25)) := ((Tch.refl [] w5).alloc _).alloc _
    have HQ : Hid (∀ w', Tch [] ((w5.alloc (.cells #[.bool true, .slice a.ka a.kn a.kc, .slice a.va a.vn a.vc, .slice a.ia a.im a.ic] 25)).alloc (.cells #[.bool true, .slice a.ka a.kn a.kc, .slice a.va a.vn a.vc, .slice a.ia a.im a.ic] 25)) w' → w'.heap[w5.heap.size]? = some (.cells #[.bool true, .slice a.ka a.kn a.kc, .slice a.va a.vn a.vc, .slice a.ia a.im a.ic] 25 (0, 0)) ∧ w'.heap[w5.heap.size + 1]? = some (.cells #[.bool true, .slice a.ka a.kn a.kc, .slice a.va a.vn a.vc, .slice a.ia a.im a.ic] 25 (0, 0)) ∧ (w'.cell? { block := lb, off := lo + 4 } = some (.bool true) ∧ w'.cell? { block := lb, off := lo + 5 } = some (.slice b.ka b.kn b.kc) ∧ w'.cell? { block := lb, off := lo + 6 } = some (.slice b.va b.vn b.vc) ∧ w'.cell? { block := lb, off := lo + 7 } = some (.slice b.ia b.im b.ic)) ∧ IsNb w' X z ∧ a.Good w' true P1 ∧ b.Good w' true P2 ∧ z.Good w' true es3 ∧ Tch [] w w' ∧ Tch [] W4 w') := fun w' t => by
      obtain ⟨a1, a2, a3⟩ := HZ.out w' ((t5.trans t55).trans t)
      exact ⟨t.keep hJ (by simp), t.keep hJ1 (by simp), ⟨((t55.trans t).cell hlb (by simp)).trans u0, ((t55.trans t).cell hlb (by simp)).trans u1, ((t55.trans t).cell hlb (by simp)).trans u2, ((t55.trans t).cell hlb (by simp)).trans u3⟩, a1, hga.keep0 (t55.trans t), hgb.keep0 (t55.trans t), a2, a3, (t5.trans t55).trans t⟩
    generalize (w5.alloc (.cells #[.bool true, .slice a.ka a.kn a.kc, .slice a.va a.vn a.vc, .slice a.ia a.im a.ic] 25)).alloc (.cells #[.bool true, .slice a.ka a.kn a.kc, .slice a.va a.vn a.vc, .slice a.ia a.im a.ic] 25) = W6 at HQ hJ hJ1 t55 ⊢
    have hJn : W4.heap.size ≤ w5.heap.size := t5.size
    generalize w5.heap.size = J at HQ hJ hJ1 hJn ⊢
    refine (HEA.out _ (HQ.out _ (Tch.refl _ _)).2.2.2.2.1).mono ?_
    rintro e w6 ⟨rfl, t6⟩
    obtain ⟨hj6, hx6, _⟩ := HQ.out w6 t6
    have x0 := blk_cell hx6 0
    have x1 := blk_cell hx6 1
    have x2 := blk_cell hx6 2
    have x3 := blk_cell hx6 3
    simp only [List.getElem?_toArray, List.getElem?_cons_zero, List.getElem?_cons_succ] at x0 x1 x2 x3
    clear hJ hJ1 hj6 hx6 hga hgb y0 y1 y2 y3 u0 u1 u2 u3 t55
    go_wp2_with fail
    refine (HWA.out _ (HQ.out _ t6).2.2.2.2.1).mono ?_
    rintro e w7 ⟨rfl, t7⟩
    have t67 := t6.trans t7
    clear x0 x1 x2 x3
    obtain ⟨hj7, hx7, ⟨u0, u1, u2, u3⟩, _⟩ := HQ.out w7 t67
    have l7 : lb < w7.heap.size := by
      unfold World.cell? at u0
      rcases Nat.lt_or_ge lb w7.heap.size with h' | h'
      · exact h'
      · simp [Array.getElem?_eq_none h'] at u0
    clear hj7 hx7
    go_wp2_with fail
    rw [rounds_succ]
    go_wp2_with fail
    have hY : (w7.alloc (.cells #[.bool true, .slice b.ka b.kn b.kc, .slice b.va b.vn b.vc, .slice b.ia b.im b.ic] 25)).heap[w7.heap.size]? = some (.cells #[.bool true, .slice b.ka b.kn b.kc, .slice b.va b.vn b.vc, .slice b.ia b.im b.ic] 25 (0, 0)) := blk_new w7 _
    have t77 : Tch [] W6 (w7.alloc (.cells #[.bool true, .slice b.ka b.kn b.kc, .slice b.va b.vn b.vc, .slice b.ia b.im b.ic] 25)) := t67.alloc _
    have HR : Hid (∀ w', Tch [] (w7.alloc (.cells #[.bool true, .slice b.ka b.kn b.kc, .slice b.va b.vn b.vc, .slice b.ia b.im b.ic] 25)) w' → w'.heap[w7.heap.size]? = some (.cells #[.bool true, .slice b.ka b.kn b.kc, .slice b.va b.vn b.vc, .slice b.ia b.im b.ic] 25 (0, 0)) ∧ w'.heap[J]? = some (.cells #[.bool true, .slice a.ka a.kn a.kc, .slice a.va a.vn a.vc, .slice a.ia a.im a.ic] 25 (0, 0)) ∧ IsNb w' X z ∧ a.Good w' true P1 ∧ b.Good w' true P2 ∧ z.Good w' true es3 ∧ Tch [] w w' ∧ Tch [] W4 w') := fun w' t => by
      obtain ⟨a1, _, _, a2, a3, a4, a5, a6⟩ := HQ.out w' (t77.trans t)
      exact ⟨t.keep hY (by simp), a1, a2, a3, a4, a5, a6⟩
    generalize (w7.alloc (.cells #[.bool true, .slice b.ka b.kn b.kc, .slice b.va b.vn b.vc, .slice b.ia b.im b.ic] 25)) = W8 at HR hY t77 ⊢
    generalize w7.heap.size = Y at HR hY ⊢
    refine (HEB.out _ (HR.out _ (Tch.refl _ _)).2.2.2.2.1).mono ?_
    rintro e w8 ⟨rfl, t8⟩
    have x0 := blk_cell (HR.out _ t8).1 0
    have x1 := blk_cell (HR.out _ t8).1 1
    have x2 := blk_cell (HR.out _ t8).1 2
    have x3 := blk_cell (HR.out _ t8).1 3
    simp only [List.getElem?_toArray, List.getElem?_cons_zero, List.getElem?_cons_succ] at x0 x1 x2 x3
    clear u0 u1 u2 u3 hY t77 l7
    go_wp2_with fail
    refine (HWB.out _ (HR.out _ t8).2.2.2.2.1).mono ?_
    rintro e w9 ⟨rfl, t9⟩
    have t89 := t8.trans t9
    clear x0 x1 x2 x3
    have x0 := blk_cell (HR.out _ t89).1 0
    have x1 := blk_cell (HR.out _ t89).1 1
    have x2 := blk_cell (HR.out _ t89).1 2
    have x3 := blk_cell (HR.out _ t89).1 3
    have j0 := blk_cell (HR.out _ t89).2.1 0
    have j1 := blk_cell (HR.out _ t89).2.1 1
    have j2 := blk_cell (HR.out _ t89).2.1 2
    have j3 := blk_cell (HR.out _ t89).2.1 3
    simp only [List.getElem?_toArray, List.getElem?_cons_zero, List.getElem?_cons_succ] at x0 x1 x2 x3 j0 j1 j2 j3
    go_wp2_with fail
    refine (HJ2.out _ (HR.out _ t89).2.2.2.1 (HR.out _ t89).2.2.2.2.1).mono ?_
    rintro e w10 ⟨t10, q, rfl, hgq⟩
    have t890 := t89.trans t10
    obtain ⟨hy10, hj10, hx10, ga10, gb10, gz10, TW10, T410⟩ := HR.out _ t890
    clear x0 x1 x2 x3 j0 j1 j2 j3
    have j0 := blk_cell hj10 0
    have j1 := blk_cell hj10 1
    have j2 := blk_cell hj10 2
    have j3 := blk_cell hj10 3
    simp only [List.getElem?_toArray, List.getElem?_cons_zero, List.getElem?_cons_succ] at j0 j1 j2 j3
    have f0 := blk_free hj10 0
    have f1 := blk_free hj10 1
    have f2 := blk_free hj10 2
    have f3 := blk_free hj10 3
    go_wp2_with fail
    rw [rounds_succ]
    obtain ⟨W11, hW⟩ : ∃ W11 : World, W11 = (((w10.setCell { block := J, off := 0 } (.bool true)).setCell { block := J, off := 1 } (.slice q.ka q.kn q.kc)).setCell { block := J, off := 2 } (.slice q.va q.vn q.vc)).setCell { block := J, off := 3 } (.slice q.ia q.im q.ic) := ⟨_, rfl⟩
    rw [← hW]
    have tJ : Tch [J] w10 W11 := by rw [hW]; exact ((((Tch.refl [J] w10).setCell (by simp) _).setCell (by simp) _).setCell (by simp) _).setCell (by simp) _
    have T11 : Tch [] W4 W11 := by rw [hW]; exact ((((T410.setNew hJn _).setNew hJn _).setNew hJn _).setNew hJn _)
    have hq11 := hgq.set hj10 tJ
    have hj11 : W11.heap[J]? = some (.cells #[.bool true, .slice q.ka q.kn q.kc, .slice q.va q.vn q.vc, .slice q.ia q.im q.ic] 25 (0, 0)) := by
      rw [hW]
      have h := blk_set (blk_set (blk_set (blk_set hj10 0 (.bool true)) 1 (.slice q.ka q.kn q.kc)) 2 (.slice q.va q.vn q.vc)) 3 (.slice q.ia q.im q.ic)
      exact h
    have HC : Hid (∀ w', Tch [] W11.drew w' → w'.cell? { block := J, off := 0 } = some (.bool true) ∧ w'.cell? { block := J, off := 1 } = some (.slice q.ka q.kn q.kc) ∧ w'.cell? { block := J, off := 2 } = some (.slice q.va q.vn q.vc) ∧ w'.cell? { block := J, off := 3 } = some (.slice q.ia q.im q.ic) ∧ w'.cell? { block := X, off := 0 } = some (.bool true) ∧ w'.cell? { block := X, off := 1 } = some (.slice z.ka z.kn z.kc) ∧ w'.cell? { block := X, off := 2 } = some (.slice z.va z.vn z.vc) ∧ w'.cell? { block := X, off := 3 } = some (.slice z.ia z.im z.ic)) := fun w' t => by
      have a1 := ((Tch.refl [] W11).drew.trans t).keep hj11 (by simp)
      obtain ⟨a2, _⟩ := HZ.out w' (T11.drew.trans t)
      obtain ⟨b0, b1, b2, b3⟩ := a2.c
      rw [HZL.out] at b0
      exact ⟨by rw [blk_cell a1]; rfl, by rw [blk_cell a1]; rfl, by rw [blk_cell a1]; rfl, by rw [blk_cell a1]; rfl, b0, b1, b2, b3⟩
    have HG : Hid (∀ w', Tch [] W11.drew w' → q.Good w' true es3 ∧ z.Good w' true es3 ∧ Tch [] w w') := fun w' t => ⟨hq11.keep0 ((Tch.refl [] W11).drew.trans t), (HZ.out w' (T11.drew.trans t)).2⟩
    clear HQ HR f0 f1 f2 f3 j0 j1 j2 j3 hy10 hj10 hx10 ga10 gb10 gz10 hq11 hj11 hW hgq
    go_wp2_with fail
    go_region_held3 (fun w' => w'.cell? { block := J, off := 0 } = some (.bool true) ∧ w'.cell? { block := J, off := 1 } = some (.slice q.ka q.kn q.kc) ∧ w'.cell? { block := J, off := 2 } = some (.slice q.va q.vn q.vc) ∧ w'.cell? { block := J, off := 3 } = some (.slice q.ia q.im q.ic) ∧ w'.cell? { block := X, off := 0 } = some (.bool true) ∧ w'.cell? { block := X, off := 1 } = some (.slice z.ka z.kn z.kc) ∧ w'.cell? { block := X, off := 2 } = some (.slice z.va z.vn z.vc) ∧ w'.cell? { block := X, off := 3 } = some (.slice z.ia z.im z.ic))
      (first | exact HC.out _ t13 | exact HC.out _ t12 | exact HC.out _ (Tch.refl _ _))
      (first | (go_at_call 12; (with_reducible refine (HRZ.out _ (HG.out _ (Tch.refl _ _)).2.1).mono ?_); rintro e w12 ⟨x, c, b, rfl, hx, _, _, t12⟩; have HA7 := HAL.out q w12 x c b (HG.out _ t12).1 hx) | (go_at_call 18; (with_reducible refine HA7.mono ?_); rintro e w13 ⟨rfl, t13a⟩; have t13 := t12.trans t13a))
    have T13 := (HG.out _ t13).2.2
    go_wp2_with fail
    go_ret
    exact ⟨rfl, T13⟩
  obtain ⟨k, hk⟩ : ∃ k, v.kn = k + 1 := ⟨v.kn - 1, by omega⟩
  have i1 : decide ((0 : Int) < (v.kn : Int)) = true := decide_eq_true (by omega)
  have i1b : decide (0 < v.kn) = true := decide_eq_true (by omega)
  have hkl2 : v.keys.length = k + 1 := by rw [← HKL.out]; exact hk
  have hget : v.keys[k]? = some (v.keys[k]'(by omega)) := List.getElem?_eq_getElem (by omega)
  have x0 : w2.cell? { block := v.kb, off := v.ko + k } = some (.string (v.keys[k]'(by omega))) := hnv2.rk.one hget rfl
  have ha := hnv2.rk.some_ (by omega)
  generalize v.keys[k]'(by omega) = last at hget x0
  have hw1 : IntKind.i64.wrap ((v.kn : Int) - 1) = (v.kn : Int) - 1 := IntWalk.i64_in _ (by omega)
  have hI0 : 0 ≤ (v.kn : Int) - 1 := by omega
  have hI1 : 1 ≤ (v.kn : Int) := by omega
  have hI2 : (v.kn : Int) - 1 < (v.kn : Int) := by omega
  have htn : ((v.kn : Int) - 1).toNat = k := by omega
  have HA := Lib.hid ha
  by_cases hs : Go.Op.bytesLess last.toList key.toList = true
  rotate_left
  · have hs : Go.Op.bytesLess last.toList key.toList = false := by simpa using hs
    clear hkl2 hget hk hk0
    rw [ha] at d1
    go_wp2_with fail
    refine (HKK.out _).mono ?_
    rintro e w9 ⟨rfl, t9⟩
    go_wp2_with fail
    go_ret
    exact ⟨rfl, TW2.trans t9⟩
  have HLA : Hid (∀ a, v.es.getLast? = some a → sle key a.key = false) := fun a h => by
    have := es_last v k hkl2 a h
    rw [hget] at this
    cases this
    exact sle_no hs
  clear hkl2 hget hk hk0
  rw [ha] at d1
  have JJ := Lib.hid (HJJ.out w2 t12)
  rw [ha] at JJ
  go_wp2_with fail
  refine JJ.out.mono ?_
  rintro e w3 ⟨t3, z, rfl, hz⟩
  have t13 := t12.trans t3
  have HH := Lib.hid (halves v.es ⟨key, value, 0⟩ HFE.out HEE.out HLA.out)
  have SP : Hid (∀ w', z.Good w' true (v.es ++ [⟨key, value, 0⟩]) → Calls Try.prog 16 #[.agg #[.bool z.leaf, .slice z.ka z.kn z.kc, .slice z.va z.vn z.vc, .slice z.ia z.im z.ic]] w' fun e w'' => Tch [] w' w'' ∧ ∃ (us : List Nv) (a : Option Addr) (c b o : Nat), e = .returned (.slice a us.length c) ∧ IsR fNv 4 w'' a us.length b o us ∧ us.map Nv.es = splitN true (v.es ++ [⟨key, value, 0⟩]) ∧ ∀ u ∈ us, u.Good w'' true u.es) := fun w' g => by
    refine (HSP z w' g.nv g.ok g.caps).mono ?_
    rintro e w'' ⟨t, us, a, c, b, o, he, h1, h2, h3, h4⟩
    rw [g.leaf, g.es] at h3
    rw [g.leaf] at h4
    exact ⟨t, us, a, c, b, o, he, h2, h3, h4⟩
  have tZ : Tch [] w3 (w3.alloc (.cells #[.bool z.leaf, .slice z.ka z.kn z.kc, .slice z.va z.vn z.vc, .slice z.ia z.im z.ic] 25)) := (Tch.refl _ _).alloc _
  have hX : IsNb (w3.alloc (.cells #[.bool z.leaf, .slice z.ka z.kn z.kc, .slice z.va z.vn z.vc, .slice z.ia z.im z.ic] 25)) w3.heap.size z := blk_new w3 _
  have HZ : Hid (∀ w', Tch [] (w3.alloc (.cells #[.bool z.leaf, .slice z.ka z.kn z.kc, .slice z.va z.vn z.vc, .slice z.ia z.im z.ic] 25)) w' → IsNb w' w3.heap.size z ∧ z.Good w' true (v.es ++ [⟨key, value, 0⟩]) ∧ Tch [] w w') := fun w' t => ⟨t.keep hX (by simp), hz.keep0 (tZ.trans t), (HK.out w' ((t13.trans tZ).trans t)).2.2⟩
  have HZL := Lib.hid hz.leaf
  have HRZ : Hid (∀ w', z.Good w' true (v.es ++ [(⟨key, value, 0⟩ : En)]) → Calls Try.prog 12 #[.agg #[.bool true, .slice z.ka z.kn z.kc, .slice z.va z.vn z.vc, .slice z.ia z.im z.ic]] w' (OfPost w' true (v.es ++ [(⟨key, value, 0⟩ : En)]))) := fun w' g => by
    have h := nref_any z w' g.nv g.ok
    rw [g.es, g.leaf] at h
    exact h
  have HAL : Hid (∀ (q : Nv) w' x c b, q.Good w' true (v.es ++ [(⟨key, value, 0⟩ : En)]) → IsR fEn 3 w' x (v.es ++ [(⟨key, value, 0⟩ : En)]).length b 0 (v.es ++ [(⟨key, value, 0⟩ : En)]) → Calls Try.prog 18 #[.agg #[.bool true, .slice q.ka q.kn q.kc, .slice q.va q.vn q.vc, .slice q.ia q.im q.ic], .agg #[.bool true, .slice x (v.es ++ [(⟨key, value, 0⟩ : En)]).length c]] w' fun e w'' => e = .returned (.bool true) ∧ Tch [] w' w'') := fun q w' x c b g hr => by
    have h := nalike_yes q x (v.es ++ [(⟨key, value, 0⟩ : En)]).length c b 0 w' g.nv g.ok (by rw [g.es]; exact hr) g.lens
    rw [g.leaf] at h
    exact h
  have HPT := split_parts true (v.es ++ [⟨key, value, 0⟩])
  have HAPP : Hid (∃ x, x = v.es ++ [(⟨key, value, 0⟩ : En)]) := ⟨_, rfl⟩
  clear hz hX tZ
  generalize v.es ++ [(⟨key, value, 0⟩ : En)] = es3 at HH SP HZ HPT HRZ HAL
  have SPX := Lib.hid (SP.out _ (HZ.out _ (Tch.refl _ _)).2.1)
  clear SP HJJ HF1 HAPP
  go_wp2_with fail
  generalize w3.alloc (.cells #[.bool z.leaf, .slice z.ka z.kn z.kc, .slice z.va z.vn z.vc, .slice z.ia z.im z.ic] 25) = W4 at HZ SPX ⊢
  generalize w3.heap.size = X at HZ ⊢
  refine SPX.out.mono ?_
  rintro e w5 ⟨t5, us, la, lc, lb, lo, rfl, hrow, hmap, hgood⟩
  rcases HPT with hp | ⟨P1, P2, hp, hpp⟩
  · rw [hp] at hmap HH
    obtain ⟨a, rfl⟩ : ∃ a, us = [a] := by
      match us, hmap with
      | [a], _ => exact ⟨a, rfl⟩
    have hae : a.es = es3 := by simpa using hmap
    have hga := hgood a (by simp)
    rw [hae] at hga
    have y0 := hrow.c0 (k := 0) (x := a) rfl (v := .bool a.leaf) rfl
    have y1 := hrow.c (k := 0) (x := a) rfl 1 (v := .slice a.ka a.kn a.kc) rfl
    have y2 := hrow.c (k := 0) (x := a) rfl 2 (v := .slice a.va a.vn a.vc) rfl
    have y3 := hrow.c (k := 0) (x := a) rfl 3 (v := .slice a.ia a.im a.ic) rfl
    simp only [Nat.zero_mul, Nat.add_zero] at y0 y1 y2 y3
    have hla := hrow.some_ (by simp)
    have hlb := hrow.lt (by simp)
    subst hla
    have haf := part_fits hga (HH.out.1 es3 (by simp))
    have HEA : Hid (∀ w', a.Good w' true es3 → Calls Try.prog 10 #[.agg #[.bool true, .slice a.ka a.kn a.kc, .slice a.va a.vn a.vc, .slice a.ia a.im a.ic]] w' fun e w'' => e = .returned (.tuple #[.string ⟨(ndb true es3).toArray⟩, .int .i64 0]) ∧ Tch [] w' w'') := fun w' g => by
      have h := HE a w' g.nv g.ok g.caps
      rw [haf, if_pos rfl, if_pos rfl, g.leaf, g.es] at h
      exact h
    have HAL0 := Lib.hid hga.leaf
    rw [HAL0.out] at y0
    clear hrow hgood hmap
    go_wp2_with fail
    refine wp_loop_rounds 2 ?_
    rw [rounds_succ]
    go_wp2_with fail
    have hJ : ((w5.alloc (.cells #[.bool true, .slice a.ka a.kn a.kc, .slice a.va a.vn a.vc, .slice a.ia a.im a.ic] 25)).alloc (.cells #[.bool true, .slice a.ka a.kn a.kc, .slice a.va a.vn a.vc, .slice a.ia a.im a.ic] 25)).heap[w5.heap.size]? = some (.cells #[.bool true, .slice a.ka a.kn a.kc, .slice a.va a.vn a.vc, .slice a.ia a.im a.ic] 25 (0, 0)) := blk_alloc (blk_new w5 _) _
    have t56 : Tch [] W4 ((w5.alloc (.cells #[.bool true, .slice a.ka a.kn a.kc, .slice a.va a.vn a.vc, .slice a.ia a.im a.ic] 25)).alloc (.cells #[.bool true, .slice a.ka a.kn a.kc, .slice a.va a.vn a.vc, .slice a.ia a.im a.ic] 25)) := (t5.alloc _).alloc _
    have HQ : Hid (∀ w', Tch [] ((w5.alloc (.cells #[.bool true, .slice a.ka a.kn a.kc, .slice a.va a.vn a.vc, .slice a.ia a.im a.ic] 25)).alloc (.cells #[.bool true, .slice a.ka a.kn a.kc, .slice a.va a.vn a.vc, .slice a.ia a.im a.ic] 25)) w' → w'.heap[w5.heap.size]? = some (.cells #[.bool true, .slice a.ka a.kn a.kc, .slice a.va a.vn a.vc, .slice a.ia a.im a.ic] 25 (0, 0)) ∧ IsNb w' X z ∧ a.Good w' true es3 ∧ z.Good w' true es3 ∧ Tch [] w w') := fun w' t => by
      obtain ⟨a1, a2, a3⟩ := HZ.out w' (t56.trans t)
      exact ⟨t.keep hJ (by simp), a1, hga.keep0 (((Tch.refl [] w5).alloc _).alloc _ |>.trans t), a2, a3⟩
    generalize (w5.alloc (.cells #[.bool true, .slice a.ka a.kn a.kc, .slice a.va a.vn a.vc, .slice a.ia a.im a.ic] 25)).alloc (.cells #[.bool true, .slice a.ka a.kn a.kc, .slice a.va a.vn a.vc, .slice a.ia a.im a.ic] 25) = W6 at HQ hJ t56 ⊢
    generalize w5.heap.size = J at HQ hJ ⊢
    refine (HEA.out _ (HQ.out _ (Tch.refl _ _)).2.2.1).mono ?_
    rintro e w6 ⟨rfl, t6⟩
    obtain ⟨hj6, hx6, hga6, hz6, TW6⟩ := HQ.out w6 t6
    have j0 := blk_cell hj6 0
    have j1 := blk_cell hj6 1
    have j2 := blk_cell hj6 2
    have j3 := blk_cell hj6 3
    simp only [List.getElem?_toArray, List.getElem?_cons_zero, List.getElem?_cons_succ] at j0 j1 j2 j3
    obtain ⟨x0, x1, x2, x3⟩ := hx6.c
    rw [HZL.out] at x0
    clear hJ hj6 hx6 hga6 hz6 hga y0 y1 y2 y3 t56
    go_wp2_with fail
    rw [rounds_succ]
    go_wp2_with fail
    have HC : Hid (∀ w', Tch [] w6.drew w' → w'.cell? { block := J, off := 0 } = some (.bool true) ∧ w'.cell? { block := J, off := 1 } = some (.slice a.ka a.kn a.kc) ∧ w'.cell? { block := J, off := 2 } = some (.slice a.va a.vn a.vc) ∧ w'.cell? { block := J, off := 3 } = some (.slice a.ia a.im a.ic) ∧ w'.cell? { block := X, off := 0 } = some (.bool true) ∧ w'.cell? { block := X, off := 1 } = some (.slice z.ka z.kn z.kc) ∧ w'.cell? { block := X, off := 2 } = some (.slice z.va z.vn z.vc) ∧ w'.cell? { block := X, off := 3 } = some (.slice z.ia z.im z.ic)) := fun w' t => by
      obtain ⟨a1, a2, _⟩ := HQ.out w' ((t6.drew).trans t)
      obtain ⟨b0, b1, b2, b3⟩ := a2.c
      rw [HZL.out] at b0
      exact ⟨by rw [blk_cell a1]; rfl, by rw [blk_cell a1]; rfl, by rw [blk_cell a1]; rfl, by rw [blk_cell a1]; rfl, b0, b1, b2, b3⟩
    have HG : Hid (∀ w', Tch [] w6.drew w' → a.Good w' true es3 ∧ z.Good w' true es3 ∧ Tch [] w w') := fun w' t => (HQ.out w' ((t6.drew).trans t)).2.2
    clear HQ
    go_region_held3 (fun w' => w'.cell? { block := J, off := 0 } = some (.bool true) ∧ w'.cell? { block := J, off := 1 } = some (.slice a.ka a.kn a.kc) ∧ w'.cell? { block := J, off := 2 } = some (.slice a.va a.vn a.vc) ∧ w'.cell? { block := J, off := 3 } = some (.slice a.ia a.im a.ic) ∧ w'.cell? { block := X, off := 0 } = some (.bool true) ∧ w'.cell? { block := X, off := 1 } = some (.slice z.ka z.kn z.kc) ∧ w'.cell? { block := X, off := 2 } = some (.slice z.va z.vn z.vc) ∧ w'.cell? { block := X, off := 3 } = some (.slice z.ia z.im z.ic))
      (first | exact HC.out _ t8 | exact HC.out _ t7 | exact HC.out _ (Tch.refl _ _))
      (first | (go_at_call 12; (with_reducible refine (HRZ.out _ (HG.out _ (Tch.refl _ _)).2.1).mono ?_); rintro e w7 ⟨x, c, b, rfl, hx, _, _, t7⟩; have HA7 := HAL.out a w7 x c b (HG.out _ t7).1 hx) | (go_at_call 18; (with_reducible refine HA7.mono ?_); rintro e w8 ⟨rfl, t8a⟩; have t8 := t7.trans t8a))
    have T8 := (HG.out _ t8).2.2
    go_wp2_with fail
    go_ret
    exact ⟨rfl, T8⟩
  rw [hp] at hmap HH
  obtain ⟨a, b, rfl⟩ : ∃ a b, us = [a, b] := by
    match us, hmap with
    | [a, b], _ => exact ⟨a, b, rfl⟩
  have hae : a.es = P1 ∧ b.es = P2 := by simpa using hmap
  have hga := hgood a (by simp)
  have hgb := hgood b (by simp)
  rw [hae.1] at hga
  rw [hae.2] at hgb
  have y0 := hrow.c0 (k := 0) (x := a) rfl (v := .bool a.leaf) rfl
  have y1 := hrow.c (k := 0) (x := a) rfl 1 (v := .slice a.ka a.kn a.kc) rfl
  have y2 := hrow.c (k := 0) (x := a) rfl 2 (v := .slice a.va a.vn a.vc) rfl
  have y3 := hrow.c (k := 0) (x := a) rfl 3 (v := .slice a.ia a.im a.ic) rfl
  have u0 := hrow.c0 (k := 1) (x := b) rfl (v := .bool b.leaf) rfl
  have u1 := hrow.c (k := 1) (x := b) rfl 1 (v := .slice b.ka b.kn b.kc) rfl
  have u2 := hrow.c (k := 1) (x := b) rfl 2 (v := .slice b.va b.vn b.vc) rfl
  have u3 := hrow.c (k := 1) (x := b) rfl 3 (v := .slice b.ia b.im b.ic) rfl
  simp only [Nat.zero_mul, Nat.one_mul, Nat.add_zero, Nat.add_assoc, Nat.reduceAdd] at y0 y1 y2 y3 u0 u1 u2 u3
  have hla := hrow.some_ (by simp)
  have hlb := hrow.lt (by simp)
  subst hla
  have haf := part_fits hga (HH.out.1 P1 (by simp))
  have hbf := part_fits hgb (HH.out.1 P2 (by simp))
  have hwts : 250 ≤ (ndb true P1).length ∧ 250 ≤ (ndb true P2).length := by
    rcases HH.out.2 with h | h
    · simp at h
    · exact ⟨h P1 (by simp), h P2 (by simp)⟩
  have HEA : Hid (∀ w', a.Good w' true P1 → Calls Try.prog 10 #[.agg #[.bool true, .slice a.ka a.kn a.kc, .slice a.va a.vn a.vc, .slice a.ia a.im a.ic]] w' fun e w'' => e = .returned (.tuple #[.string ⟨(ndb true P1).toArray⟩, .int .i64 0]) ∧ Tch [] w' w'') := fun w' g => by
    have h := HE a w' g.nv g.ok g.caps
    rw [haf, if_pos rfl, if_pos rfl, g.leaf, g.es] at h
    exact h
  have HEB : Hid (∀ w', b.Good w' true P2 → Calls Try.prog 10 #[.agg #[.bool true, .slice b.ka b.kn b.kc, .slice b.va b.vn b.vc, .slice b.ia b.im b.ic]] w' fun e w'' => e = .returned (.tuple #[.string ⟨(ndb true P2).toArray⟩, .int .i64 0]) ∧ Tch [] w' w'') := fun w' g => by
    have h := HE b w' g.nv g.ok g.caps
    rw [hbf, if_pos rfl, if_pos rfl, g.leaf, g.es] at h
    exact h
  have HWA : Hid (∀ w', a.Good w' true P1 → Calls Try.prog 14 #[.agg #[.bool true, .slice a.ka a.kn a.kc, .slice a.va a.vn a.vc, .slice a.ia a.im a.ic]] w' fun e w'' => e = .returned (.int .i64 ((ndb true P1).length : Nat)) ∧ Tch [] w' w'') := fun w' g => by
    have h := HW a w' g.nv g.ok g.caps
    rw [g.leaf, g.es] at h
    exact h
  have HWB : Hid (∀ w', b.Good w' true P2 → Calls Try.prog 14 #[.agg #[.bool true, .slice b.ka b.kn b.kc, .slice b.va b.vn b.vc, .slice b.ia b.im b.ic]] w' fun e w'' => e = .returned (.int .i64 ((ndb true P2).length : Nat)) ∧ Tch [] w' w'') := fun w' g => by
    have h := HW b w' g.nv g.ok g.caps
    rw [g.leaf, g.es] at h
    exact h
  have HJ2 : Hid (∀ w', a.Good w' true P1 → b.Good w' true P2 → Calls Try.prog 20 #[.agg #[.bool true, .slice a.ka a.kn a.kc, .slice a.va a.vn a.vc, .slice a.ia a.im a.ic], .agg #[.bool true, .slice b.ka b.kn b.kc, .slice b.va b.vn b.vc, .slice b.ia b.im b.ic]] w' fun e w'' => Tch [] w' w'' ∧ ∃ q : Nv, e = .returned (.agg #[.bool true, .slice q.ka q.kn q.kc, .slice q.va q.vn q.vc, .slice q.ia q.im q.ic]) ∧ q.Good w'' true es3) := fun w' ga gb => by
    have h := HJ a b w' ga.nv gb.nv ga.ok gb.ok (fits_upto haf ga.leaf) (fits_upto hbf gb.leaf) ga.caps gb.caps
    have hm : mkN a.leaf b.keys b.vals b.kids = P2 := by rw [ga.leaf, ← gb.es]; unfold Nv.es; rw [gb.leaf]
    rw [hm, ga.leaf, gb.leaf, ga.es, hpp] at h
    refine h.mono ?_
    rintro e w'' ⟨t, q, he, hg⟩
    rw [hg.leaf] at he
    exact ⟨t, q, he, hg⟩
  generalize hn1 : (ndb true P1).length = n1 at HWA hwts
  generalize hn2 : (ndb true P2).length = n2 at HWB hwts
  have b1 : decide ((n1 : Int) < 250) = false := decide_eq_false (by omega)
  have b2 : decide ((n2 : Int) < 250) = false := decide_eq_false (by omega)
  have HLA0 := Lib.hid hga.leaf
  have HLB0 := Lib.hid hgb.leaf
  rw [HLA0.out] at y0
  rw [HLB0.out] at u0
  clear hrow hgood hmap hn1 hn2 hwts hae hpp
  go_wp2_with fail
  refine wp_loop_rounds 3 ?_
  rw [rounds_succ]
  go_wp2_with fail
  have hJ : ((w5.alloc (.cells #[.bool true, .slice a.ka a.kn a.kc, .slice a.va a.vn a.vc, .slice a.ia a.im a.ic] 25)).alloc (.cells #[.bool true, .slice a.ka a.kn a.kc, .slice a.va a.vn a.vc, .slice a.ia a.im a.ic] 25)).heap[w5.heap.size]? = some (.cells #[.bool true, .slice a.ka a.kn a.kc, .slice a.va a.vn a.vc, .slice a.ia a.im a.ic] 25 (0, 0)) := blk_alloc (blk_new w5 _) _
  have hJ1 : ((w5.alloc (.cells #[.bool true, .slice a.ka a.kn a.kc, .slice a.va a.vn a.vc, .slice a.ia a.im a.ic] 25)).alloc (.cells #[.bool true, .slice a.ka a.kn a.kc, .slice a.va a.vn a.vc, .slice a.ia a.im a.ic] 25)).heap[w5.heap.size + 1]? = some (.cells #[.bool true, .slice a.ka a.kn a.kc, .slice a.va a.vn a.vc, .slice a.ia a.im a.ic] 25 (0, 0)) := by
    rw [show w5.heap.size + 1 = (w5.alloc (.cells #[.bool true, .slice a.ka a.kn a.kc, .slice a.va a.vn a.vc, .slice a.ia a.im a.ic] 25)).heap.size from by simp]; exact blk_new _ _
  have t55 : Tch [] w5 ((w5.alloc (.cells #[.bool true, .slice a.ka a.kn a.kc, .slice a.va a.vn a.vc, .slice a.ia a.im a.ic] 25)).alloc (.cells #[.bool true, .slice a.ka a.kn a.kc, .slice a.va a.vn a.vc, .slice a.ia a.im a.ic] 25)) := ((Tch.refl [] w5).alloc _).alloc _
  have HQ : Hid (∀ w', Tch [] ((w5.alloc (.cells #[.bool true, .slice a.ka a.kn a.kc, .slice a.va a.vn a.vc, .slice a.ia a.im a.ic] 25)).alloc (.cells #[.bool true, .slice a.ka a.kn a.kc, .slice a.va a.vn a.vc, .slice a.ia a.im a.ic] 25)) w' → w'.heap[w5.heap.size]? = some (.cells #[.bool true, .slice a.ka a.kn a.kc, .slice a.va a.vn a.vc, .slice a.ia a.im a.ic] 25 (0, 0)) ∧ w'.heap[w5.heap.size + 1]? = some (.cells #[.bool true, .slice a.ka a.kn a.kc, .slice a.va a.vn a.vc, .slice a.ia a.im a.ic] 25 (0, 0)) ∧ (w'.cell? { block := lb, off := lo + 4 } = some (.bool true) ∧ w'.cell? { block := lb, off := lo + 5 } = some (.slice b.ka b.kn b.kc) ∧ w'.cell? { block := lb, off := lo + 6 } = some (.slice b.va b.vn b.vc) ∧ w'.cell? { block := lb, off := lo + 7 } = some (.slice b.ia b.im b.ic)) ∧ IsNb w' X z ∧ a.Good w' true P1 ∧ b.Good w' true P2 ∧ z.Good w' true es3 ∧ Tch [] w w' ∧ Tch [] W4 w') := fun w' t => by
    obtain ⟨a1, a2, a3⟩ := HZ.out w' ((t5.trans t55).trans t)
    exact ⟨t.keep hJ (by simp), t.keep hJ1 (by simp), ⟨((t55.trans t).cell hlb (by simp)).trans u0, ((t55.trans t).cell hlb (by simp)).trans u1, ((t55.trans t).cell hlb (by simp)).trans u2, ((t55.trans t).cell hlb (by simp)).trans u3⟩, a1, hga.keep0 (t55.trans t), hgb.keep0 (t55.trans t), a2, a3, (t5.trans t55).trans t⟩
  generalize (w5.alloc (.cells #[.bool true, .slice a.ka a.kn a.kc, .slice a.va a.vn a.vc, .slice a.ia a.im a.ic] 25)).alloc (.cells #[.bool true, .slice a.ka a.kn a.kc, .slice a.va a.vn a.vc, .slice a.ia a.im a.ic] 25) = W6 at HQ hJ hJ1 t55 ⊢
  have hJn : W4.heap.size ≤ w5.heap.size := t5.size
  generalize w5.heap.size = J at HQ hJ hJ1 hJn ⊢
  refine (HEA.out _ (HQ.out _ (Tch.refl _ _)).2.2.2.2.1).mono ?_
  rintro e w6 ⟨rfl, t6⟩
  obtain ⟨hj6, hx6, _⟩ := HQ.out w6 t6
  have x0 := blk_cell hx6 0
  have x1 := blk_cell hx6 1
  have x2 := blk_cell hx6 2
  have x3 := blk_cell hx6 3
  simp only [List.getElem?_toArray, List.getElem?_cons_zero, List.getElem?_cons_succ] at x0 x1 x2 x3
  clear hJ hJ1 hj6 hx6 hga hgb y0 y1 y2 y3 u0 u1 u2 u3 t55
  go_wp2_with fail
  refine (HWA.out _ (HQ.out _ t6).2.2.2.2.1).mono ?_
  rintro e w7 ⟨rfl, t7⟩
  have t67 := t6.trans t7
  clear x0 x1 x2 x3
  obtain ⟨hj7, hx7, ⟨u0, u1, u2, u3⟩, _⟩ := HQ.out w7 t67
  have l7 : lb < w7.heap.size := by
    unfold World.cell? at u0
    rcases Nat.lt_or_ge lb w7.heap.size with h' | h'
    · exact h'
    · simp [Array.getElem?_eq_none h'] at u0
  clear hj7 hx7
  go_wp2_with fail
  rw [rounds_succ]
  go_wp2_with fail
  have hY : (w7.alloc (.cells #[.bool true, .slice b.ka b.kn b.kc, .slice b.va b.vn b.vc, .slice b.ia b.im b.ic] 25)).heap[w7.heap.size]? = some (.cells #[.bool true, .slice b.ka b.kn b.kc, .slice b.va b.vn b.vc, .slice b.ia b.im b.ic] 25 (0, 0)) := blk_new w7 _
  have t77 : Tch [] W6 (w7.alloc (.cells #[.bool true, .slice b.ka b.kn b.kc, .slice b.va b.vn b.vc, .slice b.ia b.im b.ic] 25)) := t67.alloc _
  have HR : Hid (∀ w', Tch [] (w7.alloc (.cells #[.bool true, .slice b.ka b.kn b.kc, .slice b.va b.vn b.vc, .slice b.ia b.im b.ic] 25)) w' → w'.heap[w7.heap.size]? = some (.cells #[.bool true, .slice b.ka b.kn b.kc, .slice b.va b.vn b.vc, .slice b.ia b.im b.ic] 25 (0, 0)) ∧ w'.heap[J]? = some (.cells #[.bool true, .slice a.ka a.kn a.kc, .slice a.va a.vn a.vc, .slice a.ia a.im a.ic] 25 (0, 0)) ∧ IsNb w' X z ∧ a.Good w' true P1 ∧ b.Good w' true P2 ∧ z.Good w' true es3 ∧ Tch [] w w' ∧ Tch [] W4 w') := fun w' t => by
    obtain ⟨a1, _, _, a2, a3, a4, a5, a6⟩ := HQ.out w' (t77.trans t)
    exact ⟨t.keep hY (by simp), a1, a2, a3, a4, a5, a6⟩
  generalize (w7.alloc (.cells #[.bool true, .slice b.ka b.kn b.kc, .slice b.va b.vn b.vc, .slice b.ia b.im b.ic] 25)) = W8 at HR hY t77 ⊢
  generalize w7.heap.size = Y at HR hY ⊢
  refine (HEB.out _ (HR.out _ (Tch.refl _ _)).2.2.2.2.1).mono ?_
  rintro e w8 ⟨rfl, t8⟩
  have x0 := blk_cell (HR.out _ t8).1 0
  have x1 := blk_cell (HR.out _ t8).1 1
  have x2 := blk_cell (HR.out _ t8).1 2
  have x3 := blk_cell (HR.out _ t8).1 3
  simp only [List.getElem?_toArray, List.getElem?_cons_zero, List.getElem?_cons_succ] at x0 x1 x2 x3
  clear u0 u1 u2 u3 hY t77 l7
  go_wp2_with fail
  refine (HWB.out _ (HR.out _ t8).2.2.2.2.1).mono ?_
  rintro e w9 ⟨rfl, t9⟩
  have t89 := t8.trans t9
  clear x0 x1 x2 x3
  have x0 := blk_cell (HR.out _ t89).1 0
  have x1 := blk_cell (HR.out _ t89).1 1
  have x2 := blk_cell (HR.out _ t89).1 2
  have x3 := blk_cell (HR.out _ t89).1 3
  have j0 := blk_cell (HR.out _ t89).2.1 0
  have j1 := blk_cell (HR.out _ t89).2.1 1
  have j2 := blk_cell (HR.out _ t89).2.1 2
  have j3 := blk_cell (HR.out _ t89).2.1 3
  simp only [List.getElem?_toArray, List.getElem?_cons_zero, List.getElem?_cons_succ] at x0 x1 x2 x3 j0 j1 j2 j3
  go_wp2_with fail
  refine (HJ2.out _ (HR.out _ t89).2.2.2.1 (HR.out _ t89).2.2.2.2.1).mono ?_
  rintro e w10 ⟨t10, q, rfl, hgq⟩
  have t890 := t89.trans t10
  obtain ⟨hy10, hj10, hx10, ga10, gb10, gz10, TW10, T410⟩ := HR.out _ t890
  clear x0 x1 x2 x3 j0 j1 j2 j3
  have j0 := blk_cell hj10 0
  have j1 := blk_cell hj10 1
  have j2 := blk_cell hj10 2
  have j3 := blk_cell hj10 3
  simp only [List.getElem?_toArray, List.getElem?_cons_zero, List.getElem?_cons_succ] at j0 j1 j2 j3
  have f0 := blk_free hj10 0
  have f1 := blk_free hj10 1
  have f2 := blk_free hj10 2
  have f3 := blk_free hj10 3
  go_wp2_with fail
  rw [rounds_succ]
  obtain ⟨W11, hW⟩ : ∃ W11 : World, W11 = (((w10.setCell { block := J, off := 0 } (.bool true)).setCell { block := J, off := 1 } (.slice q.ka q.kn q.kc)).setCell { block := J, off := 2 } (.slice q.va q.vn q.vc)).setCell { block := J, off := 3 } (.slice q.ia q.im q.ic) := ⟨_, rfl⟩
  rw [← hW]
  have tJ : Tch [J] w10 W11 := by rw [hW]; exact ((((Tch.refl [J] w10).setCell (by simp) _).setCell (by simp) _).setCell (by simp) _).setCell (by simp) _
  have T11 : Tch [] W4 W11 := by rw [hW]; exact ((((T410.setNew hJn _).setNew hJn _).setNew hJn _).setNew hJn _)
  have hq11 := hgq.set hj10 tJ
  have hj11 : W11.heap[J]? = some (.cells #[.bool true, .slice q.ka q.kn q.kc, .slice q.va q.vn q.vc, .slice q.ia q.im q.ic] 25 (0, 0)) := by
    rw [hW]
    have h := blk_set (blk_set (blk_set (blk_set hj10 0 (.bool true)) 1 (.slice q.ka q.kn q.kc)) 2 (.slice q.va q.vn q.vc)) 3 (.slice q.ia q.im q.ic)
    exact h
  have HC : Hid (∀ w', Tch [] W11.drew w' → w'.cell? { block := J, off := 0 } = some (.bool true) ∧ w'.cell? { block := J, off := 1 } = some (.slice q.ka q.kn q.kc) ∧ w'.cell? { block := J, off := 2 } = some (.slice q.va q.vn q.vc) ∧ w'.cell? { block := J, off := 3 } = some (.slice q.ia q.im q.ic) ∧ w'.cell? { block := X, off := 0 } = some (.bool true) ∧ w'.cell? { block := X, off := 1 } = some (.slice z.ka z.kn z.kc) ∧ w'.cell? { block := X, off := 2 } = some (.slice z.va z.vn z.vc) ∧ w'.cell? { block := X, off := 3 } = some (.slice z.ia z.im z.ic)) := fun w' t => by
    have a1 := ((Tch.refl [] W11).drew.trans t).keep hj11 (by simp)
    obtain ⟨a2, _⟩ := HZ.out w' (T11.drew.trans t)
    obtain ⟨b0, b1, b2, b3⟩ := a2.c
    rw [HZL.out] at b0
    exact ⟨by rw [blk_cell a1]; rfl, by rw [blk_cell a1]; rfl, by rw [blk_cell a1]; rfl, by rw [blk_cell a1]; rfl, b0, b1, b2, b3⟩
  have HG : Hid (∀ w', Tch [] W11.drew w' → q.Good w' true es3 ∧ z.Good w' true es3 ∧ Tch [] w w') := fun w' t => ⟨hq11.keep0 ((Tch.refl [] W11).drew.trans t), (HZ.out w' (T11.drew.trans t)).2⟩
  clear HQ HR f0 f1 f2 f3 j0 j1 j2 j3 hy10 hj10 hx10 ga10 gb10 gz10 hq11 hj11 hW hgq
  go_wp2_with fail
  go_region_held3 (fun w' => w'.cell? { block := J, off := 0 } = some (.bool true) ∧ w'.cell? { block := J, off := 1 } = some (.slice q.ka q.kn q.kc) ∧ w'.cell? { block := J, off := 2 } = some (.slice q.va q.vn q.vc) ∧ w'.cell? { block := J, off := 3 } = some (.slice q.ia q.im q.ic) ∧ w'.cell? { block := X, off := 0 } = some (.bool true) ∧ w'.cell? { block := X, off := 1 } = some (.slice z.ka z.kn z.kc) ∧ w'.cell? { block := X, off := 2 } = some (.slice z.va z.vn z.vc) ∧ w'.cell? { block := X, off := 3 } = some (.slice z.ia z.im z.ic))
    (first | exact HC.out _ t13 | exact HC.out _ t12 | exact HC.out _ (Tch.refl _ _))
    (first | (go_at_call 12; (with_reducible refine (HRZ.out _ (HG.out _ (Tch.refl _ _)).2.1).mono ?_); rintro e w12 ⟨x, c, b, rfl, hx, _, _, t12⟩; have HA7 := HAL.out q w12 x c b (HG.out _ t12).1 hx) | (go_at_call 18; (with_reducible refine HA7.mono ?_); rintro e w13 ⟨rfl, t13a⟩; have t13 := t12.trans t13a))
  have T13 := (HG.out _ t13).2.2
  go_wp2_with fail
  go_ret
  exact ⟨rfl, T13⟩
end Go.Proofs.Ytlgfdfpafmopdaa
