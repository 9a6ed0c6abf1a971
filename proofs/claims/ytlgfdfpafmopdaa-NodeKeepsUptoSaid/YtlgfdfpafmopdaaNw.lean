/-
  The weights of texts, entries and nodes, as package node tells them. Conditions: the lists and texts are short (Nv.Ok).
-/
import Derived.Test.YtlgfdfpafmopdaaNspec
namespace Go.Proofs.Ytlgfdfpafmopdaa
open Go.RowKit
set_option linter.unusedVariables false

set_option maxRecDepth 100000 in
theorem nwtext_any (s : ByteArray) (w : World) (hs : s.size ≤ 1000000000) :
    Calls Try.prog 51 #[.string s] w fun e w' => e = .returned (.int .i64 ((tx s).length : Nat)) ∧ Tch [] w w' := by
  have HU := Lib.hid (fun w1 => uint_any s.size w1 (by omega))
  have hcw : IntKind.u64.wrap (s.size : Int) = (s.size : Int) := by rw [IntKind.wrap_u64]; omega
  have hl := ub_len 9 s.size (by simp; omega)
  have hsz : (⟨(ub s.size).toArray⟩ : ByteArray).size = (ub s.size).length := List.size_toArray
  have HF : Hid ((((⟨(ub s.size).toArray⟩ : ByteArray).size : Nat) : Int) + (s.size : Int) = ((tx s).length : Nat)) := by
    show _ = _
    have : (tx s).length = (ub s.size).length + s.size := by unfold tx; rw [List.length_append, ← Lib.size_eq]
    omega
  have hub : (⟨(ub s.size).toArray⟩ : ByteArray).size ≤ 1000 := by rw [hsz]; omega
  clear hsz hl
  generalize (⟨(ub s.size).toArray⟩ : ByteArray) = u at HU hub HF
  generalize (tx s).length = m at HF ⊢
  go_enter Try.func51, Try.ntmps51
  go_wp2_with fail
  refine (HU.out _).mono ?_
  rintro e w1 ⟨rfl, t1⟩
  go_wp2_with fail
  go_ret
  exact ⟨by rw [HF.out]; rfl, t1⟩

set_option maxRecDepth 100000 in
theorem nvalueOf_any (v : Nv) (k : Nat) (w : World) (h : IsNv w v) (ho : v.Ok) (hk : k ≤ 1000000000) :
    Calls Try.prog 48 #[.agg #[.bool v.leaf, .slice v.ka v.kn v.kc, .slice v.va v.vn v.vc, .slice v.ia v.im v.ic], .int .i64 k] w fun e w' => e = .returned (.string (v.vals.getD k ⟨#[]⟩)) ∧ Tch [] w w' := by
  have T0 : Tch [] w (w.alloc (.cells #[.bool v.leaf, .slice v.ka v.kn v.kc, .slice v.va v.vn v.vc, .slice v.ia v.im v.ic] 25)) := (Tch.refl _ _).alloc _
  have h2 := (h.keep0 T0).rv
  have hl := h.rv.hlen
  have hle := ho.lv
  by_cases hkl : k < v.vals.length
  · have hget := List.getElem?_eq_getElem hkl
    have x0 := h2.one hget (v := .string v.vals[k]) rfl
    have ha := h2.some_ (by omega)
    have hbl := h2.lt (by omega)
    have hd : decide (k < v.vn) = true := decide_eq_true (by omega)
    have hI : (k : Int) < (v.vn : Int) := by omega
    have hg : v.vals.getD k ⟨#[]⟩ = v.vals[k] := by rw [List.getD_eq_getElem?_getD, hget]; rfl
    rw [hg]
    generalize v.vals[k] = x at x0 ⊢
    rw [ha] at x0 h2 T0 ⊢
    generalize v.leaf = leaf at *
    clear hg h2 hget ha ho h hl
    go_enter Try.func48, Try.ntmps48
    go_wp2_with fail

    go_ret
    exact ⟨rfl, T0⟩
  · have hd : decide (k < v.vn) = false := decide_eq_false (by omega)
    have hg : v.vals.getD k ⟨#[]⟩ = ⟨#[]⟩ := by rw [List.getD_eq_getElem?_getD, List.getElem?_eq_none (by omega)]; rfl
    rw [hg]
    clear hg h2 ho h hl
    go_enter Try.func48, Try.ntmps48
    go_wp2_with fail
    go_ret
    exact ⟨rfl, T0⟩
set_option maxRecDepth 100000 in
theorem nkidOf_any (v : Nv) (k : Nat) (w : World) (h : IsNv w v) (ho : v.Ok) (hk : k ≤ 1000000000) :
    Calls Try.prog 49 #[.agg #[.bool v.leaf, .slice v.ka v.kn v.kc, .slice v.va v.vn v.vc, .slice v.ia v.im v.ic], .int .i64 k] w fun e w' => e = .returned (.int .i64 (v.kids.getD k 0)) ∧ Tch [] w w' := by
  have T0 : Tch [] w (w.alloc (.cells #[.bool v.leaf, .slice v.ka v.kn v.kc, .slice v.va v.vn v.vc, .slice v.ia v.im v.ic] 25)) := (Tch.refl _ _).alloc _
  have h2 := (h.keep0 T0).ri
  have hl := h.ri.hlen
  have hle := ho.li
  by_cases hkl : k < v.kids.length
  · have hget := List.getElem?_eq_getElem hkl
    have x0 := h2.one hget (v := .int .i64 v.kids[k]) rfl
    have ha := h2.some_ (by omega)
    have hbl := h2.lt (by omega)
    have hd : decide (k < v.im) = true := decide_eq_true (by omega)
    have hI : (k : Int) < (v.im : Int) := by omega
    have hg : v.kids.getD k 0 = v.kids[k] := by rw [List.getD_eq_getElem?_getD, hget]; rfl
    rw [hg]
    generalize v.kids[k] = x at x0 ⊢
    rw [ha] at x0 h2 T0 ⊢
    generalize v.leaf = leaf at *
    clear hg h2 hget ha ho h hl
    go_enter Try.func49, Try.ntmps49
    go_wp2_with fail

    go_ret
    exact ⟨rfl, T0⟩
  · have hd : decide (k < v.im) = false := decide_eq_false (by omega)
    have hg : v.kids.getD k 0 = 0 := by rw [List.getD_eq_getElem?_getD, List.getElem?_eq_none (by omega)]; rfl
    rw [hg]
    clear hg h2 ho h hl
    go_enter Try.func49, Try.ntmps49
    go_wp2_with fail
    go_ret
    exact ⟨rfl, T0⟩

theorem getd_small {v : Nv} (ho : v.Ok) (k : Nat) : (v.vals.getD k ⟨#[]⟩).size ≤ 100000000 ∧ -9223372036854775808 ≤ v.kids.getD k 0 ∧ v.kids.getD k 0 ≤ 9223372036854775807 := by
  have hv : (v.vals.getD k ⟨#[]⟩).size ≤ 100000000 := by
    rw [List.getD_eq_getElem?_getD]
    rcases hh : v.vals[k]? with _ | x
    · decide
    · exact ho.vs x (List.mem_of_getElem? hh)
  have hi : -9223372036854775808 ≤ v.kids.getD k 0 ∧ v.kids.getD k 0 ≤ 9223372036854775807 := by
    rw [List.getD_eq_getElem?_getD]
    rcases hh : v.kids[k]? with _ | x
    · decide
    · exact ho.is x (List.mem_of_getElem? hh)
  exact ⟨hv, hi⟩
/-- What stands in the block of a node that came in by value: its four cells. -/
theorem nvb_cells (w : World) (leaf : Bool) (ka va ia : Option Addr) (kn kc vn vc im ic : Nat) {w' : World} (t : Tch [] (w.alloc (.cells #[.bool leaf, .slice ka kn kc, .slice va vn vc, .slice ia im ic] 25)) w') :
    w'.cell? ⟨w.heap.size, 0, none⟩ = some (.bool leaf) ∧ w'.cell? ⟨w.heap.size, 1, none⟩ = some (.slice ka kn kc) ∧ w'.cell? ⟨w.heap.size, 2, none⟩ = some (.slice va vn vc) ∧ w'.cell? ⟨w.heap.size, 3, none⟩ = some (.slice ia im ic) ∧ w.heap.size < w'.heap.size := by
  have h := t.keep (blk_new w (.cells #[.bool leaf, .slice ka kn kc, .slice va vn vc, .slice ia im ic] 25)) (by simp)
  exact ⟨blk_cell h 0, blk_cell h 1, blk_cell h 2, blk_cell h 3, lt_of_block h⟩
set_option maxRecDepth 100000 in
theorem nweight_any (v : Nv) (k : Nat) (key : ByteArray) (w : World) (h : IsNv w v) (ho : v.Ok) (hk : v.keys[k]? = some key) :
    Calls Try.prog 46 #[.agg #[.bool v.leaf, .slice v.ka v.kn v.kc, .slice v.va v.vn v.vc, .slice v.ia v.im v.ic], .int .i64 k] w fun e w' => e = .returned (.int .i64 ((enb v.leaf (mkE v.leaf v.keys v.vals v.kids k key)).length : Nat)) ∧ Tch [] w w' := by
  have T0 : Tch [] w (w.alloc (.cells #[.bool v.leaf, .slice v.ka v.kn v.kc, .slice v.va v.vn v.vc, .slice v.ia v.im v.ic] 25)) := (Tch.refl _ _).alloc _
  have hlt := (List.getElem?_eq_some_iff.1 hk).1
  have hkl := ho.lk
  have hl := h.rk.hlen
  have hks := ho.ks key (List.mem_of_getElem? hk)
  obtain ⟨hvs, hki0, hki1⟩ := getd_small ho k
  have HV : Hid (∀ w', Tch [] w w' → Calls Try.prog 48 _ w' fun e w2 => e = .returned (.string (v.vals.getD k ⟨#[]⟩)) ∧ Tch [] w' w2) := fun w' t => nvalueOf_any v k w' (h.keep0 t) ho (by omega)
  have HI : Hid (∀ w', Tch [] w w' → Calls Try.prog 49 _ w' fun e w2 => e = .returned (.int .i64 (v.kids.getD k 0)) ∧ Tch [] w' w2) := fun w' t => nkidOf_any v k w' (h.keep0 t) ho (by omega)
  have HK := Lib.hid (fun w' => nwtext_any key w' (by omega))
  have HVT := Lib.hid (fun w' => nwtext_any (v.vals.getD k ⟨#[]⟩) w' (by omega))
  have HU := Lib.hid (fun w' => uint_any (v.kids.getD k 0).toNat w' (by omega))
  have x0 := (h.keep0 T0).rk.one hk (v := .string key) rfl
  have ha := h.rk.some_ (by omega)
  have hbl := (h.keep0 T0).rk.lt (by omega)
  have hI : (k : Int) < (v.kn : Int) := by omega
  have tk := tx_len key (by omega)
  have tv := tx_len (v.vals.getD k ⟨#[]⟩) (by omega)
  have tu := ub10 (v.kids.getD k 0).toNat (by omega)
  have hmx : max (v.kids.getD k 0) 0 = ((v.kids.getD k 0).toNat : Int) := by omega
  have hcw : IntKind.u64.wrap (((v.kids.getD k 0).toNat : Nat) : Int) = (((v.kids.getD k 0).toNat : Nat) : Int) := by rw [IntKind.wrap_u64]; omega
  have husz : (⟨(ub (v.kids.getD k 0).toNat).toArray⟩ : ByteArray).size = (ub (v.kids.getD k 0).toNat).length := List.size_toArray
  have HF : Hid ((enb v.leaf (mkE v.leaf v.keys v.vals v.kids k key)).length = if v.leaf then (tx key).length + (tx (v.vals.getD k ⟨#[]⟩)).length else (tx key).length + (ub (v.kids.getD k 0).toNat).length) := by
    show _ = _
    unfold enb mkE
    cases v.leaf <;> simp
  have HB : Hid (∀ w', Tch [] (w.alloc (.cells #[.bool v.leaf, .slice v.ka v.kn v.kc, .slice v.va v.vn v.vc, .slice v.ia v.im v.ic] 25)) w' → _) := fun w' t => nvb_cells w v.leaf v.ka v.va v.ia v.kn v.kc v.vn v.vc v.im v.ic t
  have hub : (⟨(ub (v.kids.getD k 0).toNat).toArray⟩ : ByteArray).size ≤ 1000 := by rw [husz]; omega
  have HUS := Lib.hid husz
  clear husz
  rw [ha] at HV HI HB T0 x0 hbl ⊢
  generalize (enb v.leaf (mkE v.leaf v.keys v.vals v.kids k key)).length = r at HF ⊢
  generalize v.vals.getD k ⟨#[]⟩ = vl at *
  generalize v.kids.getD k 0 = kd at *
  generalize hkn : kd.toNat = kn at *
  generalize (⟨(ub kn).toArray⟩ : ByteArray) = us at HU HUS hub
  generalize (tx key).length = lk at HF HK tk
  generalize (tx vl).length = lv at HF HVT tv
  generalize (ub kn).length = lu at HF HUS tu
  generalize v.leaf = leaf at *
  clear ho h hl ha hkn hk
  cases leaf
  · have HR : Hid ((r : Int) = (lk : Int) + (us.size : Int)) := by show _ = _; rw [HF.out, HUS.out]; simp
    clear HUS HF tu
    go_enter Try.func46, Try.ntmps46
    go_wp2_with fail
    refine (HK.out _).mono ?_
    rintro e w1 ⟨rfl, t1⟩
    obtain ⟨c0, c1, c2, c3, clt⟩ := HB.out _ t1
    have T1 := T0.trans t1
    clear t1 T0
    go_wp2_with fail
    refine (HI.out _ T1).mono ?_
    rintro e w2 ⟨rfl, t2⟩
    go_wp2_with fail
    refine (HU.out _).mono ?_
    rintro e w3 ⟨rfl, t3⟩
    go_wp2_with fail
    go_ret
    exact ⟨by rw [HR.out]; rfl, (T1.trans t2).trans t3⟩
  · have HR : Hid ((r : Int) = (lk : Int) + (lv : Int)) := by show _ = _; rw [HF.out]; simp
    clear HUS HF tu
    go_enter Try.func46, Try.ntmps46
    go_wp2_with fail
    refine (HK.out _).mono ?_
    rintro e w1 ⟨rfl, t1⟩
    obtain ⟨c0, c1, c2, c3, clt⟩ := HB.out _ t1
    have T1 := T0.trans t1
    clear t1 T0
    go_wp2_with fail
    refine (HV.out _ T1).mono ?_
    rintro e w2 ⟨rfl, t2⟩
    go_wp2_with fail
    refine (HVT.out _).mono ?_
    rintro e w3 ⟨rfl, t3⟩
    go_wp2_with fail
    go_ret
    exact ⟨by rw [HR.out]; rfl, (T1.trans t2).trans t3⟩

theorem es_get (v : Nv) (k : Nat) (key : ByteArray) (h : v.keys[k]? = some key) : v.es[k]? = some (mkE v.leaf v.keys v.vals v.kids k key) := mkN_get _ _ _ _ _ _ h

set_option maxRecDepth 100000 in
theorem nweights_any (v : Nv) (w : World) (h : IsNv w v) (ho : v.Ok) :
    Calls Try.prog 34 #[.agg #[.bool v.leaf, .slice v.ka v.kn v.kc, .slice v.va v.vn v.vc, .slice v.ia v.im v.ic]] w fun e w' => e = .returned (.int .i64 ((v.es.flatMap (enb v.leaf)).length : Nat)) ∧ Tch [] w w' := by
  have T0 : Tch [] w (w.alloc (.cells #[.bool v.leaf, .slice v.ka v.kn v.kc, .slice v.va v.vn v.vc, .slice v.ia v.im v.ic] 25)) := (Tch.refl _ _).alloc _
  have HK : Hid (∀ k key w', v.keys[k]? = some key → Tch [] w w' → Calls Try.prog 46 _ w' fun e w2 => e = .returned (.int .i64 ((enb v.leaf (mkE v.leaf v.keys v.vals v.kids k key)).length : Nat)) ∧ Tch [] w' w2) := fun k key w' hk t => nweight_any v k key w' (h.keep0 t) ho hk
  have HB : Hid (∀ w', Tch [] (w.alloc (.cells #[.bool v.leaf, .slice v.ka v.kn v.kc, .slice v.va v.vn v.vc, .slice v.ia v.im v.ic] 25)) w' → _) := fun w' t => nvb_cells w v.leaf v.ka v.va v.ia v.kn v.kc v.vn v.vc v.im v.ic t
  have hn : v.kn ≤ 100000000 := by have := h.rk.hlen; have := ho.lk; omega
  have HLN : Hid (v.kn = v.keys.length) := h.rk.hlen
  have HST : Hid (∀ k key, v.keys[k]? = some key → wsum v.leaf v.es (k + 1) = wsum v.leaf v.es k + (enb v.leaf (mkE v.leaf v.keys v.vals v.kids k key)).length) := fun k key hk => wsum_step _ _ _ _ (es_get v k key hk)
  have HLE : Hid (∀ k, wsum v.leaf v.es k ≤ 1000000000000000000) := fun k => by
    have h1 := wsum_le v.leaf v.es k
    have h2 := flat_fine (leaf := v.leaf) (Nv.fine ho)
    have h3 := v.es_len
    have h4 := ho.lk
    have h5 : v.es.length * 2000000020 ≤ 100000000 * 2000000020 := Nat.mul_le_mul_right _ (by omega)
    omega
  have HAL : Hid (wsum v.leaf v.es v.kn = (v.es.flatMap (enb v.leaf)).length) := by show _ = _; rw [← wsum_all, v.es_len, HLN.out]
  have H0 : Hid (wsum v.leaf v.es 0 = 0) := by show _ = _; simp [wsum]
  generalize wsum v.leaf v.es = ws at HST HLE HAL H0
  generalize (v.es.flatMap (enb v.leaf)).length = r at HAL ⊢
  generalize v.leaf = leaf at *
  generalize v.kn = kn at *
  clear ho h
  go_enter Try.func34, Try.ntmps34
  obtain ⟨W1, hW1⟩ : ∃ W1, W1 = w.alloc (.cells #[.bool leaf, .slice v.ka kn v.kc, .slice v.va v.vn v.vc, .slice v.ia v.im v.ic] 25) := ⟨_, rfl⟩
  rw [← hW1] at HB T0
  go_wp2_with fail
  rw [← hW1]
  clear hW1
  go_loopw [3, 8] (fun v3 v8 wr => ∃ k : Nat, k ≤ kn ∧ v8 = .int .i64 k ∧ v3 = .int .i64 (ws k : Nat) ∧ Tch [] W1 wr) (fun _ v8 _ => kn - (intOf v8).toNat)
  case atStart => exact ⟨0, by omega, rfl, by rw [H0.out]; rfl, Tch.refl _ _⟩
  case round =>
    obtain ⟨k, hk, rfl, rfl, T⟩ := hrel
    obtain ⟨c0, c1, c2, c3, clt⟩ := HB.out _ T
    by_cases hkl : k < kn
    · have hget : v.keys[k]? = some (v.keys[k]'(by rw [← HLN.out]; exact hkl)) := List.getElem?_eq_getElem _
      have HC := Lib.hid (HK.out k _ wr hget (T0.trans T))
      have hst := HST.out k _ hget
      have hle := HLE.out (k + 1)
      generalize (enb leaf (mkE leaf v.keys v.vals v.kids k (v.keys[k]'(by rw [← HLN.out]; exact hkl)))).length = m at HC hst
      have HS : Hid ((ws k : Int) + (m : Int) = ((ws (k + 1) : Nat) : Int)) := by show _ = _; omega
      have hb1 : (ws k : Int) + (m : Int) ≤ 1000000000000000000 := by omega
      clear hget hst hle
      go_wp2_with fail
      refine HC.out.mono ?_
      rintro e w2 ⟨rfl, t2⟩
      go_wp2_with fail
      go_roundw
      case rel => exact ⟨k + 1, by omega, by go_num, by rw [HS.out], T.trans t2⟩
      case measure => simp [intOf]; omega
    · obtain rfl : k = kn := by omega
      go_wp2_with fail
      go_ret
      exact ⟨by rw [HAL.out]; rfl, T0.trans T⟩
end Go.Proofs.Ytlgfdfpafmopdaa
