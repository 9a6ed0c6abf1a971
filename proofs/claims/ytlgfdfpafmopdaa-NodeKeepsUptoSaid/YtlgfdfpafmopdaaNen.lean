/-
  Encode of package node answers the bytes that the document asks, or refuses. Conditions: the lists and texts are short (Nv.Ok).
-/
import Derived.Test.YtlgfdfpafmopdaaNwi
import Derived.Test.YtlgfdfpafmopdaaBld
import Derived.Test.YtlgfdfpafmopdaaNq
namespace Go.Proofs.Ytlgfdfpafmopdaa
open Go.RowKit
set_option linter.unusedVariables false

theorem ncells_app (a b : List UInt8) : Lib.byteCells a ++ Lib.strCells ⟨b.toArray⟩ = Lib.byteCells (a ++ b) := by
  simp [Lib.byteCells, Lib.strCells]
theorem nbld_keep {w w' : World} {B b : Nat} {bs : List Value} {L : List Nat} {T e : TypeId} (h : Lib.IsBuilder T e B b bs w) (t : Tch L w w') (hn : ∀ k ∈ L, k < B) : Lib.IsBuilder T e B b bs w' := by
  have key : ∀ p, Lib.BuilderAt T e B b p bs w → Lib.BuilderAt T e B b p bs w' := fun p h => by
    obtain ⟨h1, v, h2, h3, h4⟩ := h
    exact ⟨h1, v, t.keep h2 (fun hm => by have := hn b hm; omega), own_keep h3 t (fun k hk hm => by have := hn k hm; have := (h3.lt k hk).1; omega), h4⟩
  rcases h with h | h
  · exact Or.inl (key _ h)
  · exact Or.inr (key _ h)
/-- The bytes of a node's head and its first k entries. -/
def preN (leaf : Bool) (es : List En) (k : Nat) : List UInt8 := ((if leaf then 1 else 2) :: ub es.length) ++ (es.take k).flatMap (enb leaf)
theorem preN_step (leaf : Bool) (es : List En) (k : Nat) (e : En) (h : es[k]? = some e) : preN leaf es (k + 1) = preN leaf es k ++ enb leaf e := by
  unfold preN; rw [List.take_add_one, h, List.flatMap_append]; simp
theorem preN_all (leaf : Bool) (es : List En) : preN leaf es es.length = ndb leaf es := by unfold preN ndb; rw [List.take_length]; simp
theorem preN_len (leaf : Bool) (es : List En) (k : Nat) : (preN leaf es k).length ≤ (ndb leaf es).length := by
  have := wsum_le leaf es k
  unfold wsum at this
  unfold preN ndb
  simp only [List.length_cons, List.length_append]
  omega
theorem preN_zero (leaf : Bool) (es : List En) : preN leaf es 0 = (if leaf then 1 else 2) :: ub es.length := by simp [preN]

set_option maxRecDepth 100000 in
theorem encode_no (v : Nv) (w : World) (h : IsNv w v) (ho : v.Ok) (hc : v.caps) (hf : v.fits = false) : Calls Try.prog 10 #[.agg #[.bool v.leaf, .slice v.ka v.kn v.kc, .slice v.va v.vn v.vc, .slice v.ia v.im v.ic]] w fun e w' =>
    e = .returned (.tuple #[.string ⟨#[]⟩, .int .i64 40]) ∧ Tch [] w w' := by
  have T0 : Tch [] w (w.alloc (.cells #[.bool v.leaf, .slice v.ka v.kn v.kc, .slice v.va v.vn v.vc, .slice v.ia v.im v.ic] 25)) := (Tch.refl _ _).alloc _
  have HF := Lib.hid (nisFit_any v _ (h.keep0 T0) ho hc)
  rw [hf] at HF
  clear h ho hc hf
  go_enter Try.func10, Try.ntmps10
  go_wp2_with fail
  refine HF.out.mono ?_
  rintro e w1 ⟨rfl, t1⟩
  go_wp2_with fail
  go_ret2
  exact ⟨rfl, T0.trans t1⟩

set_option maxRecDepth 100000 in
set_option maxHeartbeats 2000000 in
theorem encode_kids (v : Nv) (hlf : v.leaf = false) (w : World) (h : IsNv w v) (ho : v.Ok) (hc : v.caps) (hf : v.fits = true) : Calls Try.prog 10 #[.agg #[.bool v.leaf, .slice v.ka v.kn v.kc, .slice v.va v.vn v.vc, .slice v.ia v.im v.ic]] w fun e w' =>
    e = .returned (.tuple #[.string ⟨(ndb v.leaf v.es).toArray⟩, .int .i64 0]) ∧ Tch [] w w' := by
  have T0 : Tch [] w (w.alloc (.cells #[.bool v.leaf, .slice v.ka v.kn v.kc, .slice v.va v.vn v.vc, .slice v.ia v.im v.ic] 25)) := (Tch.refl _ _).alloc _
  have HB : Hid (∀ w', Tch [] (w.alloc (.cells #[.bool v.leaf, .slice v.ka v.kn v.kc, .slice v.va v.vn v.vc, .slice v.ia v.im v.ic] 25)) w' → _) := fun w' t => nvb_cells w v.leaf v.ka v.va v.ia v.kn v.kc v.vn v.vc v.im v.ic t
  have HFI := Lib.hid (nisFit_any v _ (h.keep0 T0) ho hc)
  rw [hf] at HFI
  have HBG : Hid (∀ w', Tch [] w w' → Calls Try.prog 28 _ w' fun e w2 => e = .returned (.string (hdN v.leaf v.keys.length)) ∧ Tch [] w' w2) := fun w' t => nbeginning_any v w' (h.keep0 t) ho
  have HIS : Hid (∀ w', Tch [] w w' → IsNv w' v) := fun w' t => h.keep0 t
  have hlens : v.im = v.kn := by
    unfold Nv.fits Nv.lens at hf
    rw [hlf] at hf
    simp at hf
    have h1 := h.rk.hlen
    have h2 := h.ri.hlen
    have := hf.1.1
    omega
  have HN1 : Hid (v.kn = v.keys.length ∧ v.im = v.kids.length) := ⟨h.rk.hlen, h.ri.hlen⟩
  have HT : Hid (∀ (s : ByteArray) w', s.size ≤ 100000000 → Calls Try.prog 29 #[.string s] w' fun e w2 => e = .returned (.string ⟨(tx s).toArray⟩) ∧ Tch [] w' w2) := fun s w' hs => text_any s w' (by omega)
  have HU : Hid (∀ (u : Nat) w', u < 16384 → Calls Try.prog 30 #[.int .u64 u] w' fun e w2 => e = .returned (.string ⟨(ub u).toArray⟩) ∧ Tch [] w' w2) := fun u w' hu => uint_any u w' (by omega)
  have HNM := Lib.hid (Nv.norm hf)
  have hk8 := ho.lk
  have hl9 := v.es_len
  have h1024 : (ndb v.leaf v.es).length ≤ 1024 := by
    unfold Nv.fits fitN at hf
    simp at hf
    exact hf.2.1.2
  have HSM : Hid (∀ k, (preN v.leaf v.es k).length ≤ 1024) := fun k => by have := preN_len v.leaf v.es k; omega
  have HP0 : Hid (hdN v.leaf v.keys.length = ⟨(preN v.leaf v.es 0).toArray⟩) := by show _ = _; rw [preN_zero, hl9]; rfl
  have HPA : Hid (preN v.leaf v.es v.kn = ndb v.leaf v.es) := by show _ = _; rw [h.rk.hlen, ← hl9, preN_all]
  have HPS : Hid (∀ k key, v.keys[k]? = some key → preN v.leaf v.es (k + 1) = preN v.leaf v.es k ++ enb v.leaf (mkE v.leaf v.keys v.vals v.kids k key)) := fun k key hk => preN_step _ _ _ _ (es_get v k key hk)
  have HMEM : Hid (∀ k key, v.keys[k]? = some key → mkE v.leaf v.keys v.vals v.kids k key ∈ v.es) := fun k key hk => List.mem_of_getElem? (es_get v k key hk)
  have HKS := Lib.hid ho.ks
  have HVS := Lib.hid ho.vs
  rw [← h.rk.hlen] at hk8
  rw [hlf] at *
  generalize preN false v.es = pre at HP0 HPA HPS HSM
  generalize (ndb false v.es) = bytes at HPA h1024 ⊢
  generalize hdN false v.keys.length = hd at HBG HP0
  generalize hkn : v.kn = kn at *
  generalize hxn : v.im = xn at *
  generalize hka : v.ka = ka at *
  generalize hxa : v.ia = xa at *
  have hlens2 : kn = xn := hlens.symm
  subst hlens2
  clear ho hc hf h hl9 hlf
  obtain ⟨W1, hW1⟩ : ∃ W1, W1 = w.alloc (.cells #[.bool false, .slice ka kn v.kc, .slice v.va v.vn v.vc, .slice xa kn v.ic] 25) := ⟨_, rfl⟩
  rw [← hW1] at HB T0 HFI
  go_enter Try.func10, Try.ntmps10
  go_wp2_with fail
  rw [← hW1]
  clear hW1
  refine HFI.out.mono ?_
  rintro e w1 ⟨rfl, t1⟩
  have T1 := T0.trans t1
  obtain ⟨c0, c1, c2, c3, clt⟩ := HB.out _ (t1.alloc (.cells #[.pointer none, .slice none 0 0] 56))
  have hBl := Lib.fresh_isBuilder 56 5 w1
  have tA : Tch [] w1 (w1.alloc (.cells #[.pointer none, .slice none 0 0] 56)) := (Tch.refl [] w1).alloc _
  have HBC := Lib.hid (HBG.out _ (T1.trans tA))
  clear HFI HBG
  go_wp2_with fail
  refine HBC.out.mono ?_
  rintro e w2 ⟨rfl, t2⟩
  have T2 := tA.trans t2
  have hB2 := nbld_keep hBl t2 (by simp)
  rw [HP0.out] at *
  clear hBl tA t2 c0 c1 c2 c3 clt HBC
  go_wp2_with fail
  refine (bwrite_any w1.heap.size w1.heap.size [] ⟨(pre 0).toArray⟩ _ hB2 (by have := HSM.out 0; simp [ByteArray.size]; omega) T2.size).mono ?_
  rintro e w3 ⟨rfl, hB3, b3⟩
  have T3 := T2.belowNew b3
  rw [show ([] : List Value) = Lib.byteCells [] from rfl, ncells_app, List.nil_append] at hB3
  obtain ⟨c0, c1, c2, c3, clt⟩ := HB.out _ (t1.trans T3)
  clear hB2 T2 b3
  go_wp2_with fail
  go_loopw [16] (fun v16 wr => ∃ k : Nat, k ≤ kn ∧ v16 = .int .i64 k ∧ Lib.IsBuilder 56 5 w1.heap.size w1.heap.size (Lib.byteCells (pre k)) wr ∧ Tch [] w1 wr) (fun v16 _ => kn - (intOf v16).toNat)
  case atStart => exact ⟨0, by omega, rfl, hB3, T3⟩
  case round =>
    obtain ⟨k, hk, rfl, hbk, T⟩ := hrel
    clear c0 c1 c2 c3 clt hB3 T3
    obtain ⟨c0, c1, c2, c3, clt⟩ := HB.out _ (t1.trans T)
    by_cases hkl : k < kn
    · have hklk : k < v.keys.length := by have := HN1.out.1; omega
      have hklx : k < v.kids.length := by have := HN1.out.2; omega
      have hget := List.getElem?_eq_getElem hklk
      have hgx := List.getElem?_eq_getElem hklx
      have hnv := HIS.out _ (T1.trans T)
      have ha := hnv.rk.some_ (by omega)
      have hbl := hnv.rk.lt (by omega)
      have x0 := hnv.rk.one hget (v := .string v.keys[k]) rfl
      have hax := hnv.ri.some_ (by omega)
      have hbx := hnv.ri.lt (by omega)
      have hbx1 := (HIS.out w1 T1).ri.lt (by omega)
      have y0 := hnv.ri.one hgx (v := Value.int .i64 v.kids[k]) rfl
      have hHS : pre (k + 1) = pre k ++ (tx v.keys[k] ++ ub v.kids[k].toNat) := by rw [HPS.out k _ hget]; simp [enb, mkE, List.getD_eq_getElem?_getD, hgx]
      have hks := HKS.out _ (List.getElem_mem hklk)
      have hnm : 0 ≤ v.kids[k] ∧ v.kids[k] < 16384 := by
        have := HNM.out _ (HMEM.out k _ hget)
        unfold Norm mkE at this
        simp [List.getD_eq_getElem?_getD, hgx] at this
        exact this
      have hpl := HSM.out (k + 1)
      have hpl0 := HSM.out k
      generalize v.keys[k] = key at *
      generalize v.kids[k] = x at *
      obtain ⟨m, rfl⟩ := Int.eq_ofNat_of_zero_le hnm.1
      rw [Int.toNat_natCast] at hHS
      have hxr : m < 16384 := by omega
      have hcw : IntKind.u64.wrap (m : Int) = (m : Int) := by rw [IntKind.wrap_u64]; omega
      have hlen2 : (pre (k + 1)).length = (pre k).length + (tx key).length + (ub m).length := by rw [hHS]; simp; omega
      have HS2 : Hid ((pre k ++ tx key) ++ (ub m) = pre (k + 1)) := by show _ = _; rw [hHS, List.append_assoc]
      have HT1 := Lib.hid (HT.out key wr hks)
      have ha : ka = some ⟨v.kb, v.ko, none⟩ := by rw [← hka]; exact ha
      have hax : xa = some ⟨v.ib, v.io, none⟩ := by rw [← hxa]; exact hax
      subst ha hax
      have hI : (k : Int) < (kn : Int) := by omega
      clear hHS hget hgx hnv hklk hklx
      go_wp2_with fail
      refine HT1.out.mono ?_
      rintro e w4 ⟨rfl, t4⟩
      have T4 := T.trans t4
      have hb4 := nbld_keep hbk t4 (by simp)
      clear HT1
      go_wp2_with fail
      refine (bwrite_any w1.heap.size w1.heap.size _ ⟨(tx key).toArray⟩ _ hb4 (by rw [Lib.byteCells_length]; simp [ByteArray.size]; omega) T4.size).mono ?_
      rintro e w5 ⟨rfl, hb5, b5⟩
      rw [ncells_app] at hb5
      have T5 := T4.belowNew b5
      obtain ⟨d0, d1, d2, d3, dlt⟩ := HB.out _ (t1.trans T5)
      have y5 : w5.cell? ⟨v.ib, v.io + k, none⟩ = some (Value.int .i64 m) := (T5.cell hbx1 (by simp)).trans ((T.cell hbx1 (by simp)).symm.trans y0)
      have hbx5 : v.ib < w5.heap.size := Nat.lt_of_lt_of_le hbx1 T5.size
      have HX5 := Lib.hid (HU.out m w5 hxr)
      clear hb4 T4 b5 c0 c1 c2 c3 clt x0 y0
      go_wp2_with fail
      refine HX5.out.mono ?_
      rintro e w6 ⟨rfl, t6⟩
      have T6 := T5.trans t6
      have hb6 := nbld_keep hb5 t6 (by simp)
      clear HX5
      go_wp2_with fail
      refine (bwrite_any w1.heap.size w1.heap.size _ ⟨(ub m).toArray⟩ _ hb6 (by rw [Lib.byteCells_length, List.length_append]; simp [ByteArray.size]; omega) T6.size).mono ?_
      rintro e w7 ⟨rfl, hb7, b7⟩
      rw [ncells_app, HS2.out] at hb7
      have T7 := T6.belowNew b7
      go_wp2_with fail
      go_roundw
      case rel => exact ⟨k + 1, by omega, by go_num, hb7, T7⟩
      case measure => simp [intOf]; omega
    · obtain rfl : k = kn := by omega
      rw [HPA.out] at hbk
      clear c0 c1 c2 c3 clt
      go_wp2_with fail
      refine (Try.Builder_String_any w1.heap.size w1.heap.size _ wr hbk T.size).mono ?_
      rintro e w4 ⟨rfl, b4⟩
      go_wp2_with fail
      go_ret2
      refine ⟨rfl, T1.trans (T.belowNew b4)⟩

set_option maxRecDepth 100000 in
set_option maxHeartbeats 2000000 in
theorem encode_leaf (v : Nv) (hlf : v.leaf = true) (w : World) (h : IsNv w v) (ho : v.Ok) (hc : v.caps) (hf : v.fits = true) : Calls Try.prog 10 #[.agg #[.bool v.leaf, .slice v.ka v.kn v.kc, .slice v.va v.vn v.vc, .slice v.ia v.im v.ic]] w fun e w' =>
    e = .returned (.tuple #[.string ⟨(ndb v.leaf v.es).toArray⟩, .int .i64 0]) ∧ Tch [] w w' := by
  have T0 : Tch [] w (w.alloc (.cells #[.bool v.leaf, .slice v.ka v.kn v.kc, .slice v.va v.vn v.vc, .slice v.ia v.im v.ic] 25)) := (Tch.refl _ _).alloc _
  have HB : Hid (∀ w', Tch [] (w.alloc (.cells #[.bool v.leaf, .slice v.ka v.kn v.kc, .slice v.va v.vn v.vc, .slice v.ia v.im v.ic] 25)) w' → _) := fun w' t => nvb_cells w v.leaf v.ka v.va v.ia v.kn v.kc v.vn v.vc v.im v.ic t
  have HFI := Lib.hid (nisFit_any v _ (h.keep0 T0) ho hc)
  rw [hf] at HFI
  have HBG : Hid (∀ w', Tch [] w w' → Calls Try.prog 28 _ w' fun e w2 => e = .returned (.string (hdN v.leaf v.keys.length)) ∧ Tch [] w' w2) := fun w' t => nbeginning_any v w' (h.keep0 t) ho
  have HIS : Hid (∀ w', Tch [] w w' → IsNv w' v) := fun w' t => h.keep0 t
  have hlens : v.vn = v.kn := by
    unfold Nv.fits Nv.lens at hf
    rw [hlf] at hf
    simp at hf
    have h1 := h.rk.hlen
    have h2 := h.rv.hlen
    have := hf.1.1
    omega
  have HN1 : Hid (v.kn = v.keys.length ∧ v.vn = v.vals.length) := ⟨h.rk.hlen, h.rv.hlen⟩
  have HT : Hid (∀ (s : ByteArray) w', s.size ≤ 100000000 → Calls Try.prog 29 #[.string s] w' fun e w2 => e = .returned (.string ⟨(tx s).toArray⟩) ∧ Tch [] w' w2) := fun s w' hs => text_any s w' (by omega)
  have HU : Hid (∀ (u : Nat) w', u < 16384 → Calls Try.prog 30 #[.int .u64 u] w' fun e w2 => e = .returned (.string ⟨(ub u).toArray⟩) ∧ Tch [] w' w2) := fun u w' hu => uint_any u w' (by omega)
  have HNM := Lib.hid (Nv.norm hf)
  have hk8 := ho.lk
  have hl9 := v.es_len
  have h1024 : (ndb v.leaf v.es).length ≤ 1024 := by
    unfold Nv.fits fitN at hf
    simp at hf
    exact hf.2.1.2
  have HSM : Hid (∀ k, (preN v.leaf v.es k).length ≤ 1024) := fun k => by have := preN_len v.leaf v.es k; omega
  have HP0 : Hid (hdN v.leaf v.keys.length = ⟨(preN v.leaf v.es 0).toArray⟩) := by show _ = _; rw [preN_zero, hl9]; rfl
  have HPA : Hid (preN v.leaf v.es v.kn = ndb v.leaf v.es) := by show _ = _; rw [h.rk.hlen, ← hl9, preN_all]
  have HPS : Hid (∀ k key, v.keys[k]? = some key → preN v.leaf v.es (k + 1) = preN v.leaf v.es k ++ enb v.leaf (mkE v.leaf v.keys v.vals v.kids k key)) := fun k key hk => preN_step _ _ _ _ (es_get v k key hk)
  have HMEM : Hid (∀ k key, v.keys[k]? = some key → mkE v.leaf v.keys v.vals v.kids k key ∈ v.es) := fun k key hk => List.mem_of_getElem? (es_get v k key hk)
  have HKS := Lib.hid ho.ks
  have HVS := Lib.hid ho.vs
  rw [← h.rk.hlen] at hk8
  rw [hlf] at *
  generalize preN true v.es = pre at HP0 HPA HPS HSM
  generalize (ndb true v.es) = bytes at HPA h1024 ⊢
  generalize hdN true v.keys.length = hd at HBG HP0
  generalize hkn : v.kn = kn at *
  generalize hxn : v.vn = xn at *
  generalize hka : v.ka = ka at *
  generalize hxa : v.va = xa at *
  have hlens2 : kn = xn := hlens.symm
  subst hlens2
  clear ho hc hf h hl9 hlf
  obtain ⟨W1, hW1⟩ : ∃ W1, W1 = w.alloc (.cells #[.bool true, .slice ka kn v.kc, .slice xa kn v.vc, .slice v.ia v.im v.ic] 25) := ⟨_, rfl⟩
  rw [← hW1] at HB T0 HFI
  go_enter Try.func10, Try.ntmps10
  go_wp2_with fail
  rw [← hW1]
  clear hW1
  refine HFI.out.mono ?_
  rintro e w1 ⟨rfl, t1⟩
  have T1 := T0.trans t1
  obtain ⟨c0, c1, c2, c3, clt⟩ := HB.out _ (t1.alloc (.cells #[.pointer none, .slice none 0 0] 56))
  have hBl := Lib.fresh_isBuilder 56 5 w1
  have tA : Tch [] w1 (w1.alloc (.cells #[.pointer none, .slice none 0 0] 56)) := (Tch.refl [] w1).alloc _
  have HBC := Lib.hid (HBG.out _ (T1.trans tA))
  clear HFI HBG
  go_wp2_with fail
  refine HBC.out.mono ?_
  rintro e w2 ⟨rfl, t2⟩
  have T2 := tA.trans t2
  have hB2 := nbld_keep hBl t2 (by simp)
  rw [HP0.out] at *
  clear hBl tA t2 c0 c1 c2 c3 clt HBC
  go_wp2_with fail
  refine (bwrite_any w1.heap.size w1.heap.size [] ⟨(pre 0).toArray⟩ _ hB2 (by have := HSM.out 0; simp [ByteArray.size]; omega) T2.size).mono ?_
  rintro e w3 ⟨rfl, hB3, b3⟩
  have T3 := T2.belowNew b3
  rw [show ([] : List Value) = Lib.byteCells [] from rfl, ncells_app, List.nil_append] at hB3
  obtain ⟨c0, c1, c2, c3, clt⟩ := HB.out _ (t1.trans T3)
  clear hB2 T2 b3
  go_wp2_with fail
  go_loopw [16] (fun v16 wr => ∃ k : Nat, k ≤ kn ∧ v16 = .int .i64 k ∧ Lib.IsBuilder 56 5 w1.heap.size w1.heap.size (Lib.byteCells (pre k)) wr ∧ Tch [] w1 wr) (fun v16 _ => kn - (intOf v16).toNat)
  case atStart => exact ⟨0, by omega, rfl, hB3, T3⟩
  case round =>
    obtain ⟨k, hk, rfl, hbk, T⟩ := hrel
    clear c0 c1 c2 c3 clt hB3 T3
    obtain ⟨c0, c1, c2, c3, clt⟩ := HB.out _ (t1.trans T)
    by_cases hkl : k < kn
    · have hklk : k < v.keys.length := by have := HN1.out.1; omega
      have hklx : k < v.vals.length := by have := HN1.out.2; omega
      have hget := List.getElem?_eq_getElem hklk
      have hgx := List.getElem?_eq_getElem hklx
      have hnv := HIS.out _ (T1.trans T)
      have ha := hnv.rk.some_ (by omega)
      have hbl := hnv.rk.lt (by omega)
      have x0 := hnv.rk.one hget (v := .string v.keys[k]) rfl
      have hax := hnv.rv.some_ (by omega)
      have hbx := hnv.rv.lt (by omega)
      have hbx1 := (HIS.out w1 T1).rv.lt (by omega)
      have y0 := hnv.rv.one hgx (v := Value.string v.vals[k]) rfl
      have hHS : pre (k + 1) = pre k ++ (tx v.keys[k] ++ tx v.vals[k]) := by rw [HPS.out k _ hget]; simp [enb, mkE, List.getD_eq_getElem?_getD, hgx]
      have hks := HKS.out _ (List.getElem_mem hklk)
      have hxs := HVS.out _ (List.getElem_mem hklx)
      have hpl := HSM.out (k + 1)
      have hpl0 := HSM.out k
      generalize v.keys[k] = key at *
      generalize v.vals[k] = x at *
      skip
      have hlen2 : (pre (k + 1)).length = (pre k).length + (tx key).length + (tx x).length := by rw [hHS]; simp; omega
      have HS2 : Hid ((pre k ++ tx key) ++ (tx x) = pre (k + 1)) := by show _ = _; rw [hHS, List.append_assoc]
      have HT1 := Lib.hid (HT.out key wr hks)
      have ha : ka = some ⟨v.kb, v.ko, none⟩ := by rw [← hka]; exact ha
      have hax : xa = some ⟨v.vb, v.vo, none⟩ := by rw [← hxa]; exact hax
      subst ha hax
      have hI : (k : Int) < (kn : Int) := by omega
      clear hHS hget hgx hnv hklk hklx
      go_wp2_with fail
      refine HT1.out.mono ?_
      rintro e w4 ⟨rfl, t4⟩
      have T4 := T.trans t4
      have hb4 := nbld_keep hbk t4 (by simp)
      clear HT1
      go_wp2_with fail
      refine (bwrite_any w1.heap.size w1.heap.size _ ⟨(tx key).toArray⟩ _ hb4 (by rw [Lib.byteCells_length]; simp [ByteArray.size]; omega) T4.size).mono ?_
      rintro e w5 ⟨rfl, hb5, b5⟩
      rw [ncells_app] at hb5
      have T5 := T4.belowNew b5
      obtain ⟨d0, d1, d2, d3, dlt⟩ := HB.out _ (t1.trans T5)
      have y5 : w5.cell? ⟨v.vb, v.vo + k, none⟩ = some (Value.string x) := (T5.cell hbx1 (by simp)).trans ((T.cell hbx1 (by simp)).symm.trans y0)
      have hbx5 : v.vb < w5.heap.size := Nat.lt_of_lt_of_le hbx1 T5.size
      have HX5 := Lib.hid (HT.out x w5 hxs)
      clear hb4 T4 b5 c0 c1 c2 c3 clt x0 y0
      go_wp2_with fail
      refine HX5.out.mono ?_
      rintro e w6 ⟨rfl, t6⟩
      have T6 := T5.trans t6
      have hb6 := nbld_keep hb5 t6 (by simp)
      clear HX5
      go_wp2_with fail
      refine (bwrite_any w1.heap.size w1.heap.size _ ⟨(tx x).toArray⟩ _ hb6 (by rw [Lib.byteCells_length, List.length_append]; simp [ByteArray.size]; omega) T6.size).mono ?_
      rintro e w7 ⟨rfl, hb7, b7⟩
      rw [ncells_app, HS2.out] at hb7
      have T7 := T6.belowNew b7
      go_wp2_with fail
      go_roundw
      case rel => exact ⟨k + 1, by omega, by go_num, hb7, T7⟩
      case measure => simp [intOf]; omega
    · obtain rfl : k = kn := by omega
      rw [HPA.out] at hbk
      clear c0 c1 c2 c3 clt
      go_wp2_with fail
      refine (Try.Builder_String_any w1.heap.size w1.heap.size _ wr hbk T.size).mono ?_
      rintro e w4 ⟨rfl, b4⟩
      go_wp2_with fail
      go_ret2
      refine ⟨rfl, T1.trans (T.belowNew b4)⟩

theorem encode_any : EncSpec := by
  intro v w h ho hc
  by_cases hf : v.fits = true
  · rw [if_pos hf, if_pos hf]
    rcases hl : v.leaf with _ | _
    · have := encode_kids v hl w h ho hc hf
      rw [hl] at this
      exact this
    · have := encode_leaf v hl w h ho hc hf
      rw [hl] at this
      exact this
  · rw [if_neg hf, if_neg hf]
    exact encode_no v w h ho hc (by simpa using hf)
end Go.Proofs.Ytlgfdfpafmopdaa
