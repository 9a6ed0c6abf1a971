/-
  Split of package node: the node alone, or as two, in new memory. Conditions: the node's lists and texts are short (Nv.Ok).
-/
import Derived.Test.YtlgfdfpafmopdaaNsm
import Derived.Test.YtlgfdfpafmopdaaNHm
namespace Go.Proofs.Ytlgfdfpafmopdaa
open Go.RowKit
set_option linter.unusedVariables false

/-- What Split answers: a list of nodes in new memory. -/
def SpNew (w : World) (leaf : Bool) (es : List En) (e : Ending) (w' : World) : Prop :=
  Tch [] w w' ∧ ∃ (us : List Nv) (g : Nat), e = .returned (.slice (some ⟨g, 0, none⟩) us.length us.length) ∧ w.heap.size ≤ g ∧ w'.heap[g]? = some (.cells (us.flatMap fNv).toArray 25 (0, 0)) ∧ us.map Nv.es = splitN leaf es ∧ ∀ u ∈ us, u.Good w' leaf u.es ∧ NwN w.heap.size u w'
theorem fNv_len (u : Nv) : (fNv u).length = 4 := rfl
theorem SpNew.one {w w2 w4 : World} {leaf : Bool} {es : List En} {u : Nv} (h1 : splitN leaf es = [es]) (T : Tch [] w w2) (t : Tch [] w2 w4) (hg : u.Good w4 leaf es) (hn : NwN w2.heap.size u w4) :
    SpNew w leaf es (.returned (.slice (some ⟨w4.heap.size, 0, none⟩) 1 1)) (w4.alloc (.cells #[.bool u.leaf, .slice u.ka u.kn u.kc, .slice u.va u.vn u.vc, .slice u.ia u.im u.ic] 25)) := by
  have tA : Tch [] w4 (w4.alloc (.cells #[.bool u.leaf, .slice u.ka u.kn u.kc, .slice u.va u.vn u.vc, .slice u.ia u.im u.ic] 25)) := (Tch.refl [] w4).alloc _
  have h2 := T.size
  have h3 := t.size
  refine ⟨(T.trans t).trans tA, [u], w4.heap.size, rfl, by omega, blk_new _ _, ?_, ?_⟩
  · rw [h1]; simp [hg.es]
  · intro x hx
    simp only [List.mem_singleton] at hx
    subst hx
    rw [hg.es]
    exact ⟨hg.keep0 tA, (hn.keep tA (by simp)).base h2⟩
theorem SpNew.two {w w2 w3 w4 : World} {leaf : Bool} {es xs ys : List En} {u z : Nv} (h1 : splitN leaf es = [xs, ys]) (T : Tch [] w w2) (t : Tch [] w2 w3) (t2 : Tch [] w3 w4) (hg : u.Good w3 leaf xs) (hn : NwN w2.heap.size u w3) (hg2 : z.Good w4 leaf ys) (hn2 : NwN w3.heap.size z w4) :
    SpNew w leaf es (.returned (.slice (some ⟨w4.heap.size, 0, none⟩) 2 2)) (w4.alloc (.cells #[.bool u.leaf, .slice u.ka u.kn u.kc, .slice u.va u.vn u.vc, .slice u.ia u.im u.ic, .bool z.leaf, .slice z.ka z.kn z.kc, .slice z.va z.vn z.vc, .slice z.ia z.im z.ic] 25)) := by
  have tA : Tch [] w4 (w4.alloc (.cells #[.bool u.leaf, .slice u.ka u.kn u.kc, .slice u.va u.vn u.vc, .slice u.ia u.im u.ic, .bool z.leaf, .slice z.ka z.kn z.kc, .slice z.va z.vn z.vc, .slice z.ia z.im z.ic] 25)) := (Tch.refl [] w4).alloc _
  have h2 := T.size
  have h3 := t.size
  have h4 := t2.size
  refine ⟨((T.trans t).trans t2).trans tA, [u, z], w4.heap.size, rfl, by omega, blk_new _ _, ?_, ?_⟩
  · rw [h1]; simp [hg.es, hg2.es]
  · intro x hx
    rcases List.mem_cons.1 hx with rfl | hx
    · rw [hg.es]
      exact ⟨(hg.keep0 t2).keep0 tA, ((hn.keep t2 (by simp)).keep tA (by simp)).base h2⟩
    · simp only [List.mem_singleton] at hx
      subst hx
      rw [hg2.es]
      exact ⟨hg2.keep0 tA, (hn2.keep tA (by simp)).base (by omega)⟩

set_option maxRecDepth 100000 in
set_option maxHeartbeats 1000000 in
theorem nsplit_any (v : Nv) (w : World) (h : IsNv w v) (ho : v.Ok) (hc : v.caps) : Calls Try.prog 16 #[.agg #[.bool v.leaf, .slice v.ka v.kn v.kc, .slice v.va v.vn v.vc, .slice v.ia v.im v.ic]] w (SpNew w v.leaf v.es) := by
  have T0 : Tch [] w (w.alloc (.cells #[.bool v.leaf, .slice v.ka v.kn v.kc, .slice v.va v.vn v.vc, .slice v.ia v.im v.ic] 25)) := (Tch.refl _ _).alloc _
  have HB : Hid (∀ w', Tch [] (w.alloc (.cells #[.bool v.leaf, .slice v.ka v.kn v.kc, .slice v.va v.vn v.vc, .slice v.ia v.im v.ic] 25)) w' → _) := fun w' t => nvb_cells w v.leaf v.ka v.va v.ia v.kn v.kc v.vn v.vc v.im v.ic t
  have hkl := h.rk.hlen
  have hk8 := ho.lk
  have hel := v.es_len
  have HPA : Hid (∀ i0 i1 w', i0 ≤ i1 → i1 ≤ v.kn → Tch [] w w' → Calls Try.prog 36 _ w' (NwPost w' v.leaf ((v.es.drop i0).take (i1 - i0)))) := fun i0 i1 w' h01 h1 t => npart_any i0 i1 v w' (h.keep0 t) ho h01 (by omega)
  have HWT : Hid (∀ w', Tch [] w w' → Calls Try.prog 14 _ w' fun e w2 => e = .returned (.int .i64 ((ndb v.leaf v.es).length : Nat)) ∧ Tch [] w' w2) := fun w' t => weight_any v w' (h.keep0 t) ho hc
  have hsm := ndb_small (leaf := v.leaf) (Nv.fine ho) (by rw [v.es_len]; exact ho.lk)
  have hall : (v.es.drop 0).take (v.kn - 0) = v.es := by rw [List.drop_zero, Nat.sub_zero, hkl, ← hel, List.take_length]
  obtain ⟨W1, hW1⟩ : ∃ W1, W1 = w.alloc (.cells #[.bool v.leaf, .slice v.ka v.kn v.kc, .slice v.va v.vn v.vc, .slice v.ia v.im v.ic] 25) := ⟨_, rfl⟩
  rw [← hW1] at HB T0
  obtain ⟨c0, c1, c2, c3, clt⟩ := HB.out W1 (Tch.refl _ _)
  by_cases hk2 : v.kn < 2
  · have HS : Hid (splitN v.leaf v.es = [v.es]) := by show _ = _; unfold splitN; rw [if_pos (Or.inr (by omega))]
    have HC := Lib.hid (HPA.out 0 v.kn W1 (by omega) (Nat.le_refl _) T0)
    rw [hall] at HC
    have hd : decide (v.kn < 2) = true := decide_eq_true hk2
    have hdi : decide ((v.kn : Int) < 2) = true := decide_eq_true (by omega)
    clear h ho hc hkl hk8 hel hall HPA HWT hsm HB
    go_enter Try.func16, Try.ntmps16
    go_wp2_with fail
    rw [← hW1]
    refine HC.out.mono ?_
    rintro e w4 ⟨t4, u, rfl, hg, hn, _⟩
    have HF := Lib.hid (SpNew.one HS.out T0 t4 hg hn)
    clear hg hn HC hW1
    go_wp2_with fail
    go_ret
    exact HF.out
  have hd : decide (v.kn < 2) = false := decide_eq_false hk2
  have hdi : decide ((v.kn : Int) < 2) = false := decide_eq_false (by omega)
  have HCW := Lib.hid (HWT.out W1 T0)
  by_cases hw : (ndb v.leaf v.es).length ≤ 1024
  · have HS : Hid (splitN v.leaf v.es = [v.es]) := by show _ = _; unfold splitN; rw [if_pos (Or.inl hw)]
    have HC : Hid (∀ w', Tch [] w w' → Calls Try.prog 36 _ w' (NwPost w' v.leaf v.es)) := fun w' t => by
      have := HPA.out 0 v.kn w' (by omega) (Nat.le_refl _) t
      rw [hall] at this
      exact this
    generalize (ndb v.leaf v.es).length = m at HCW hw
    have hdw : decide ((m : Int) ≤ 1024) = true := decide_eq_true (by omega)
    have hdw2 : decide (m ≤ 1024) = true := decide_eq_true hw
    clear h ho hc hkl hk8 hel hall HPA HWT hsm
    go_enter Try.func16, Try.ntmps16
    go_wp2_with fail
    rw [← hW1]
    refine HCW.out.mono ?_
    rintro e w2 ⟨rfl, t2⟩
    obtain ⟨d0, d1, d2, d3, dlt⟩ := HB.out _ t2
    have T2 := T0.trans t2
    have HC2 := Lib.hid (HC.out _ T2)
    clear HC HCW hW1
    go_wp2_with fail
    refine HC2.out.mono ?_
    rintro e w4 ⟨t4, u, rfl, hg, hn, _⟩
    have HF := Lib.hid (SpNew.one HS.out T2 t4 hg hn)
    clear hg hn HC2
    go_wp2_with fail
    go_ret
    exact HF.out
  · have hcf := cut_facts v.leaf v.es (v.es.flatMap (enb v.leaf)).length (v.es.length - 2) (by omega) (v.es.length - 2) 0 (by omega) (by omega) (by
      have h1 : wsum v.leaf v.es 0 = 0 := by simp [wsum]
      rw [h1]
      have h2 := ndb_head v
      have : (hdN v.leaf v.keys.length).size ≤ 1000 := by
        unfold hdN
        show (List.toArray _).size ≤ _
        rw [List.size_toArray, List.length_cons]
        have := ub10 v.keys.length (by omega)
        omega
      omega)
    obtain ⟨r, hr0, hr1, hr2, _⟩ := hcf
    have hcut : cutN v.leaf v.es = r := by
      rw [← hr0]
      unfold cutN
      have h1 : wsum v.leaf v.es 0 = 0 := by simp [wsum]
      rw [h1, List.drop_zero]
    have HMD : Hid (∀ w', Tch [] w w' → Calls Try.prog 37 _ w' fun e w2 => e = .returned (.int .i64 (r : Nat)) ∧ Tch [] w' w2) := fun w' t => by
      have := nmiddle_any v w' (h.keep0 t) ho (by omega)
      rw [hcut] at this
      exact this
    have HS : Hid (splitN v.leaf v.es = [(v.es.drop 0).take (r - 0), (v.es.drop r).take (v.kn - r)]) := by
      show _ = _
      unfold splitN
      rw [if_neg (by omega), hcut, List.drop_zero, Nat.sub_zero, hkl, ← hel, List.take_of_length_le (l := v.es.drop r) (by rw [List.length_drop]; omega)]
    have HP1 : Hid (∀ w', Tch [] w w' → Calls Try.prog 36 #[.agg #[.bool v.leaf, .slice v.ka v.kn v.kc, .slice v.va v.vn v.vc, .slice v.ia v.im v.ic], .int .i64 0, .int .i64 (r : Nat)] w' (NwPost w' v.leaf ((v.es.drop 0).take (r - 0)))) := fun w' t => HPA.out 0 r w' (by omega) (by omega) t
    have HP2 : Hid (∀ w', Tch [] w w' → Calls Try.prog 36 #[.agg #[.bool v.leaf, .slice v.ka v.kn v.kc, .slice v.va v.vn v.vc, .slice v.ia v.im v.ic], .int .i64 (r : Nat), .int .i64 (v.kn : Nat)] w' (NwPost w' v.leaf ((v.es.drop r).take (v.kn - r)))) := fun w' t => HPA.out r v.kn w' (by omega) (Nat.le_refl _) t
    have hr9 : r ≤ 100000000 := by omega
    generalize (ndb v.leaf v.es).length = m at HCW hw hsm
    generalize (v.es.drop 0).take (r - 0) = es1 at *
    generalize (v.es.drop r).take (v.kn - r) = es2 at *
    generalize v.es = es at HS hr2 ⊢
    have hdw : decide ((m : Int) ≤ 1024) = false := decide_eq_false (by omega)
    have hdw2 : decide (m ≤ 1024) = false := decide_eq_false hw
    clear h ho hc hkl hel hall HPA HWT hcut hr0
    go_enter Try.func16, Try.ntmps16
    go_wp2_with fail
    rw [← hW1]
    refine HCW.out.mono ?_
    rintro e w2 ⟨rfl, t2⟩
    obtain ⟨d0, d1, d2, d3, dlt⟩ := HB.out _ t2
    have T2 := T0.trans t2
    have HM2 := Lib.hid (HMD.out _ T2)
    clear HMD HCW hW1
    go_wp2_with fail
    refine HM2.out.mono ?_
    rintro e w3 ⟨rfl, t3⟩
    have T3 := T2.trans t3
    have HC : Hid (∀ w', Tch [] w3.drew w' → w'.cell? ⟨w.heap.size, 0, none⟩ = some (.bool v.leaf) ∧ w'.cell? ⟨w.heap.size, 1, none⟩ = some (.slice v.ka v.kn v.kc) ∧ w'.cell? ⟨w.heap.size, 2, none⟩ = some (.slice v.va v.vn v.vc) ∧ w'.cell? ⟨w.heap.size, 3, none⟩ = some (.slice v.ia v.im v.ic)) := fun w' t => by
      obtain ⟨c0, c1, c2, c3, _⟩ := HB.out w' (((t2.trans t3).drew).trans t)
      exact ⟨c0, c1, c2, c3⟩
    have T3d := T3.drew
    have HF : Hid (∀ w7 w8 u z, Tch [] w3.drew w7 → u.Good w7 v.leaf es1 → NwN w3.drew.heap.size u w7 → Tch [] w7 w8 → z.Good w8 v.leaf es2 → NwN w7.heap.size z w8 → _) := fun w7 w8 u z t7 hg hn t8 hg2 hn2 => SpNew.two HS.out T3d t7 t8 hg hn hg2 hn2
    clear HM2 d0 d1 d2 d3 dlt
    go_wp2_with fail
    go_region_held3 (fun w' => w'.cell? ⟨w.heap.size, 0, none⟩ = some (.bool v.leaf) ∧ w'.cell? ⟨w.heap.size, 1, none⟩ = some (.slice v.ka v.kn v.kc) ∧ w'.cell? ⟨w.heap.size, 2, none⟩ = some (.slice v.va v.vn v.vc) ∧ w'.cell? ⟨w.heap.size, 3, none⟩ = some (.slice v.ia v.im v.ic))
      (first | exact HC.out _ ((t7.trans t8).alloc _) | exact HC.out _ (t7.trans t8) | exact HC.out _ t7 | exact HC.out _ (Tch.refl _ _))
      (first
        | (go_at_call 36; (with_reducible refine (HP1.out _ T3d).mono ?_); rintro e w7 ⟨t7, u, rfl, hg, hn, _⟩)
        | (go_at_call 36; (with_reducible refine (HP2.out _ (T3d.trans t7)).mono ?_); rintro e w8 ⟨t8, z, rfl, hg2, hn2, _⟩))
    have HFF := Lib.hid (HF.out w7 w8 u z t7 hg hn t8 hg2 hn2)
    clear hg hn hg2 hn2
    go_wp2_with fail
    go_ret
    exact HFF.out
theorem split_any : SplSpec := by
  intro v w h ho hc
  refine (nsplit_any v w h ho hc).mono ?_
  rintro e w' ⟨t, us, g, he, hg, hb, hm, hu⟩
  refine ⟨t, us, some ⟨g, 0, none⟩, us.length, g, 0, he, Nat.le_refl _, ⟨rfl, Or.inr ⟨rfl, lt_of_block hb⟩, fun k x hk j y hy => ?_⟩, hm, fun u hu1 => (hu u hu1).1⟩
  rw [blk_cell hb, Nat.zero_add, List.getElem?_toArray]
  exact fm_at fNv_len us k x hk j y hy
end Go.Proofs.Ytlgfdfpafmopdaa
